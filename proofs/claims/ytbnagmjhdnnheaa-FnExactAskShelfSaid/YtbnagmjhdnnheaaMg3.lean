/-
  The contract of the model's function GrowPiece. Condition: texts have at most 2^22 bytes.
  The contracts of the model's functions l7Less and l7Put: a piece put among others in order, once. Condition: rows have at most 2^41 pieces.
  Help for the contracts of the program's pieces: parts of texts, where pieces begin, room of rows. No conditions.
  Plain mathematics of what is found, in order: by the text, then by the piece. No conditions.
  Plain mathematics of what marks find: pieces around twins of marks, twins that are false, the shelf of all texts, what is found by it. No conditions.
-/
import Derived.Test.YtbnagmjhdnnheaaMg2
import Derived.Test.YtbnagmjhdnnheaaProg
import Derived.Lib.Hide
import Derived.Deep.QuietTactic
import Derived.Deep.RegionHeld3
import Derived.BigQuiet
import Derived.IntWalk
namespace Go.Proofs.Ytbnagmjhdnnheaa
open Go.RowKit

theorem own_nil7 (b : Nat) : (Value.slice none 0 0).ownBlock ≠ some b := by simp [Value.ownBlock]
theorem below_set7 {B : Nat} {a w : World} (h : Below B a w) {b : Nat} (hb : B ≤ b) (j : Nat) (v : Value) : Below B a (w.setCell ⟨b, j, none⟩ v) := h.setCell (p := ⟨b, j, none⟩) hb v
theorem growT_triple {s t : ByteArray} {i j x y z : Int} {b : Bool} (h : growT s t i j = ((x, y, z), b)) : (∃ I J : Nat, i = I ∧ j = J ∧ sm s t I J ∧ b = true ∧ x = ((I - backP s t I J : Nat) : Int) ∧ y = ((J - backP s t I J : Nat) : Int) ∧ z = ((runP s t (I - backP s t I J) (J - backP s t I J) : Nat) : Int)) ∨ (¬ (0 ≤ i ∧ 0 ≤ j ∧ sm s t i.toNat j.toNat) ∧ b = false ∧ x = 0 ∧ y = 0 ∧ z = 0) := by
  by_cases hc : 0 ≤ i ∧ 0 ≤ j ∧ sm s t i.toNat j.toNat
  · left
    refine ⟨i.toNat, j.toNat, by omega, by omega, hc.2.2, ?_⟩
    rw [growT, if_pos hc, growN] at h
    simp only [Prod.mk.injEq] at h
    obtain ⟨⟨h1, h2, h3⟩, h4⟩ := h
    exact ⟨h4.symm, h1.symm, h2.symm, h3.symm⟩
  · right
    rw [growT_no hc] at h
    simp only [Prod.mk.injEq] at h
    obtain ⟨⟨h1, h2, h3⟩, h4⟩ := h
    exact ⟨hc, h4.symm, h1.symm, h2.symm, h3.symm⟩
theorem not_sm {s t : ByteArray} {i j : Nat} (h : ¬ sm s t i j) (hi : i < s.size) (hj : j < t.size) : ((s[i].toNat : Int) == (t[j].toNat : Int)) = false ∧ ((s[i].toNat : Int) != (t[j].toNat : Int)) = true := by
  have e : ¬ (s[i].toNat : Int) = (t[j].toNat : Int) := fun e => h ⟨hi, hj, by rw [bt_at hi, bt_at hj]; omega⟩
  have e2 : ((s[i].toNat : Int) == (t[j].toNat : Int)) = false := beq_eq_false_iff_ne.2 e
  exact ⟨e2, by rw [bne, e2]; rfl⟩
theorem is_sm {s t : ByteArray} {i j : Nat} (h : sm s t i j) (hi : i < s.size) (hj : j < t.size) : (s[i].toNat : Int) = (t[j].toNat : Int) ∧ ((s[i].toNat : Int) == (t[j].toNat : Int)) = true ∧ ((s[i].toNat : Int) != (t[j].toNat : Int)) = false := by
  have h3 := h.2.2
  rw [bt_at hi, bt_at hj] at h3
  have e : (s[i].toNat : Int) = (t[j].toNat : Int) := by omega
  have e2 : ((s[i].toNat : Int) == (t[j].toNat : Int)) = true := by rw [e]; exact beq_self_eq_true _
  exact ⟨e, e2, by rw [bne, e2]; rfl⟩

set_option maxRecDepth 4000 in
set_option maxHeartbeats 16000000 in
theorem specGrow_any (s t : ByteArray) (i j x y z : Int) (b : Bool) (w : World) (h : growT s t i j = ((x, y, z), b)) (hs : s.size ≤ 4194304) (ht : t.size ≤ 4194304) :
    Calls Try.prog 65 #[.string s, .string t, .int .i64 i, .int .i64 j] w fun e w' => e = .returned (.tuple #[.agg #[.int .i64 x, .int .i64 y, .int .i64 z], .bool b]) ∧ Below w.heap.size w w' := by
  rcases growT_triple h with ⟨I, J, rfl, rfl, hsm, rfl, hx, hy, hz⟩ | ⟨hno, rfl, rfl, rfl, rfl⟩
  · have HX := Lib.hid hx
    have HY := Lib.hid hy
    have HZ := Lib.hid hz
    clear h hx hy hz
    have hI := hsm.1
    have hJ := hsm.2.1
    obtain ⟨_, tb, tb2⟩ := is_sm hsm hI hJ
    have z2 : (I : Int) < (s.size : Int) := by omega
    have z3 : (J : Int) < (t.size : Int) := by omega
    have z4 : (0 : Int) ≤ (I : Int) := by omega
    have z5 : (0 : Int) ≤ (J : Int) := by omega
    have d0 : decide ((I : Int) < 0) = false := decide_eq_false (by omega)
    have d1 : decide ((J : Int) < 0) = false := decide_eq_false (by omega)
    have d2 : decide (s.size ≤ I) = false := decide_eq_false (by omega)
    have d3 : decide (t.size ≤ J) = false := decide_eq_false (by omega)
    have d4 : decide ((s.size : Int) ≤ (I : Int)) = false := decide_eq_false (by omega)
    have d5 : decide ((t.size : Int) ≤ (J : Int)) = false := decide_eq_false (by omega)
    clear hsm
    go_enter Try.func65, Try.ntmps65
    go_wp2
    go_quiet (fail)
    go_wp2
    have hs8 : Side (((w.alloc (.cells #[.int .i64 0, .int .i64 0, .int .i64 0] 88)).drewN nq).alloc (.cells #[.int .i64 (I : Int), .int .i64 (J : Int), .int .i64 0] 88)) w.heap.size (.slice none 0 0) 88 w.heap.size [.int .i64 0, .int .i64 0, .int .i64 0] :=
      ((Side.fresh (w := w) (B := w.heap.size) (v := .slice none 0 0) 88 [.int .i64 0, .int .i64 0, .int .i64 0] (Nat.le_refl _) (by intro k hk; simp [Value.ownBlock] at hk)).drewN nq).later ((Below.refl _ _).alloc (Nat.le_refl _) _)
    have hs10 : Side (((w.alloc (.cells #[.int .i64 0, .int .i64 0, .int .i64 0] 88)).drewN nq).alloc (.cells #[.int .i64 (I : Int), .int .i64 (J : Int), .int .i64 0] 88)) w.heap.size (.slice none 0 0) 88 (w.heap.size + 1) [.int .i64 (I : Int), .int .i64 (J : Int), .int .i64 0] := by
      have h1 := Side.fresh (w := (w.alloc (.cells #[.int .i64 0, .int .i64 0, .int .i64 0] 88)).drewN nq) (B := w.heap.size) (v := .slice none 0 0) 88 [.int .i64 (I : Int), .int .i64 (J : Int), .int .i64 0] (by show w.heap.size ≤ (w.alloc (.cells #[.int .i64 0, .int .i64 0, .int .i64 0] 88)).heap.size; simp) (by intro k hk; simp [Value.ownBlock] at hk)
      rw [show ((w.alloc (.cells #[.int .i64 0, .int .i64 0, .int .i64 0] 88)).drewN nq).heap.size = w.heap.size + 1 from by show (w.alloc (.cells #[.int .i64 0, .int .i64 0, .int .i64 0] 88)).heap.size = _; simp] at h1
      exact h1
    have hb0 : Below w.heap.size w (((w.alloc (.cells #[.int .i64 0, .int .i64 0, .int .i64 0] 88)).drewN nq).alloc (.cells #[.int .i64 (I : Int), .int .i64 (J : Int), .int .i64 0] 88)) := (below_drewN' ((Below.refl _ _).alloc (Nat.le_refl _) _) nq).alloc (by show w.heap.size ≤ (w.alloc (.cells #[.int .i64 0, .int .i64 0, .int .i64 0] 88)).heap.size; simp) _
    obtain ⟨w1, hw1⟩ : ∃ w1, ((w.alloc (.cells #[.int .i64 0, .int .i64 0, .int .i64 0] 88)).drewN nq).alloc (.cells #[.int .i64 (I : Int), .int .i64 (J : Int), .int .i64 0] 88) = w1 := ⟨_, rfl⟩
    obtain ⟨g, hg⟩ : ∃ g, w.heap.size + 1 = g := ⟨_, rfl⟩
    obtain ⟨h8, hh8⟩ : ∃ g, w.heap.size = g := ⟨_, rfl⟩
    have HB8 := Lib.hid hh8
    have hgne : h8 ≠ g := by omega
    rw [hw1] at hs8 hs10 hb0
    rw [hg] at hs10
    have hs8 : Side w1 w.heap.size (.slice none 0 0) 88 h8 [.int .i64 0, .int .i64 0, .int .i64 0] := by rw [← hh8]; exact hs8
    rw [hw1, hg, hh8]
    clear hw1 hg hh8 tb tb2 d0 d1 d2 d3 d4 d5
    go_loopw [] (fun wr => ∃ k P Q : Nat, k ≤ backP s t I J ∧ P + k = I ∧ Q + k = J ∧ Hid (Side wr w.heap.size (.slice none 0 0) 88 g [.int .i64 (P : Int), .int .i64 (Q : Int), .int .i64 0]) ∧ Hid (Side wr w.heap.size (.slice none 0 0) 88 h8 [.int .i64 0, .int .i64 0, .int .i64 0]) ∧ Below w.heap.size w wr) (fun wr => cellN wr g 0)
    case atStart => exact ⟨0, I, J, Nat.zero_le _, rfl, rfl, Lib.hid hs10, Lib.hid hs8, hb0⟩
    case round =>
      clear hs8 hs10 hb0
      obtain ⟨k, P, Q, hk, hP, hQ, HG, H8, B⟩ := hrel
      have hP9 : P ≤ 4194304 := by omega
      have hQ9 : Q ≤ 4194304 := by omega
      have htest := back_test hk
      rw [show I - k = P by omega, show J - k = Q by omega] at htest
      have HPI := Lib.hid hP
      have HQJ := Lib.hid hQ
      by_cases hlt : k < backP s t I J
      · obtain ⟨h1, h2, h3⟩ := htest.2 hlt
        obtain ⟨p, rfl⟩ : ∃ p, P = p + 1 := ⟨P - 1, by omega⟩
        obtain ⟨q, rfl⟩ : ∃ p, Q = p + 1 := ⟨Q - 1, by omega⟩
        rw [Nat.add_sub_cancel, Nat.add_sub_cancel] at h3
        have hp := h3.1
        have hq := h3.2.1
        obtain ⟨_, tb, _⟩ := is_sm h3 hp hq
        have c1 : wr.cell? ⟨g, 0, none⟩ = some (.int .i64 ((p : Int) + 1)) := by have h := HG.out.cell 0 _ rfl; simpa using h
        have c2 : wr.cell? ⟨g, 1, none⟩ = some (.int .i64 ((q : Int) + 1)) := by have h := HG.out.cell 1 _ rfl; simpa using h
        have HSX := Lib.hid (show ∀ u, Side (((wr.drewN u).setCell ⟨g, 0, none⟩ (.int .i64 (p : Int))).setCell ⟨g, 1, none⟩ (.int .i64 (q : Int))) w.heap.size (.slice none 0 0) 88 g [.int .i64 (p : Int), .int .i64 (q : Int), .int .i64 0] from fun u => ((HG.out.drewN u).set_self 0 (.int .i64 (p : Int))).set_self 1 (.int .i64 (q : Int)))
        have HSY := Lib.hid (show ∀ u, Side (((wr.drewN u).setCell ⟨g, 0, none⟩ (.int .i64 (p : Int))).setCell ⟨g, 1, none⟩ (.int .i64 (q : Int))) w.heap.size (.slice none 0 0) 88 h8 [.int .i64 0, .int .i64 0, .int .i64 0] from fun u => ((H8.out.drewN u).set_other hgne 0 _).set_other hgne 1 _)
        have HGB := Lib.hid HG.out.base
        have r1 := HG.out.frozen 0
        have r2 := HG.out.frozen 1
        have e1 : IntKind.i64.wrap ((p : Int) + 1 - 1) = (p : Int) := by rw [IntWalk.i64_in _ (by omega)]; omega
        have e2 : IntKind.i64.wrap ((q : Int) + 1 - 1) = (q : Int) := by rw [IntWalk.i64_in _ (by omega)]; omega
        have e3 : (p : Int) + 1 - 1 = (p : Int) := by omega
        have e4 : (q : Int) + 1 - 1 = (q : Int) := by omega
        have e5 : IntKind.i64.wrap (p : Int) = (p : Int) := IntWalk.i64_in _ (by omega)
        have e6 : IntKind.i64.wrap (q : Int) = (q : Int) := IntWalk.i64_in _ (by omega)
        have y1 : (0 : Int) < (p : Int) + 1 := by omega
        have y2 : (0 : Int) < (q : Int) + 1 := by omega
        have y3 : (p : Int) < (s.size : Int) := by omega
        have y4 : (q : Int) < (t.size : Int) := by omega
        have y5 : (0 : Int) ≤ (p : Int) := by omega
        have y6 : (0 : Int) ≤ (q : Int) := by omega
        have x1 : decide ((0 : Int) < (p : Int) + 1) = true := decide_eq_true y1
        have x2 : decide ((0 : Int) < (q : Int) + 1) = true := decide_eq_true y2
        have hme : cellN wr g 0 = p + 1 := by rw [cellN_is (HG.out.cell 0 _ rfl)]; omega
        have HME := Lib.hid hme
        clear h3 htest hP hQ h1 h2 hme
        go_wp2
        go_quiet (fail)
        go_wp2
        go_roundw
        case rel => exact ⟨k + 1, p, q, by omega, by have := HPI.out; omega, by have := HQJ.out; omega, Lib.hid (HSX.out _), Lib.hid (HSY.out _), (below_drewN' B _).setCell (p := ⟨g, 0, none⟩) HGB.out _ |>.setCell (p := ⟨g, 1, none⟩) HGB.out _⟩
        case measure => rw [HME.out, cellN_is ((HSX.out _).cell 0 _ rfl)]; omega
      · have hkb : k = backP s t I J := by omega
        have hno3 : ¬ (0 < P ∧ 0 < Q ∧ sm s t (P - 1) (Q - 1)) := fun e => hlt (htest.1 e)
        have HX2 := Lib.hid (show x = (P : Int) by rw [HX.out]; omega)
        have HY2 := Lib.hid (show y = (Q : Int) by rw [HY.out]; omega)
        have HZ2 := Lib.hid (show z = ((runP s t P Q : Nat) : Int) by rw [HZ.out, show I - backP s t I J = P by omega, show J - backP s t I J = Q by omega])
        have hPs : P ≤ s.size := by omega
        have hQs : Q ≤ t.size := by omega
        clear htest hP hQ hlt hkb hk HX HY HZ HPI HQJ
        have c1 := HG.out.cell 0 _ rfl
        have c2 := HG.out.cell 1 _ rfl
        by_cases hp0 : P = 0
        · have x1 : decide (0 < P) = false := decide_eq_false (by omega)
          have y1 : ¬ (0 : Int) < (P : Int) := by omega
          clear hp0
          clear hno3
          have HGB := Lib.hid HG.out.base
          go_wp2
          go_quiet (fail)
          go_wp2
          obtain ⟨wo, rfl⟩ : ∃ wo, wo = wr := ⟨_, rfl⟩
          obtain ⟨wq, hwq⟩ : ∃ wq, wo.drewN nq = wq := ⟨_, rfl⟩
          have HG := Lib.hid (show Side wq w.heap.size (.slice none 0 0) 88 g [.int .i64 (P : Int), .int .i64 (Q : Int), .int .i64 0] from hwq ▸ HG.out.drewN _)
          have H8 := Lib.hid (show Side wq w.heap.size (.slice none 0 0) 88 h8 [.int .i64 0, .int .i64 0, .int .i64 0] from hwq ▸ H8.out.drewN _)
          have B : Below w.heap.size w wq := hwq ▸ below_drewN' B _
          rw [hwq]
          clear hwq c1 c2
          go_loopw [] (fun wr => ∃ L : Nat, L ≤ runP s t P Q ∧ Hid (Side wr w.heap.size (.slice none 0 0) 88 g [.int .i64 (P : Int), .int .i64 (Q : Int), .int .i64 (L : Int)]) ∧ Hid (Side wr w.heap.size (.slice none 0 0) 88 h8 [.int .i64 0, .int .i64 0, .int .i64 0]) ∧ Below w.heap.size w wr) (fun wr => s.size - cellN wr g 2)
          case atStart => exact ⟨0, Nat.zero_le _, HG, H8, B⟩
          case round =>
            obtain ⟨L, hL, HG, H8, B⟩ := hrel
            have hroom := runP_room s t P Q hPs hQs
            have hL9 : L ≤ 4194304 := by omega
            have htest := run_test hL
            obtain ⟨m, hm⟩ : ∃ m, P + L = m := ⟨_, rfl⟩
            obtain ⟨n, hn⟩ : ∃ m, Q + L = m := ⟨_, rfl⟩
            rw [hm, hn] at htest
            have f1 : (P : Int) + (L : Int) = (m : Int) := by omega
            have f2 : (Q : Int) + (L : Int) = (n : Int) := by omega
            have hm9 : m ≤ 4194304 := by omega
            have hn9 : n ≤ 4194304 := by omega
            have f3 : IntKind.i64.wrap (m : Int) = (m : Int) := IntWalk.i64_in _ (by omega)
            have f4 : IntKind.i64.wrap (n : Int) = (n : Int) := IntWalk.i64_in _ (by omega)
            have c1 := HG.out.cell 0 _ rfl
            have c2 := HG.out.cell 1 _ rfl
            have c3 := HG.out.cell 2 _ rfl
            have y5 : (0 : Int) ≤ (m : Int) := by omega
            have y6 : (0 : Int) ≤ (n : Int) := by omega
            have HMM := Lib.hid hm
            by_cases hlt : L < runP s t P Q
            · have h3 := htest.2 hlt
              have hp := h3.1
              have hq := h3.2.1
              obtain ⟨_, tb, _⟩ := is_sm h3 hp hq
              have HSX := Lib.hid (show ∀ u, Side ((wr.drewN u).setCell ⟨g, 2, none⟩ (.int .i64 ((L : Int) + 1))) w.heap.size (.slice none 0 0) 88 g [.int .i64 (P : Int), .int .i64 (Q : Int), .int .i64 ((L : Int) + 1)] from fun u => (HG.out.drewN u).set_self 2 (.int .i64 ((L : Int) + 1)))
              have HSY := Lib.hid (show ∀ u, Side ((wr.drewN u).setCell ⟨g, 2, none⟩ (.int .i64 ((L : Int) + 1))) w.heap.size (.slice none 0 0) 88 h8 [.int .i64 0, .int .i64 0, .int .i64 0] from fun u => (H8.out.drewN u).set_other hgne 2 _)
              have r3 := HG.out.frozen 2
              have y3 : (m : Int) < (s.size : Int) := by omega
              have y4 : (n : Int) < (t.size : Int) := by omega
              have x1 : decide (m < s.size) = true := decide_eq_true hp
              have x2 : decide (n < t.size) = true := decide_eq_true hq
              have x3 : decide ((m : Int) < (s.size : Int)) = true := decide_eq_true y3
              have x4 : decide ((n : Int) < (t.size : Int)) = true := decide_eq_true y4
              have hme : cellN wr g 2 = L := by rw [cellN_is c3]; omega
              have HME := Lib.hid hme
              have HLS := Lib.hid (show L < s.size by omega)
              clear h3 htest hm hn hroom hme
              go_wp2
              go_quiet (fail)
              go_wp2
              go_roundw
              case rel => exact ⟨L + 1, by omega, Lib.hid (by rw [show ((L + 1 : Nat) : Int) = (L : Int) + 1 from by omega]; exact HSX.out _), Lib.hid (HSY.out _), (below_drewN' B _).setCell (p := ⟨g, 2, none⟩) HGB.out _⟩
              case measure => rw [HME.out, cellN_is ((HSX.out _).cell 2 _ rfl)]; have := HLS.out; omega
            · have HZ3 := Lib.hid (show z = (L : Int) by rw [HZ2.out]; omega)
              have hno4 : ¬ sm s t m n := fun e => hlt (htest.1 e)
              clear htest
              by_cases hm2 : m < s.size
              · have x3 : decide (m < s.size) = true := decide_eq_true hm2
                have y3 : (m : Int) < (s.size : Int) := by omega
                by_cases hn2 : n < t.size
                · obtain ⟨tb, _⟩ := not_sm hno4 hm2 hn2
                  have x4 : decide (n < t.size) = true := decide_eq_true hn2
                  have y4 : (n : Int) < (t.size : Int) := by omega
                  clear hno4
                  have HSX := Lib.hid (show ∀ u, Side ((((wr.drewN u).setCell ⟨h8, 0, none⟩ (.int .i64 (P : Int))).setCell ⟨h8, 1, none⟩ (.int .i64 (Q : Int))).setCell ⟨h8, 2, none⟩ (.int .i64 (L : Int))) w.heap.size (.slice none 0 0) 88 h8 [.int .i64 (P : Int), .int .i64 (Q : Int), .int .i64 (L : Int)] from fun u => (((H8.out.drewN u).set_self 0 _).set_self 1 _).set_self 2 _)
                  have HHB := Lib.hid H8.out.base
                  have k1 := H8.out.cell 0 _ rfl
                  have k2 := H8.out.cell 1 _ rfl
                  have k3 := H8.out.cell 2 _ rfl
                  have r1 := H8.out.frozen 0
                  have r2 := H8.out.frozen 1
                  have r3 := H8.out.frozen 2
                  clear hm hn hroom hlt
                  go_wp2
                  go_quiet (fail)
                  go_wp2
                  have q1 := fun u => (HSX.out u).cell 0 _ rfl
                  have q2 := fun u => (HSX.out u).cell 1 _ rfl
                  have q3 := fun u => (HSX.out u).cell 2 _ rfl
                  refine bodyPost_ret (v := .tuple #[.agg #[.int .i64 (P : Int), .int .i64 (Q : Int), .int .i64 (L : Int)], .bool true]) (by simp [results, Try.results65, go_sem, q1, q2, q3]) rfl ⟨by rw [HX2.out, HY2.out, HZ3.out], ?_⟩
                  exact below_set7 (below_set7 (below_set7 (below_drewN' B _) HHB.out _ _) HHB.out _ _) HHB.out _ _
                · have x4 : decide (n < t.size) = false := decide_eq_false hn2
                  have y4 : ¬ (n : Int) < (t.size : Int) := by omega
                  clear hno4
                  have HSX := Lib.hid (show ∀ u, Side ((((wr.drewN u).setCell ⟨h8, 0, none⟩ (.int .i64 (P : Int))).setCell ⟨h8, 1, none⟩ (.int .i64 (Q : Int))).setCell ⟨h8, 2, none⟩ (.int .i64 (L : Int))) w.heap.size (.slice none 0 0) 88 h8 [.int .i64 (P : Int), .int .i64 (Q : Int), .int .i64 (L : Int)] from fun u => (((H8.out.drewN u).set_self 0 _).set_self 1 _).set_self 2 _)
                  have HHB := Lib.hid H8.out.base
                  have k1 := H8.out.cell 0 _ rfl
                  have k2 := H8.out.cell 1 _ rfl
                  have k3 := H8.out.cell 2 _ rfl
                  have r1 := H8.out.frozen 0
                  have r2 := H8.out.frozen 1
                  have r3 := H8.out.frozen 2
                  clear hm hn hroom hlt
                  go_wp2
                  go_quiet (fail)
                  go_wp2
                  have q1 := fun u => (HSX.out u).cell 0 _ rfl
                  have q2 := fun u => (HSX.out u).cell 1 _ rfl
                  have q3 := fun u => (HSX.out u).cell 2 _ rfl
                  refine bodyPost_ret (v := .tuple #[.agg #[.int .i64 (P : Int), .int .i64 (Q : Int), .int .i64 (L : Int)], .bool true]) (by simp [results, Try.results65, go_sem, q1, q2, q3]) rfl ⟨by rw [HX2.out, HY2.out, HZ3.out], ?_⟩
                  exact below_set7 (below_set7 (below_set7 (below_drewN' B _) HHB.out _ _) HHB.out _ _) HHB.out _ _
              · have x3 : decide (m < s.size) = false := decide_eq_false hm2
                have y3 : ¬ (m : Int) < (s.size : Int) := by omega
                clear hno4
                have HSX := Lib.hid (show ∀ u, Side ((((wr.drewN u).setCell ⟨h8, 0, none⟩ (.int .i64 (P : Int))).setCell ⟨h8, 1, none⟩ (.int .i64 (Q : Int))).setCell ⟨h8, 2, none⟩ (.int .i64 (L : Int))) w.heap.size (.slice none 0 0) 88 h8 [.int .i64 (P : Int), .int .i64 (Q : Int), .int .i64 (L : Int)] from fun u => (((H8.out.drewN u).set_self 0 _).set_self 1 _).set_self 2 _)
                have HHB := Lib.hid H8.out.base
                have k1 := H8.out.cell 0 _ rfl
                have k2 := H8.out.cell 1 _ rfl
                have k3 := H8.out.cell 2 _ rfl
                have r1 := H8.out.frozen 0
                have r2 := H8.out.frozen 1
                have r3 := H8.out.frozen 2
                clear hm hn hroom hlt
                go_wp2
                go_quiet (fail)
                go_wp2
                have q1 := fun u => (HSX.out u).cell 0 _ rfl
                have q2 := fun u => (HSX.out u).cell 1 _ rfl
                have q3 := fun u => (HSX.out u).cell 2 _ rfl
                refine bodyPost_ret (v := .tuple #[.agg #[.int .i64 (P : Int), .int .i64 (Q : Int), .int .i64 (L : Int)], .bool true]) (by simp [results, Try.results65, go_sem, q1, q2, q3]) rfl ⟨by rw [HX2.out, HY2.out, HZ3.out], ?_⟩
                exact below_set7 (below_set7 (below_set7 (below_drewN' B _) HHB.out _ _) HHB.out _ _) HHB.out _ _
        · have x1 : decide (0 < P) = true := decide_eq_true (by omega)
          have y1 : (0 : Int) < (P : Int) := by omega
          by_cases hq0 : Q = 0
          · have x2 : decide (0 < Q) = false := decide_eq_false (by omega)
            have y2 : ¬ (0 : Int) < (Q : Int) := by omega
            clear hq0 hp0
            clear hno3
            have HGB := Lib.hid HG.out.base
            go_wp2
            go_quiet (fail)
            go_wp2
            obtain ⟨wo, rfl⟩ : ∃ wo, wo = wr := ⟨_, rfl⟩
            obtain ⟨wq, hwq⟩ : ∃ wq, wo.drewN nq = wq := ⟨_, rfl⟩
            have HG := Lib.hid (show Side wq w.heap.size (.slice none 0 0) 88 g [.int .i64 (P : Int), .int .i64 (Q : Int), .int .i64 0] from hwq ▸ HG.out.drewN _)
            have H8 := Lib.hid (show Side wq w.heap.size (.slice none 0 0) 88 h8 [.int .i64 0, .int .i64 0, .int .i64 0] from hwq ▸ H8.out.drewN _)
            have B : Below w.heap.size w wq := hwq ▸ below_drewN' B _
            rw [hwq]
            clear hwq c1 c2
            go_loopw [] (fun wr => ∃ L : Nat, L ≤ runP s t P Q ∧ Hid (Side wr w.heap.size (.slice none 0 0) 88 g [.int .i64 (P : Int), .int .i64 (Q : Int), .int .i64 (L : Int)]) ∧ Hid (Side wr w.heap.size (.slice none 0 0) 88 h8 [.int .i64 0, .int .i64 0, .int .i64 0]) ∧ Below w.heap.size w wr) (fun wr => s.size - cellN wr g 2)
            case atStart => exact ⟨0, Nat.zero_le _, HG, H8, B⟩
            case round =>
              obtain ⟨L, hL, HG, H8, B⟩ := hrel
              have hroom := runP_room s t P Q hPs hQs
              have hL9 : L ≤ 4194304 := by omega
              have htest := run_test hL
              obtain ⟨m, hm⟩ : ∃ m, P + L = m := ⟨_, rfl⟩
              obtain ⟨n, hn⟩ : ∃ m, Q + L = m := ⟨_, rfl⟩
              rw [hm, hn] at htest
              have f1 : (P : Int) + (L : Int) = (m : Int) := by omega
              have f2 : (Q : Int) + (L : Int) = (n : Int) := by omega
              have hm9 : m ≤ 4194304 := by omega
              have hn9 : n ≤ 4194304 := by omega
              have f3 : IntKind.i64.wrap (m : Int) = (m : Int) := IntWalk.i64_in _ (by omega)
              have f4 : IntKind.i64.wrap (n : Int) = (n : Int) := IntWalk.i64_in _ (by omega)
              have c1 := HG.out.cell 0 _ rfl
              have c2 := HG.out.cell 1 _ rfl
              have c3 := HG.out.cell 2 _ rfl
              have y5 : (0 : Int) ≤ (m : Int) := by omega
              have y6 : (0 : Int) ≤ (n : Int) := by omega
              have HMM := Lib.hid hm
              by_cases hlt : L < runP s t P Q
              · have h3 := htest.2 hlt
                have hp := h3.1
                have hq := h3.2.1
                obtain ⟨_, tb, _⟩ := is_sm h3 hp hq
                have HSX := Lib.hid (show ∀ u, Side ((wr.drewN u).setCell ⟨g, 2, none⟩ (.int .i64 ((L : Int) + 1))) w.heap.size (.slice none 0 0) 88 g [.int .i64 (P : Int), .int .i64 (Q : Int), .int .i64 ((L : Int) + 1)] from fun u => (HG.out.drewN u).set_self 2 (.int .i64 ((L : Int) + 1)))
                have HSY := Lib.hid (show ∀ u, Side ((wr.drewN u).setCell ⟨g, 2, none⟩ (.int .i64 ((L : Int) + 1))) w.heap.size (.slice none 0 0) 88 h8 [.int .i64 0, .int .i64 0, .int .i64 0] from fun u => (H8.out.drewN u).set_other hgne 2 _)
                have r3 := HG.out.frozen 2
                have y3 : (m : Int) < (s.size : Int) := by omega
                have y4 : (n : Int) < (t.size : Int) := by omega
                have x1 : decide (m < s.size) = true := decide_eq_true hp
                have x2 : decide (n < t.size) = true := decide_eq_true hq
                have x3 : decide ((m : Int) < (s.size : Int)) = true := decide_eq_true y3
                have x4 : decide ((n : Int) < (t.size : Int)) = true := decide_eq_true y4
                have hme : cellN wr g 2 = L := by rw [cellN_is c3]; omega
                have HME := Lib.hid hme
                have HLS := Lib.hid (show L < s.size by omega)
                clear h3 htest hm hn hroom hme
                go_wp2
                go_quiet (fail)
                go_wp2
                go_roundw
                case rel => exact ⟨L + 1, by omega, Lib.hid (by rw [show ((L + 1 : Nat) : Int) = (L : Int) + 1 from by omega]; exact HSX.out _), Lib.hid (HSY.out _), (below_drewN' B _).setCell (p := ⟨g, 2, none⟩) HGB.out _⟩
                case measure => rw [HME.out, cellN_is ((HSX.out _).cell 2 _ rfl)]; have := HLS.out; omega
              · have HZ3 := Lib.hid (show z = (L : Int) by rw [HZ2.out]; omega)
                have hno4 : ¬ sm s t m n := fun e => hlt (htest.1 e)
                clear htest
                by_cases hm2 : m < s.size
                · have x3 : decide (m < s.size) = true := decide_eq_true hm2
                  have y3 : (m : Int) < (s.size : Int) := by omega
                  by_cases hn2 : n < t.size
                  · obtain ⟨tb, _⟩ := not_sm hno4 hm2 hn2
                    have x4 : decide (n < t.size) = true := decide_eq_true hn2
                    have y4 : (n : Int) < (t.size : Int) := by omega
                    clear hno4
                    have HSX := Lib.hid (show ∀ u, Side ((((wr.drewN u).setCell ⟨h8, 0, none⟩ (.int .i64 (P : Int))).setCell ⟨h8, 1, none⟩ (.int .i64 (Q : Int))).setCell ⟨h8, 2, none⟩ (.int .i64 (L : Int))) w.heap.size (.slice none 0 0) 88 h8 [.int .i64 (P : Int), .int .i64 (Q : Int), .int .i64 (L : Int)] from fun u => (((H8.out.drewN u).set_self 0 _).set_self 1 _).set_self 2 _)
                    have HHB := Lib.hid H8.out.base
                    have k1 := H8.out.cell 0 _ rfl
                    have k2 := H8.out.cell 1 _ rfl
                    have k3 := H8.out.cell 2 _ rfl
                    have r1 := H8.out.frozen 0
                    have r2 := H8.out.frozen 1
                    have r3 := H8.out.frozen 2
                    clear hm hn hroom hlt
                    go_wp2
                    go_quiet (fail)
                    go_wp2
                    have q1 := fun u => (HSX.out u).cell 0 _ rfl
                    have q2 := fun u => (HSX.out u).cell 1 _ rfl
                    have q3 := fun u => (HSX.out u).cell 2 _ rfl
                    refine bodyPost_ret (v := .tuple #[.agg #[.int .i64 (P : Int), .int .i64 (Q : Int), .int .i64 (L : Int)], .bool true]) (by simp [results, Try.results65, go_sem, q1, q2, q3]) rfl ⟨by rw [HX2.out, HY2.out, HZ3.out], ?_⟩
                    exact below_set7 (below_set7 (below_set7 (below_drewN' B _) HHB.out _ _) HHB.out _ _) HHB.out _ _
                  · have x4 : decide (n < t.size) = false := decide_eq_false hn2
                    have y4 : ¬ (n : Int) < (t.size : Int) := by omega
                    clear hno4
                    have HSX := Lib.hid (show ∀ u, Side ((((wr.drewN u).setCell ⟨h8, 0, none⟩ (.int .i64 (P : Int))).setCell ⟨h8, 1, none⟩ (.int .i64 (Q : Int))).setCell ⟨h8, 2, none⟩ (.int .i64 (L : Int))) w.heap.size (.slice none 0 0) 88 h8 [.int .i64 (P : Int), .int .i64 (Q : Int), .int .i64 (L : Int)] from fun u => (((H8.out.drewN u).set_self 0 _).set_self 1 _).set_self 2 _)
                    have HHB := Lib.hid H8.out.base
                    have k1 := H8.out.cell 0 _ rfl
                    have k2 := H8.out.cell 1 _ rfl
                    have k3 := H8.out.cell 2 _ rfl
                    have r1 := H8.out.frozen 0
                    have r2 := H8.out.frozen 1
                    have r3 := H8.out.frozen 2
                    clear hm hn hroom hlt
                    go_wp2
                    go_quiet (fail)
                    go_wp2
                    have q1 := fun u => (HSX.out u).cell 0 _ rfl
                    have q2 := fun u => (HSX.out u).cell 1 _ rfl
                    have q3 := fun u => (HSX.out u).cell 2 _ rfl
                    refine bodyPost_ret (v := .tuple #[.agg #[.int .i64 (P : Int), .int .i64 (Q : Int), .int .i64 (L : Int)], .bool true]) (by simp [results, Try.results65, go_sem, q1, q2, q3]) rfl ⟨by rw [HX2.out, HY2.out, HZ3.out], ?_⟩
                    exact below_set7 (below_set7 (below_set7 (below_drewN' B _) HHB.out _ _) HHB.out _ _) HHB.out _ _
                · have x3 : decide (m < s.size) = false := decide_eq_false hm2
                  have y3 : ¬ (m : Int) < (s.size : Int) := by omega
                  clear hno4
                  have HSX := Lib.hid (show ∀ u, Side ((((wr.drewN u).setCell ⟨h8, 0, none⟩ (.int .i64 (P : Int))).setCell ⟨h8, 1, none⟩ (.int .i64 (Q : Int))).setCell ⟨h8, 2, none⟩ (.int .i64 (L : Int))) w.heap.size (.slice none 0 0) 88 h8 [.int .i64 (P : Int), .int .i64 (Q : Int), .int .i64 (L : Int)] from fun u => (((H8.out.drewN u).set_self 0 _).set_self 1 _).set_self 2 _)
                  have HHB := Lib.hid H8.out.base
                  have k1 := H8.out.cell 0 _ rfl
                  have k2 := H8.out.cell 1 _ rfl
                  have k3 := H8.out.cell 2 _ rfl
                  have r1 := H8.out.frozen 0
                  have r2 := H8.out.frozen 1
                  have r3 := H8.out.frozen 2
                  clear hm hn hroom hlt
                  go_wp2
                  go_quiet (fail)
                  go_wp2
                  have q1 := fun u => (HSX.out u).cell 0 _ rfl
                  have q2 := fun u => (HSX.out u).cell 1 _ rfl
                  have q3 := fun u => (HSX.out u).cell 2 _ rfl
                  refine bodyPost_ret (v := .tuple #[.agg #[.int .i64 (P : Int), .int .i64 (Q : Int), .int .i64 (L : Int)], .bool true]) (by simp [results, Try.results65, go_sem, q1, q2, q3]) rfl ⟨by rw [HX2.out, HY2.out, HZ3.out], ?_⟩
                  exact below_set7 (below_set7 (below_set7 (below_drewN' B _) HHB.out _ _) HHB.out _ _) HHB.out _ _
          · have x2 : decide (0 < Q) = true := decide_eq_true (by omega)
            have y2 : (0 : Int) < (Q : Int) := by omega
            obtain ⟨p, hp⟩ : ∃ p, P - 1 = p := ⟨_, rfl⟩
            obtain ⟨q, hq⟩ : ∃ p, Q - 1 = p := ⟨_, rfl⟩
            have hn5 : ¬ sm s t p q := fun e => hno3 ⟨by omega, by omega, by rw [hp, hq]; exact e⟩
            have hps : p < s.size := by omega
            have hqs : q < t.size := by omega
            obtain ⟨tb, _⟩ := not_sm hn5 hps hqs
            have e3 : (P : Int) - 1 = (p : Int) := by omega
            have e4 : (Q : Int) - 1 = (q : Int) := by omega
            have e5 : IntKind.i64.wrap (p : Int) = (p : Int) := IntWalk.i64_in _ (by omega)
            have e6 : IntKind.i64.wrap (q : Int) = (q : Int) := IntWalk.i64_in _ (by omega)
            have y3 : (p : Int) < (s.size : Int) := by omega
            have y4 : (q : Int) < (t.size : Int) := by omega
            have y5 : (0 : Int) ≤ (p : Int) := by omega
            have y6 : (0 : Int) ≤ (q : Int) := by omega
            clear hn5 hp hq hp0 hq0
            clear hno3
            have HGB := Lib.hid HG.out.base
            go_wp2
            go_quiet (fail)
            go_wp2
            obtain ⟨wo, rfl⟩ : ∃ wo, wo = wr := ⟨_, rfl⟩
            obtain ⟨wq, hwq⟩ : ∃ wq, wo.drewN nq = wq := ⟨_, rfl⟩
            have HG := Lib.hid (show Side wq w.heap.size (.slice none 0 0) 88 g [.int .i64 (P : Int), .int .i64 (Q : Int), .int .i64 0] from hwq ▸ HG.out.drewN _)
            have H8 := Lib.hid (show Side wq w.heap.size (.slice none 0 0) 88 h8 [.int .i64 0, .int .i64 0, .int .i64 0] from hwq ▸ H8.out.drewN _)
            have B : Below w.heap.size w wq := hwq ▸ below_drewN' B _
            rw [hwq]
            clear hwq c1 c2
            go_loopw [] (fun wr => ∃ L : Nat, L ≤ runP s t P Q ∧ Hid (Side wr w.heap.size (.slice none 0 0) 88 g [.int .i64 (P : Int), .int .i64 (Q : Int), .int .i64 (L : Int)]) ∧ Hid (Side wr w.heap.size (.slice none 0 0) 88 h8 [.int .i64 0, .int .i64 0, .int .i64 0]) ∧ Below w.heap.size w wr) (fun wr => s.size - cellN wr g 2)
            case atStart => exact ⟨0, Nat.zero_le _, HG, H8, B⟩
            case round =>
              obtain ⟨L, hL, HG, H8, B⟩ := hrel
              have hroom := runP_room s t P Q hPs hQs
              have hL9 : L ≤ 4194304 := by omega
              have htest := run_test hL
              obtain ⟨m, hm⟩ : ∃ m, P + L = m := ⟨_, rfl⟩
              obtain ⟨n, hn⟩ : ∃ m, Q + L = m := ⟨_, rfl⟩
              rw [hm, hn] at htest
              have f1 : (P : Int) + (L : Int) = (m : Int) := by omega
              have f2 : (Q : Int) + (L : Int) = (n : Int) := by omega
              have hm9 : m ≤ 4194304 := by omega
              have hn9 : n ≤ 4194304 := by omega
              have f3 : IntKind.i64.wrap (m : Int) = (m : Int) := IntWalk.i64_in _ (by omega)
              have f4 : IntKind.i64.wrap (n : Int) = (n : Int) := IntWalk.i64_in _ (by omega)
              have c1 := HG.out.cell 0 _ rfl
              have c2 := HG.out.cell 1 _ rfl
              have c3 := HG.out.cell 2 _ rfl
              have y5 : (0 : Int) ≤ (m : Int) := by omega
              have y6 : (0 : Int) ≤ (n : Int) := by omega
              have HMM := Lib.hid hm
              by_cases hlt : L < runP s t P Q
              · have h3 := htest.2 hlt
                have hp := h3.1
                have hq := h3.2.1
                obtain ⟨_, tb, _⟩ := is_sm h3 hp hq
                have HSX := Lib.hid (show ∀ u, Side ((wr.drewN u).setCell ⟨g, 2, none⟩ (.int .i64 ((L : Int) + 1))) w.heap.size (.slice none 0 0) 88 g [.int .i64 (P : Int), .int .i64 (Q : Int), .int .i64 ((L : Int) + 1)] from fun u => (HG.out.drewN u).set_self 2 (.int .i64 ((L : Int) + 1)))
                have HSY := Lib.hid (show ∀ u, Side ((wr.drewN u).setCell ⟨g, 2, none⟩ (.int .i64 ((L : Int) + 1))) w.heap.size (.slice none 0 0) 88 h8 [.int .i64 0, .int .i64 0, .int .i64 0] from fun u => (H8.out.drewN u).set_other hgne 2 _)
                have r3 := HG.out.frozen 2
                have y3 : (m : Int) < (s.size : Int) := by omega
                have y4 : (n : Int) < (t.size : Int) := by omega
                have x1 : decide (m < s.size) = true := decide_eq_true hp
                have x2 : decide (n < t.size) = true := decide_eq_true hq
                have x3 : decide ((m : Int) < (s.size : Int)) = true := decide_eq_true y3
                have x4 : decide ((n : Int) < (t.size : Int)) = true := decide_eq_true y4
                have hme : cellN wr g 2 = L := by rw [cellN_is c3]; omega
                have HME := Lib.hid hme
                have HLS := Lib.hid (show L < s.size by omega)
                clear h3 htest hm hn hroom hme
                go_wp2
                go_quiet (fail)
                go_wp2
                go_roundw
                case rel => exact ⟨L + 1, by omega, Lib.hid (by rw [show ((L + 1 : Nat) : Int) = (L : Int) + 1 from by omega]; exact HSX.out _), Lib.hid (HSY.out _), (below_drewN' B _).setCell (p := ⟨g, 2, none⟩) HGB.out _⟩
                case measure => rw [HME.out, cellN_is ((HSX.out _).cell 2 _ rfl)]; have := HLS.out; omega
              · have HZ3 := Lib.hid (show z = (L : Int) by rw [HZ2.out]; omega)
                have hno4 : ¬ sm s t m n := fun e => hlt (htest.1 e)
                clear htest
                by_cases hm2 : m < s.size
                · have x3 : decide (m < s.size) = true := decide_eq_true hm2
                  have y3 : (m : Int) < (s.size : Int) := by omega
                  by_cases hn2 : n < t.size
                  · obtain ⟨tb, _⟩ := not_sm hno4 hm2 hn2
                    have x4 : decide (n < t.size) = true := decide_eq_true hn2
                    have y4 : (n : Int) < (t.size : Int) := by omega
                    clear hno4
                    have HSX := Lib.hid (show ∀ u, Side ((((wr.drewN u).setCell ⟨h8, 0, none⟩ (.int .i64 (P : Int))).setCell ⟨h8, 1, none⟩ (.int .i64 (Q : Int))).setCell ⟨h8, 2, none⟩ (.int .i64 (L : Int))) w.heap.size (.slice none 0 0) 88 h8 [.int .i64 (P : Int), .int .i64 (Q : Int), .int .i64 (L : Int)] from fun u => (((H8.out.drewN u).set_self 0 _).set_self 1 _).set_self 2 _)
                    have HHB := Lib.hid H8.out.base
                    have k1 := H8.out.cell 0 _ rfl
                    have k2 := H8.out.cell 1 _ rfl
                    have k3 := H8.out.cell 2 _ rfl
                    have r1 := H8.out.frozen 0
                    have r2 := H8.out.frozen 1
                    have r3 := H8.out.frozen 2
                    clear hm hn hroom hlt
                    go_wp2
                    go_quiet (fail)
                    go_wp2
                    have q1 := fun u => (HSX.out u).cell 0 _ rfl
                    have q2 := fun u => (HSX.out u).cell 1 _ rfl
                    have q3 := fun u => (HSX.out u).cell 2 _ rfl
                    refine bodyPost_ret (v := .tuple #[.agg #[.int .i64 (P : Int), .int .i64 (Q : Int), .int .i64 (L : Int)], .bool true]) (by simp [results, Try.results65, go_sem, q1, q2, q3]) rfl ⟨by rw [HX2.out, HY2.out, HZ3.out], ?_⟩
                    exact below_set7 (below_set7 (below_set7 (below_drewN' B _) HHB.out _ _) HHB.out _ _) HHB.out _ _
                  · have x4 : decide (n < t.size) = false := decide_eq_false hn2
                    have y4 : ¬ (n : Int) < (t.size : Int) := by omega
                    clear hno4
                    have HSX := Lib.hid (show ∀ u, Side ((((wr.drewN u).setCell ⟨h8, 0, none⟩ (.int .i64 (P : Int))).setCell ⟨h8, 1, none⟩ (.int .i64 (Q : Int))).setCell ⟨h8, 2, none⟩ (.int .i64 (L : Int))) w.heap.size (.slice none 0 0) 88 h8 [.int .i64 (P : Int), .int .i64 (Q : Int), .int .i64 (L : Int)] from fun u => (((H8.out.drewN u).set_self 0 _).set_self 1 _).set_self 2 _)
                    have HHB := Lib.hid H8.out.base
                    have k1 := H8.out.cell 0 _ rfl
                    have k2 := H8.out.cell 1 _ rfl
                    have k3 := H8.out.cell 2 _ rfl
                    have r1 := H8.out.frozen 0
                    have r2 := H8.out.frozen 1
                    have r3 := H8.out.frozen 2
                    clear hm hn hroom hlt
                    go_wp2
                    go_quiet (fail)
                    go_wp2
                    have q1 := fun u => (HSX.out u).cell 0 _ rfl
                    have q2 := fun u => (HSX.out u).cell 1 _ rfl
                    have q3 := fun u => (HSX.out u).cell 2 _ rfl
                    refine bodyPost_ret (v := .tuple #[.agg #[.int .i64 (P : Int), .int .i64 (Q : Int), .int .i64 (L : Int)], .bool true]) (by simp [results, Try.results65, go_sem, q1, q2, q3]) rfl ⟨by rw [HX2.out, HY2.out, HZ3.out], ?_⟩
                    exact below_set7 (below_set7 (below_set7 (below_drewN' B _) HHB.out _ _) HHB.out _ _) HHB.out _ _
                · have x3 : decide (m < s.size) = false := decide_eq_false hm2
                  have y3 : ¬ (m : Int) < (s.size : Int) := by omega
                  clear hno4
                  have HSX := Lib.hid (show ∀ u, Side ((((wr.drewN u).setCell ⟨h8, 0, none⟩ (.int .i64 (P : Int))).setCell ⟨h8, 1, none⟩ (.int .i64 (Q : Int))).setCell ⟨h8, 2, none⟩ (.int .i64 (L : Int))) w.heap.size (.slice none 0 0) 88 h8 [.int .i64 (P : Int), .int .i64 (Q : Int), .int .i64 (L : Int)] from fun u => (((H8.out.drewN u).set_self 0 _).set_self 1 _).set_self 2 _)
                  have HHB := Lib.hid H8.out.base
                  have k1 := H8.out.cell 0 _ rfl
                  have k2 := H8.out.cell 1 _ rfl
                  have k3 := H8.out.cell 2 _ rfl
                  have r1 := H8.out.frozen 0
                  have r2 := H8.out.frozen 1
                  have r3 := H8.out.frozen 2
                  clear hm hn hroom hlt
                  go_wp2
                  go_quiet (fail)
                  go_wp2
                  have q1 := fun u => (HSX.out u).cell 0 _ rfl
                  have q2 := fun u => (HSX.out u).cell 1 _ rfl
                  have q3 := fun u => (HSX.out u).cell 2 _ rfl
                  refine bodyPost_ret (v := .tuple #[.agg #[.int .i64 (P : Int), .int .i64 (Q : Int), .int .i64 (L : Int)], .bool true]) (by simp [results, Try.results65, go_sem, q1, q2, q3]) rfl ⟨by rw [HX2.out, HY2.out, HZ3.out], ?_⟩
                  exact below_set7 (below_set7 (below_set7 (below_drewN' B _) HHB.out _ _) HHB.out _ _) HHB.out _ _
  · clear h
    by_cases c0 : i < 0
    · clear hno
      have d0 : decide (i < 0) = true := decide_eq_true c0
      go_enter Try.func65, Try.ntmps65
      go_wp2
      go_quiet (fail)
      go_wp2
      refine bodyPost_ret (v := .tuple #[.agg #[.int .i64 0, .int .i64 0, .int .i64 0], .bool false]) (by simp [results, Try.results65, go_sem]) rfl ⟨rfl, ?_⟩
      exact below_set7 (below_set7 (below_set7 (below_drewN' ((Below.refl _ _).alloc (Nat.le_refl _) _) _) (Nat.le_refl _) _ _) (Nat.le_refl _) _ _) (Nat.le_refl _) _ _
    have d0 : decide (i < 0) = false := decide_eq_false c0
    by_cases c1 : j < 0
    · clear hno
      have d1 : decide (j < 0) = true := decide_eq_true c1
      go_enter Try.func65, Try.ntmps65
      go_wp2
      go_quiet (fail)
      go_wp2
      refine bodyPost_ret (v := .tuple #[.agg #[.int .i64 0, .int .i64 0, .int .i64 0], .bool false]) (by simp [results, Try.results65, go_sem]) rfl ⟨rfl, ?_⟩
      exact below_set7 (below_set7 (below_set7 (below_drewN' ((Below.refl _ _).alloc (Nat.le_refl _) _) _) (Nat.le_refl _) _ _) (Nat.le_refl _) _ _) (Nat.le_refl _) _ _
    have d1 : decide (j < 0) = false := decide_eq_false c1
    by_cases c2 : (s.size : Int) ≤ i
    · clear hno
      have d2 : decide ((s.size : Int) ≤ i) = true := decide_eq_true c2
      go_enter Try.func65, Try.ntmps65
      go_wp2
      go_quiet (fail)
      go_wp2
      refine bodyPost_ret (v := .tuple #[.agg #[.int .i64 0, .int .i64 0, .int .i64 0], .bool false]) (by simp [results, Try.results65, go_sem]) rfl ⟨rfl, ?_⟩
      exact below_set7 (below_set7 (below_set7 (below_drewN' ((Below.refl _ _).alloc (Nat.le_refl _) _) _) (Nat.le_refl _) _ _) (Nat.le_refl _) _ _) (Nat.le_refl _) _ _
    have d2 : decide ((s.size : Int) ≤ i) = false := decide_eq_false c2
    by_cases c3 : (t.size : Int) ≤ j
    · clear hno
      have d3 : decide ((t.size : Int) ≤ j) = true := decide_eq_true c3
      go_enter Try.func65, Try.ntmps65
      go_wp2
      go_quiet (fail)
      go_wp2
      refine bodyPost_ret (v := .tuple #[.agg #[.int .i64 0, .int .i64 0, .int .i64 0], .bool false]) (by simp [results, Try.results65, go_sem]) rfl ⟨rfl, ?_⟩
      exact below_set7 (below_set7 (below_set7 (below_drewN' ((Below.refl _ _).alloc (Nat.le_refl _) _) _) (Nat.le_refl _) _ _) (Nat.le_refl _) _ _) (Nat.le_refl _) _ _
    obtain ⟨I, rfl⟩ : ∃ I : Nat, i = I := ⟨i.toNat, by omega⟩
    obtain ⟨J, rfl⟩ : ∃ I : Nat, j = I := ⟨j.toNat, by omega⟩
    have hI : I < s.size := by omega
    have hJ : J < t.size := by omega
    have hn2 : ¬ sm s t I J := fun e => hno ⟨by omega, by omega, by rw [Int.toNat_natCast, Int.toNat_natCast]; exact e⟩
    obtain ⟨tb, tb2⟩ := not_sm hn2 hI hJ
    have z2 : (I : Int) < (s.size : Int) := by omega
    have z3 : (J : Int) < (t.size : Int) := by omega
    have z4 : (0 : Int) ≤ (I : Int) := by omega
    have z5 : (0 : Int) ≤ (J : Int) := by omega
    have d0 : decide ((I : Int) < 0) = false := decide_eq_false (by omega)
    have d1 : decide ((J : Int) < 0) = false := decide_eq_false (by omega)
    have d2 : decide (s.size ≤ I) = false := decide_eq_false (by omega)
    have d3 : decide (t.size ≤ J) = false := decide_eq_false (by omega)
    have d4 : decide ((s.size : Int) ≤ (I : Int)) = false := decide_eq_false (by omega)
    have d5 : decide ((t.size : Int) ≤ (J : Int)) = false := decide_eq_false (by omega)
    clear hno hn2 c0 c1 c2 c3
    go_enter Try.func65, Try.ntmps65
    go_wp2
    go_quiet (fail)
    go_wp2
    refine bodyPost_ret (v := .tuple #[.agg #[.int .i64 0, .int .i64 0, .int .i64 0], .bool false]) (by simp [results, Try.results65, go_sem]) rfl ⟨rfl, ?_⟩
    exact below_set7 (below_set7 (below_set7 (below_drewN' ((Below.refl _ _).alloc (Nat.le_refl _) _) _) (Nat.le_refl _) _ _) (Nat.le_refl _) _ _) (Nat.le_refl _) _ _

end Go.Proofs.Ytbnagmjhdnnheaa

namespace Go.Proofs.Ytbnagmjhdnnheaa
open Go.RowKit

theorem Try.ulP7 : Try.prog.underlying 46 = some (.slice 88) := by kernel_rfl
theorem Try.infoP7 : (Try.prog.info? 88).map (fun i => (i.zero, i.size, i.bytes)) = some (some (.agg #[.int .i64 0, .int .i64 0, .int .i64 0]), 3, 24) := by kernel_rfl
theorem enLt_iff7 (a b c d e f : Int) : enLt (a, b, c) (d, e, f) ↔ a < d ∨ a = d ∧ (b < e ∨ b = e ∧ c < f) := Iff.rfl
theorem below_ents7 {w wr : World} {B : Nat} (h : Below B w wr) {b o : Nat} (hb : b < B) {v : Value} (k : w.cell? ⟨b, o, none⟩ = some v) : wr.cell? ⟨b, o, none⟩ = some v := (h.cell (p := ⟨b, o, none⟩) hb).trans k

theorem cellsAt_lit7 (w : World) (e : TypeId) (cs : Array Value) (g : Nat) (hg : g = w.heap.size) : CellsAt (w.alloc (.cells cs e)) (some ⟨g, 0, none⟩) cs.toList := by
  subst hg
  refine ⟨fun _ => ⟨w.heap.size, 0, rfl, by simp, fun j u hj => ?_⟩⟩
  rw [cell_of_row _ w.heap.size (0 + j) _ e (0, 0) (heap_alloc_new w _)]
  simpa using hj
theorem cellsAt_rec37 (w : World) (e : TypeId) (a b c : Value) (g : Nat) (hg : g = w.heap.size) : CellsAt (w.alloc (.cells #[a, b, c] e)) (some ⟨g, 0, none⟩) [a, b, c] := cellsAt_lit7 w e #[a, b, c] g hg

theorem putE_at7 {l : List En} {X : En} {p : Nat} (hp : p ≤ l.length) (h1 : ∀ i, i < p → ∀ h : i < l.length, enLt l[i] X) (h2 : ∀ h : p < l.length, ¬ enLt l[p] X) : putE X l = if l[p]? = some X then l else l.take p ++ X :: l.drop p := by
  have e := atE_is X l p hp h1 h2
  rw [putE, e]

theorem specLess7_any (a b c d e f : Int) (w : World) :
    Calls Try.prog 90 #[.agg #[.int .i64 a, .int .i64 b, .int .i64 c], .agg #[.int .i64 d, .int .i64 e, .int .i64 f]] w fun r w' => r = .returned (.bool (decide (enLt (a, b, c) (d, e, f)))) ∧ Below w.heap.size w w' := by
  by_cases h1 : a = d
  · subst h1
    have t1 : (a == a) = true := beq_self_eq_true _
    have t1' : (a != a) = false := by rw [bne, t1]; rfl
    by_cases h2 : b = e
    · subst h2
      have t2 : (b == b) = true := beq_self_eq_true _
      have t2' : (b != b) = false := by rw [bne, t2]; rfl
      have HD := Lib.hid (show decide (enLt (a, b, c) (a, b, f)) = decide (c < f) from decide_eq_decide.2 (by rw [enLt_iff7]; constructor <;> omega))
      go_enter Try.func90, Try.ntmps90
      go_wp2
      go_ret
      exact ⟨by rw [HD.out]; rfl, below_alloc2 _ _ _⟩
    · have t2 : (b == e) = false := by simpa using h2
      have t2' : (b != e) = true := by rw [bne, t2]; rfl
      have HD := Lib.hid (show decide (enLt (a, b, c) (a, e, f)) = decide (b < e) from decide_eq_decide.2 (by rw [enLt_iff7]; constructor <;> omega))
      clear h2
      go_enter Try.func90, Try.ntmps90
      go_wp2
      go_ret
      exact ⟨by rw [HD.out]; rfl, below_alloc2 _ _ _⟩
  · have t1 : (a == d) = false := by simpa using h1
    have t1' : (a != d) = true := by rw [bne, t1]; rfl
    have HD := Lib.hid (show decide (enLt (a, b, c) (d, e, f)) = decide (a < d) from decide_eq_decide.2 (by rw [enLt_iff7]; constructor <;> omega))
    clear h1
    go_enter Try.func90, Try.ntmps90
    go_wp2
    go_ret
    exact ⟨by rw [HD.out]; rfl, below_alloc2 _ _ _⟩
theorem specLess7_is (r : Bool) (a b c d e f : Int) (w : World) (h : r = true ↔ enLt (a, b, c) (d, e, f)) :
    Calls Try.prog 90 #[.agg #[.int .i64 a, .int .i64 b, .int .i64 c], .agg #[.int .i64 d, .int .i64 e, .int .i64 f]] w fun x w' => x = .returned (.bool r) ∧ Below w.heap.size w w' := by
  have e1 : decide (enLt (a, b, c) (d, e, f)) = r := by rw [Bool.eq_iff_iff, decide_eq_true_iff]; exact h.symm
  rw [← e1]
  exact specLess7_any a b c d e f w


set_option maxRecDepth 8000 in
set_option maxHeartbeats 40000000 in
theorem specPut7_any (l : List En) (x y z : Int) (g n c B : Nat) (W w : World) (hn : n = l.length) (hl : n ≤ 2199023255552) (hone : One W B w 88 3 (some ⟨g, 0, none⟩) n c (entsC l)) :
    Calls Try.prog 66 #[.slice (some ⟨g, 0, none⟩) n c, .agg #[.int .i64 x, .int .i64 y, .int .i64 z]] w fun e w' => ∃ g' n' c', e = .returned (.slice (some ⟨g', 0, none⟩) n' c') ∧ n' = (putE (x, y, z) l).length ∧ One W B w' 88 3 (some ⟨g', 0, none⟩) n' c' (entsC (putE (x, y, z) l)) ∧ Below w.heap.size w w' := by
  have HN := Lib.hid hn
  have hcap := hone.cap
  obtain ⟨hnc, hc9⟩ := hcap
  have hbx : Below w.heap.size w (w.alloc (.cells #[.int .i64 x, .int .i64 y, .int .i64 z] 88)) := (Below.refl _ _).alloc (Nat.le_refl _) _
  obtain ⟨gx, hgx⟩ : ∃ gx, w.heap.size = gx := ⟨_, rfl⟩
  have hx0 : (w.alloc (.cells #[.int .i64 x, .int .i64 y, .int .i64 z] 88)).cell? ⟨gx, 0, none⟩ = some (.int .i64 x) ∧ (w.alloc (.cells #[.int .i64 x, .int .i64 y, .int .i64 z] 88)).cell? ⟨gx, 1, none⟩ = some (.int .i64 y) ∧ (w.alloc (.cells #[.int .i64 x, .int .i64 y, .int .i64 z] 88)).cell? ⟨gx, 2, none⟩ = some (.int .i64 z) := by
    subst hgx
    exact ⟨cell_of_row _ w.heap.size 0 _ _ (0, 0) (heap_alloc_new w _), cell_of_row _ w.heap.size 1 _ _ (0, 0) (heap_alloc_new w _), cell_of_row _ w.heap.size 2 _ _ (0, 0) (heap_alloc_new w _)⟩
  have hone1 := hone.alloc (.cells #[.int .i64 x, .int .i64 y, .int .i64 z] 88)
  have hgx1 : gx < (w.alloc (.cells #[.int .i64 x, .int .i64 y, .int .i64 z] 88)).heap.size := by rw [← hgx]; simp
  have HGX := Lib.hid hgx
  have HB0' := Lib.hid hbx
  clear hn hone hbx hgx
  go_enter Try.func66, Try.ntmps66
  go_wp2
  rw [HGX.out]
  generalize hw1 : w.alloc (.cells #[.int .i64 x, .int .i64 y, .int .i64 z] 88) = w1
  have HB0 := Lib.hid (show ∀ w', Below w1.heap.size w1 w' → Below w.heap.size w w' from fun w' h => by have h2 := HB0'.out; rw [HGX.out, hw1] at h2; rw [HGX.out]; exact h2.trans (h.mono (Nat.le_of_lt (by rw [← hw1]; exact hgx1))))
  rw [hw1] at hx0 hone1 hgx1
  clear hw1 HB0'
  have HX := Lib.hid (show ∀ w', Below w1.heap.size w1 w' → w'.cell? ⟨gx, 0, none⟩ = some (.int .i64 x) ∧ w'.cell? ⟨gx, 1, none⟩ = some (.int .i64 y) ∧ w'.cell? ⟨gx, 2, none⟩ = some (.int .i64 z) from fun w' h => ⟨below_ents7 h hgx1 hx0.1, below_ents7 h hgx1 hx0.2.1, below_ents7 h hgx1 hx0.2.2⟩)
  have HO := Lib.hid (show ∀ w', Below w1.heap.size w1 w' → One W B w' 88 3 (some ⟨g, 0, none⟩) n c (entsC l) from fun w' h => hone1.later h)
  clear hx0 hone1
  go_loopw [5] (fun p_ wr => ∃ p : Nat, p ≤ n ∧ p_ = .int .i64 p ∧ Hid (∀ i, i < p → ∀ h : i < l.length, enLt l[i] (x, y, z)) ∧ Below w1.heap.size w1 wr) (fun p_ _ => n - (intOf p_).toNat)
  case atStart => exact ⟨0, Nat.zero_le _, rfl, Lib.hid (fun i h => absurd h (Nat.not_lt_zero _)), Below.refl _ _⟩
  case round =>
    obtain ⟨p, hp, rfl, HP, Bw⟩ := hrel
    obtain ⟨b1, b2, b3⟩ := HX.out wr Bw
    have hone := HO.out wr Bw
    by_cases hpn : p < n
    · have hpl : p < l.length := by have := HN.out; omega
      obtain ⟨x', hx⟩ : ∃ x', l[p].1 = x' := ⟨_, rfl⟩
      obtain ⟨y', hy⟩ : ∃ y', l[p].2.1 = y' := ⟨_, rfl⟩
      obtain ⟨z', hz⟩ : ∃ z', l[p].2.2 = z' := ⟨_, rfl⟩
      have hm : l[p] = (x', y', z') := by rw [← hx, ← hy, ← hz]
      obtain ⟨g', o', hgo, hg9, g1, g2, g3⟩ := ent_cells hone.at_ hpl hm
      obtain ⟨rfl, rfl⟩ := (by simpa using hgo : g = g' ∧ 0 = o')
      rw [Nat.zero_add] at g1 g2 g3
      have HM := Lib.hid hm
      have z1 : (p : Int) < (n : Int) := by omega
      have z2 : (0 : Int) ≤ (p : Int) := by omega
      have hgxr : gx < wr.heap.size := Nat.lt_of_lt_of_le hgx1 Bw.size
      have HKS := Lib.hid (show ∀ w', Below wr.heap.size wr w' → (w'.cell? ⟨gx, 0, none⟩ = some (.int .i64 x) ∧ w'.cell? ⟨gx, 1, none⟩ = some (.int .i64 y) ∧ w'.cell? ⟨gx, 2, none⟩ = some (.int .i64 z)) ∧ w'.cell? ⟨g, p * 3, none⟩ = some (.int .i64 x') ∧ w'.cell? ⟨g, p * 3 + 1, none⟩ = some (.int .i64 y') ∧ w'.cell? ⟨g, p * 3 + 2, none⟩ = some (.int .i64 z') from fun w' h => ⟨⟨below_ents7 h hgxr b1, below_ents7 h hgxr b2, below_ents7 h hgxr b3⟩, below_ents7 h hg9 g1, below_ents7 h hg9 g2, below_ents7 h hg9 g3⟩)
      have t1 : decide (p < n) = true := decide_eq_true hpn
      clear hx hy hz hm hgo
      by_cases hlt : enLt (x', y', z') (x, y, z)
      · have c1 := fun w => specLess7_is true x' y' z' x y z w ⟨fun _ => hlt, fun _ => rfl⟩
        have HP2 := Lib.hid (show ∀ i, i < p + 1 → ∀ h : i < l.length, enLt l[i] (x, y, z) from fun i h1 h2 => by
          by_cases e : i = p
          · subst e; rw [HM.out]; exact hlt
          · exact HP.out i (by omega) h2)
        clear hlt HP hone
        go_wp2
        go_region_held3 (fun w' => (w'.cell? ⟨gx, 0, none⟩ = some (.int .i64 x) ∧ w'.cell? ⟨gx, 1, none⟩ = some (.int .i64 y) ∧ w'.cell? ⟨gx, 2, none⟩ = some (.int .i64 z)) ∧ w'.cell? ⟨g, p * 3, none⟩ = some (.int .i64 x') ∧ w'.cell? ⟨g, p * 3 + 1, none⟩ = some (.int .i64 y') ∧ w'.cell? ⟨g, p * 3 + 2, none⟩ = some (.int .i64 z')) (first | go_keep | exact HKS.out _ (Below.trans (by repeat (first | exact Below.refl _ _ | refine Below.drew ?_ | refine below_drewN' ?_ _)) (hb5.mono (by simp))))
          ((go_at_call 90; refine (c1 _).mono ?_; rintro e w5 ⟨rfl, hb5⟩))
        go_wp2
        go_roundw
        case rel => exact ⟨p + 1, by omega, by go_num, HP2, Bw.trans (Below.mono (Below.trans (by repeat (first | exact Below.refl _ _ | refine Below.drew ?_ | refine below_drewN' ?_ _)) (hb5.mono (by simp))) Bw.size)⟩
        case measure => simp [intOf]; omega
      · have c1 := fun w => specLess7_is false x' y' z' x y z w ⟨(fun h => absurd h (by decide)), (fun h => absurd h hlt)⟩
        have hput := putE_at7 (X := (x, y, z)) (by have := HN.out; omega) HP.out (fun h => by rw [HM.out]; exact hlt)
        rw [List.getElem?_eq_getElem hpl, HM.out] at hput
        have HPUT := Lib.hid hput
        clear hlt HP hone hput
        go_wp2
        go_region_held3 (fun w' => (w'.cell? ⟨gx, 0, none⟩ = some (.int .i64 x) ∧ w'.cell? ⟨gx, 1, none⟩ = some (.int .i64 y) ∧ w'.cell? ⟨gx, 2, none⟩ = some (.int .i64 z)) ∧ w'.cell? ⟨g, p * 3, none⟩ = some (.int .i64 x') ∧ w'.cell? ⟨g, p * 3 + 1, none⟩ = some (.int .i64 y') ∧ w'.cell? ⟨g, p * 3 + 2, none⟩ = some (.int .i64 z')) (first | go_keep | exact HKS.out _ (Below.trans (by repeat (first | exact Below.refl _ _ | refine Below.drew ?_ | refine below_drewN' ?_ _)) (hb5.mono (by simp))))
          ((go_at_call 90; refine (c1 _).mono ?_; rintro e w5 ⟨rfl, hb5⟩))
        have W5 : Below wr.heap.size wr w5 := (Below.trans (by repeat (first | exact Below.refl _ _ | refine Below.drew ?_ | refine below_drewN' ?_ _)) (hb5.mono (by simp)))
        obtain ⟨⟨b1, b2, b3⟩, g1, g2, g3⟩ := HKS.out w5 W5
        have B5 : Below w1.heap.size w1 w5 := Bw.trans (W5.mono Bw.size)
        clear hb5 HKS c1 W5 Bw
        by_cases he : (x', y', z') = (x, y, z)
        · have HE := Lib.hid (HPUT.out.trans (if_pos (by rw [he])))
          simp only [Prod.mk.injEq] at he
          obtain ⟨rfl, rfl, rfl⟩ := he
          have tx : (x' == x') = true := beq_self_eq_true _
          have ty : (y' == y') = true := beq_self_eq_true _
          have tz : (z' == z') = true := beq_self_eq_true _
          go_wp2
          go_quiet (fail)
          go_wp2
          go_ret
          have HOn := HO.out w5 B5
          exact ⟨_, _, _, rfl, by rw [HE.out]; exact HN.out, by rw [HE.out]; exact HOn.drewN _, HB0.out _ (below_drewN' B5 _)⟩
        · have HE := Lib.hid (HPUT.out.trans (if_neg (fun h => he (by injection h))))
          have hcase : (x' == x) = false ∨ (x' == x) = true ∧ ((y' == y) = false ∨ (y' == y) = true ∧ (z' == z) = false) := by
            by_cases h1 : x' = x
            · by_cases h2 : y' = y
              · by_cases h3 : z' = z
                · exact absurd (by rw [h1, h2, h3]) he
                · exact .inr ⟨by simpa using h1, .inr ⟨by simpa using h2, by simpa using h3⟩⟩
              · exact .inr ⟨by simpa using h1, .inl (by simpa using h2)⟩
            · exact .inl (by simpa using h1)
          clear he
          rcases hcase with t1 | ⟨t1, t2 | ⟨t2, t3⟩⟩
          all_goals (
            go_wp2
            go_quiet (fail)
            go_wp2_with fail
            generalize hW : World.drewN _ _ = wz
            have Bz : Below w1.heap.size w1 wz := by rw [← hW]; exact below_drewN' B5 _
            clear hW B5 b1 b2 b3 g1 g2 g3
            have HOz := Lib.hid (HO.out wz Bz)
            have HG := Lib.hid (show ∀ w', Below wz.heap.size wz w' → w'.cell? ⟨gx, 0, none⟩ = some (.int .i64 x) ∧ w'.cell? ⟨gx, 1, none⟩ = some (.int .i64 y) ∧ w'.cell? ⟨gx, 2, none⟩ = some (.int .i64 z) from fun w' h => HX.out w' (Bz.trans (h.mono Bz.size)))
            obtain ⟨b1, b2, b3⟩ := HG.out wz (Below.refl _ _)
            have hbz : wz.heap.size ≤ wz.heap.size := Nat.le_refl _
            have hbel : Below wz.heap.size wz wz := Below.refl _ _
            have HTs := Lib.hid (show CellsAt wz (some ⟨g, 0, none⟩) (entsC (l.take p)) by rw [← entsC_take]; exact HOz.out.at_.upTo (p * 3))
            have HL1 := Lib.hid (show (entsC (l.take p)).length = p * 3 by rw [entsC_len, List.length_take, Nat.min_eq_left (by have := HN.out; omega)])
            have HD := Lib.hid (fun (w' : World) (hb : Below wz.heap.size wz w') => (show CellsAt wz (some ⟨g, p * 3, none⟩) (entsC (l.drop p)) by rw [← entsC_drop]; have h := HOz.out.at_.from_lit (p * 3); rwa [Nat.zero_add] at h).below hb)
            have HL2 := Lib.hid (show (entsC (l.drop p)).length = (n - p) * 3 by rw [entsC_len, List.length_drop, HN.out])
            have i5 : ¬ c = p := by omega
            have i1 : (0 : Int) ≤ (p : Int) := by omega
            have i2 : (p : Int) ≤ (c : Int) := by omega
            have i3 : (p : Int) ≤ (n : Int) := by omega
            have i4 : p ≤ c := by omega
            go_region_held3 (fun w' => w'.cell? ⟨gx, 0, none⟩ = some (.int .i64 x) ∧ w'.cell? ⟨gx, 1, none⟩ = some (.int .i64 y) ∧ w'.cell? ⟨gx, 2, none⟩ = some (.int .i64 z))
              (first | exact g3 | (refine HG.out _ ?_; first | exact hbel.trans (hs5.below.mono hbz) | exact hbel.trans (hs4.below.mono hbz) | (refine hbel.trans ?_; refine Below.mono ?_ hbz; (repeat (first | exact hs3.below | refine Below.drew ?_ | refine Below.alloc ?_ (by first | exact hs3.base | omega | (simp; omega)) _)); done) | ((repeat (first | exact hbel | refine Below.drew ?_ | refine Below.alloc ?_ (by first | exact Nat.le_refl _ | omega | (simp; done) | (simp; omega)) _)); done)))
              ((first
                | (refine step_append_to wz wz.heap.size (some ⟨wz.heap.size, 0, none⟩) 0 0 [] (some ⟨g, 0, none⟩) p c (entsC (l.take p)) p (entsC (l.take p)) (by omega) (by simp) rfl (.tmp 33) (.tmp 36) 46 (by rfl) (by rfl) (by rfl) Try.ulP7 Try.infoP7 rfl (by decide) (by exact HL1.out) (entsC_one _) (by unfold maxLen; omega) (by omega) (by repeat (first | exact One.empty _ _ _ | exact One.second _ _ _ _ | refine One.drew ?_ | refine One.alloc ?_ _)) (by repeat (first | exact HTs.out | refine CellsAt.drewW ?_ | refine CellsAt.allocW ?_ _)) ?_; intro as3 cs3 ws3 hs3 gs3)
                | (refine step_append_to wz wz.heap.size (some ⟨wz.heap.size + 1, 0, none⟩) 0 0 [] (some ⟨g, 0, none⟩) p c (entsC (l.take p)) p (entsC (l.take p)) (by omega) (by simp) rfl (.tmp 33) (.tmp 36) 46 (by rfl) (by rfl) (by rfl) Try.ulP7 Try.infoP7 rfl (by decide) (by exact HL1.out) (entsC_one _) (by unfold maxLen; omega) (by omega) (by repeat (first | exact One.empty _ _ _ | exact One.second _ _ _ _ | refine One.drew ?_ | refine One.alloc ?_ _)) (by repeat (first | exact HTs.out | refine CellsAt.drewW ?_ | refine CellsAt.allocW ?_ _)) ?_; intro as3 cs3 ws3 hs3 gs3)
                | (refine step_append_to wz wz.heap.size as3 p cs3 (entsC (l.take p)) (some ⟨ws3.heap.size, 0, none⟩) 1 1 [.int .i64 x, .int .i64 y, .int .i64 z] (p + 1) (entsC (l.take p) ++ [.int .i64 x, .int .i64 y, .int .i64 z]) (by omega) (by rfl) rfl (.tmp 37) (.tmp 39) 46 (by rfl) (by rfl) (by rfl) Try.ulP7 Try.infoP7 rfl (by decide) (by rfl) (by simp [Value.oneCell']) (by unfold maxLen; omega) (by omega) (by repeat (first | exact hs3 | refine One.drew ?_ | refine One.alloc ?_ _)) (by repeat (first | exact cellsAt_rec37 _ _ _ _ _ _ rfl | refine CellsAt.drewW ?_ | refine CellsAt.allocW ?_ _)) ?_; intro as4 cs4 ws4 hs4 gs4)
                | (refine step_append_to wz wz.heap.size as3 p cs3 (entsC (l.take p)) (some ⟨wz.heap.size + 1, 0, none⟩) 1 1 [.int .i64 x, .int .i64 y, .int .i64 z] (p + 1) (entsC (l.take p) ++ [.int .i64 x, .int .i64 y, .int .i64 z]) (by omega) (by rfl) rfl (.tmp 37) (.tmp 39) 46 (by rfl) (by rfl) (by rfl) Try.ulP7 Try.infoP7 rfl (by decide) (by rfl) (by simp [Value.oneCell']) (by unfold maxLen; omega) (by omega) (by repeat (first | exact hs3 | refine One.drew ?_ | refine One.alloc ?_ _)) (by repeat (first | exact cellsAt_lit _ _ _ _ (by simp) | exact cellsAt_rec37 _ _ _ _ _ _ (by first | rfl | simp) | refine CellsAt.drewW ?_ | refine CellsAt.allocW ?_ _ | (refine CellsAt.grown ?_ gs3 ?_) | (intro b o hh; simp at hh; simp [Value.ownBlock]; omega))) ?_; intro as4 cs4 ws4 hs4 gs4)
                | (refine step_append_to wz wz.heap.size as3 p cs3 (entsC (l.take p)) (some ⟨wz.heap.size, 0, none⟩) 1 1 [.int .i64 x, .int .i64 y, .int .i64 z] (p + 1) (entsC (l.take p) ++ [.int .i64 x, .int .i64 y, .int .i64 z]) (by omega) (by rfl) rfl (.tmp 37) (.tmp 39) 46 (by rfl) (by rfl) (by rfl) Try.ulP7 Try.infoP7 rfl (by decide) (by rfl) (by simp [Value.oneCell']) (by unfold maxLen; omega) (by omega) (by repeat (first | exact hs3 | refine One.drew ?_ | refine One.alloc ?_ _)) (by repeat (first | exact cellsAt_lit _ _ _ _ (by simp) | exact cellsAt_rec37 _ _ _ _ _ _ (by first | rfl | simp) | refine CellsAt.drewW ?_ | refine CellsAt.allocW ?_ _ | (refine CellsAt.grown ?_ gs3 ?_) | (intro b o hh; simp at hh; simp [Value.ownBlock]; omega))) ?_; intro as4 cs4 ws4 hs4 gs4)
                | (refine step_append_to wz wz.heap.size as4 (p + 1) cs4 (entsC (l.take p) ++ [.int .i64 x, .int .i64 y, .int .i64 z]) (some ⟨g, p * 3, none⟩) (n - p) (c - p) (entsC (l.drop p)) (p + 1 + (n - p)) (entsC (l.take p) ++ [.int .i64 x, .int .i64 y, .int .i64 z] ++ entsC (l.drop p)) (by omega) (by simp) rfl (.tmp 40) (.tmp 43) 46 (by rfl) (by rfl) (by rfl) Try.ulP7 Try.infoP7 rfl (by decide) (by exact HL2.out) (entsC_one _) (by unfold maxLen; omega) (by omega) (by repeat (first | exact hs4 | refine One.drew ?_)) (by repeat (first | exact HD.out _ hs4.below | refine CellsAt.drewW ?_)) ?_; intro as5 cs5 ws5 hs5 gs5)))
            all_goals go_wp2
            all_goals (
              go_ret
              obtain ⟨gs, rfl⟩ := hs5.addr (by omega)
              have hfin := hs5.under HOz.out.below HOz.out.base
              refine ⟨gs, _, _, rfl, ?_, ?_, HB0.out _ (Bz.trans (hs5.below.mono Bz.size))⟩
              · rw [HE.out]; simp; have := HN.out; omega
              · rw [HE.out, entsC_append]
                have e9 : entsC ((x, y, z) :: l.drop p) = [.int .i64 x, .int .i64 y, .int .i64 z] ++ entsC (l.drop p) := rfl
                rw [e9, ← List.append_assoc]
                exact hfin))
    · obtain rfl : p = n := by omega
      have HE : Hid (putE (x, y, z) l = l.take p ++ (x, y, z) :: l.drop p) := Lib.hid (by
        rw [putE_at7 (X := (x, y, z)) (by have := HN.out; omega) HP.out (fun h => by have := HN.out; omega)]
        rw [if_neg (by rw [List.getElem?_eq_none (by have := HN.out; omega)]; simp)])
      clear HP hone hp hpn
      go_wp2
      go_quiet (fail)
      go_wp2
      go_quiet (fail)
      go_wp2_with fail
      generalize hW : World.drewN _ _ = wz
      have Bz : Below w1.heap.size w1 wz := by rw [← hW]; first | exact below_drewN' (below_drewN' Bw _) _ | exact below_drewN' Bw _
      clear hW Bw b1 b2 b3
      have HOz := Lib.hid (HO.out wz Bz)
      have HG := Lib.hid (show ∀ w', Below wz.heap.size wz w' → w'.cell? ⟨gx, 0, none⟩ = some (.int .i64 x) ∧ w'.cell? ⟨gx, 1, none⟩ = some (.int .i64 y) ∧ w'.cell? ⟨gx, 2, none⟩ = some (.int .i64 z) from fun w' h => HX.out w' (Bz.trans (h.mono Bz.size)))
      obtain ⟨b1, b2, b3⟩ := HG.out wz (Below.refl _ _)
      have hbz : wz.heap.size ≤ wz.heap.size := Nat.le_refl _
      have hbel : Below wz.heap.size wz wz := Below.refl _ _
      have HTs := Lib.hid (show CellsAt wz (some ⟨g, 0, none⟩) (entsC (l.take p)) by rw [← entsC_take]; exact HOz.out.at_.upTo (p * 3))
      have HL1 := Lib.hid (show (entsC (l.take p)).length = p * 3 by rw [entsC_len, List.length_take, Nat.min_eq_left (by have := HN.out; omega)])
      have i1 : (0 : Int) ≤ (p : Int) := by omega
      have i2 : (p : Int) ≤ (c : Int) := by omega
      have i3 : (p : Int) ≤ (p : Int) := by omega
      have i4 : p ≤ c := by omega
      go_region_held3 (fun w' => w'.cell? ⟨gx, 0, none⟩ = some (.int .i64 x) ∧ w'.cell? ⟨gx, 1, none⟩ = some (.int .i64 y) ∧ w'.cell? ⟨gx, 2, none⟩ = some (.int .i64 z))
        (first | exact g3 | (refine HG.out _ ?_; first | exact hbel.trans (hs5.below.mono hbz) | exact hbel.trans (hs4.below.mono hbz) | (refine hbel.trans ?_; refine Below.mono ?_ hbz; (repeat (first | exact hs3.below | refine Below.drew ?_ | refine Below.alloc ?_ (by first | exact hs3.base | omega | (simp; omega)) _)); done) | ((repeat (first | exact hbel | refine Below.drew ?_ | refine Below.alloc ?_ (by first | exact Nat.le_refl _ | omega | (simp; done) | (simp; omega)) _)); done)))
        ((first
          | (refine step_append_to wz wz.heap.size (some ⟨wz.heap.size, 0, none⟩) 0 0 [] (some ⟨g, 0, none⟩) p c (entsC (l.take p)) p (entsC (l.take p)) (by omega) (by simp) rfl (.tmp 33) (.tmp 36) 46 (by rfl) (by rfl) (by rfl) Try.ulP7 Try.infoP7 rfl (by decide) (by exact HL1.out) (entsC_one _) (by unfold maxLen; omega) (by omega) (by repeat (first | exact One.empty _ _ _ | exact One.second _ _ _ _ | refine One.drew ?_ | refine One.alloc ?_ _)) (by repeat (first | exact HTs.out | refine CellsAt.drewW ?_ | refine CellsAt.allocW ?_ _)) ?_; intro as3 cs3 ws3 hs3 gs3)
          | (refine step_append_to wz wz.heap.size (some ⟨wz.heap.size + 1, 0, none⟩) 0 0 [] (some ⟨g, 0, none⟩) p c (entsC (l.take p)) p (entsC (l.take p)) (by omega) (by simp) rfl (.tmp 33) (.tmp 36) 46 (by rfl) (by rfl) (by rfl) Try.ulP7 Try.infoP7 rfl (by decide) (by exact HL1.out) (entsC_one _) (by unfold maxLen; omega) (by omega) (by repeat (first | exact One.empty _ _ _ | exact One.second _ _ _ _ | refine One.drew ?_ | refine One.alloc ?_ _)) (by repeat (first | exact HTs.out | refine CellsAt.drewW ?_ | refine CellsAt.allocW ?_ _)) ?_; intro as3 cs3 ws3 hs3 gs3)
          | (refine step_append_to wz wz.heap.size as3 p cs3 (entsC (l.take p)) (some ⟨ws3.heap.size, 0, none⟩) 1 1 [.int .i64 x, .int .i64 y, .int .i64 z] (p + 1) (entsC (l.take p) ++ [.int .i64 x, .int .i64 y, .int .i64 z]) (by omega) (by rfl) rfl (.tmp 37) (.tmp 39) 46 (by rfl) (by rfl) (by rfl) Try.ulP7 Try.infoP7 rfl (by decide) (by rfl) (by simp [Value.oneCell']) (by unfold maxLen; omega) (by omega) (by repeat (first | exact hs3 | refine One.drew ?_ | refine One.alloc ?_ _)) (by repeat (first | exact cellsAt_rec37 _ _ _ _ _ _ rfl | refine CellsAt.drewW ?_ | refine CellsAt.allocW ?_ _)) ?_; intro as4 cs4 ws4 hs4 gs4)
          | (refine step_append_to wz wz.heap.size as3 p cs3 (entsC (l.take p)) (some ⟨wz.heap.size + 1, 0, none⟩) 1 1 [.int .i64 x, .int .i64 y, .int .i64 z] (p + 1) (entsC (l.take p) ++ [.int .i64 x, .int .i64 y, .int .i64 z]) (by omega) (by rfl) rfl (.tmp 37) (.tmp 39) 46 (by rfl) (by rfl) (by rfl) Try.ulP7 Try.infoP7 rfl (by decide) (by rfl) (by simp [Value.oneCell']) (by unfold maxLen; omega) (by omega) (by repeat (first | exact hs3 | refine One.drew ?_ | refine One.alloc ?_ _)) (by repeat (first | exact cellsAt_lit _ _ _ _ (by simp) | exact cellsAt_rec37 _ _ _ _ _ _ (by first | rfl | simp) | refine CellsAt.drewW ?_ | refine CellsAt.allocW ?_ _ | (refine CellsAt.grown ?_ gs3 ?_) | (intro b o hh; simp at hh; simp [Value.ownBlock]; omega))) ?_; intro as4 cs4 ws4 hs4 gs4)
          | (refine step_append_to wz wz.heap.size as3 p cs3 (entsC (l.take p)) (some ⟨wz.heap.size, 0, none⟩) 1 1 [.int .i64 x, .int .i64 y, .int .i64 z] (p + 1) (entsC (l.take p) ++ [.int .i64 x, .int .i64 y, .int .i64 z]) (by omega) (by rfl) rfl (.tmp 37) (.tmp 39) 46 (by rfl) (by rfl) (by rfl) Try.ulP7 Try.infoP7 rfl (by decide) (by rfl) (by simp [Value.oneCell']) (by unfold maxLen; omega) (by omega) (by repeat (first | exact hs3 | refine One.drew ?_ | refine One.alloc ?_ _)) (by repeat (first | exact cellsAt_lit _ _ _ _ (by simp) | exact cellsAt_rec37 _ _ _ _ _ _ (by first | rfl | simp) | refine CellsAt.drewW ?_ | refine CellsAt.allocW ?_ _ | (refine CellsAt.grown ?_ gs3 ?_) | (intro b o hh; simp at hh; simp [Value.ownBlock]; omega))) ?_; intro as4 cs4 ws4 hs4 gs4)
          | (refine step_append_to wz wz.heap.size as4 (p + 1) cs4 (entsC (l.take p) ++ [.int .i64 x, .int .i64 y, .int .i64 z]) _ 0 _ (entsC []) (p + 1 + 0) (entsC (l.take p) ++ [.int .i64 x, .int .i64 y, .int .i64 z] ++ entsC []) (by omega) (by simp) rfl (.tmp 40) (.tmp 43) 46 (by rfl) (by rfl) (by rfl) Try.ulP7 Try.infoP7 rfl (by decide) (by rfl) (entsC_one _) (by unfold maxLen; omega) (by omega) (by repeat (first | exact hs4 | refine One.drew ?_)) (by repeat (first | exact cellsAt_nil _ _ | refine CellsAt.drewW ?_)) ?_; intro as5 cs5 ws5 hs5 gs5)))
      all_goals go_wp2
      all_goals (
        go_ret
        obtain ⟨gs, rfl⟩ := hs5.addr (by omega)
        have hfin := hs5.under HOz.out.below HOz.out.base
        refine ⟨gs, _, _, rfl, ?_, ?_, HB0.out _ (Bz.trans (hs5.below.mono Bz.size))⟩
        · rw [HE.out]; simp; have := HN.out; omega
        · rw [HE.out, entsC_append]
          have e9 : entsC ((x, y, z) :: l.drop p) = [.int .i64 x, .int .i64 y, .int .i64 z] ++ entsC [] := by rw [List.drop_of_length_le (by have := HN.out; omega)]; rfl
          rw [e9, ← List.append_assoc]
          exact hfin)

end Go.Proofs.Ytbnagmjhdnnheaa

namespace Go.Proofs.Ytbnagmjhdnnheaa
open Go.RowKit

theorem alloc_size7 (w : World) (o : Obj) : (w.alloc o).heap.size = w.heap.size + 1 := by simp
theorem pieces_room {s t : ByteArray} (N i j : Nat) (hs : s.size ≤ 1048576) (ht : t.size ≤ 1048576) (hi : i < s.size) (hj : j ≤ t.size) : (piecesN s t N i ++ rowP s t N i j).length ≤ 1099511627776 := by
  have h1 := piecesN_len s t N i
  have h2 := rowP_len s t N i j
  have h3 : i * t.size ≤ 1048575 * 1048576 := Nat.mul_le_mul (by omega) ht
  rw [List.length_append]
  omega
theorem piecesT_room {s t : ByteArray} (n : Int) (hs : s.size ≤ 1048576) (ht : t.size ≤ 1048576) : (piecesT s t n).length ≤ 1099511627776 := by
  unfold piecesT
  split
  · exact Nat.zero_le _
  · have h1 := piecesN_len s t n.toNat s.size
    have h3 : s.size * t.size ≤ 1048576 * 1048576 := Nat.mul_le_mul hs ht
    omega
theorem ents_len7 {w : World} {B : Nat} {e : TypeId} {a : Option Addr} {n c : Nat} {l : List En} (h : w.ownsRow B e 3 (.slice a n c) n (entsC l)) : n = l.length := by
  have := h.1
  rw [entsC_len] at this; omega
/-- What grows around two places, and whether a piece begins there. -/
theorem grow_ways (s t : ByteArray) (N i j : Nat) : (growT s t i j = ((0, 0, 0), false) ∧ ¬ startP s t N i j) ∨
    (∃ r : Nat, growT s t i j = (((i : Int), (j : Int), (r : Int)), true) ∧ startP s t N i j ∧ N ≤ r ∧ pieceN s t i j = ((i : Int), (j : Int), (r : Int))) ∨
    (∃ r : Nat, growT s t i j = (((i : Int), (j : Int), (r : Int)), true) ∧ ¬ startP s t N i j ∧ r < N) ∨
    (∃ (x y : Nat) (z : Nat), growT s t i j = (((x : Int), (y : Int), (z : Int)), true) ∧ ¬ startP s t N i j ∧ x < i) := by
  by_cases hsm : sm s t i j
  · right
    have hg := growT_yes hsm
    have hle := backP_le s t i j
    by_cases hb : backP s t i j = 0
    · have hg2 : growN s t i j = ((i : Int), (j : Int), ((runP s t i j : Nat) : Int)) := by rw [growN, hb]; rfl
      rw [hg2] at hg
      by_cases hN : N ≤ runP s t i j
      · exact .inl ⟨runP s t i j, hg, ⟨hsm, hb, hN⟩, hN, rfl⟩
      · exact .inr (.inl ⟨runP s t i j, hg, fun h => hN h.2.2, by omega⟩)
    · exact .inr (.inr ⟨_, _, _, hg, fun h => hb h.2.1, by omega⟩)
  · left
    exact ⟨growT_no (fun h => hsm (by have := h.2.2; rwa [Int.toNat_natCast, Int.toNat_natCast] at this)), fun h => hsm h.1⟩

/-- Parts of texts: from a place on, and up to one. -/
theorem bt_from {s : ByteArray} {i p : Nat} (h : i + p < s.size) : bt (s.extract i s.size) p = bt s (i + p) := by
  have h1 : p < (s.extract i s.size).size := by rw [ByteArray.size_extract]; omega
  rw [bt_at h1, bt_at h, ByteArray.getElem_extract]
theorem sm_from {s t : ByteArray} {i j p q : Nat} : sm (s.extract i s.size) (t.extract j t.size) p q ↔ sm s t (i + p) (j + q) := by
  have h1 : (s.extract i s.size).size = s.size - i := by rw [ByteArray.size_extract, Nat.min_self]
  have h2 : (t.extract j t.size).size = t.size - j := by rw [ByteArray.size_extract, Nat.min_self]
  constructor
  · rintro ⟨a, b, c⟩
    rw [bt_from (by omega), bt_from (by omega)] at c
    exact ⟨by omega, by omega, c⟩
  · rintro ⟨a, b, c⟩
    exact ⟨by omega, by omega, by rw [bt_from a, bt_from b]; exact c⟩
theorem runP_from (s t : ByteArray) (i j : Nat) : runP (s.extract i s.size) (t.extract j t.size) 0 0 = runP s t i j :=
  runP_is (fun k hk => by rw [sm_from, Nat.zero_add]; exact runP_same s t i j k hk) (fun h => by rw [sm_from, Nat.zero_add] at h; exact runP_stop s t i j h)
theorem sm_upto {s t : ByteArray} {i j p q : Nat} (hi : i ≤ s.size) (hj : j ≤ t.size) (hp : p < i) (hq : q < j) : sm (s.extract 0 i) (t.extract 0 j) p q ↔ sm s t p q := by
  have h1 : (s.extract 0 i).size = i := by rw [ByteArray.size_extract]; omega
  have h2 : (t.extract 0 j).size = j := by rw [ByteArray.size_extract]; omega
  have e1 : bt (s.extract 0 i) p = bt s p := by
    rw [bt_at (by omega), bt_at (by omega), ByteArray.getElem_extract]; simp only [Nat.zero_add]
  have e2 : bt (t.extract 0 j) q = bt t q := by
    rw [bt_at (by omega), bt_at (by omega), ByteArray.getElem_extract]; simp only [Nat.zero_add]
  unfold sm
  rw [e1, e2]
  omega
theorem backP_upto {s t : ByteArray} {i j : Nat} (hi : i ≤ s.size) (hj : j ≤ t.size) : ∀ p q, p ≤ i → q ≤ j → backP (s.extract 0 i) (t.extract 0 j) p q = backP s t p q := by
  intro p
  induction p with
  | zero => intro q _ _; rw [backP_left, backP_left]
  | succ p ih =>
    intro q hp hq
    cases q with
    | zero => rw [backP_right, backP_right]
    | succ q =>
      have h := sm_upto (s := s) (t := t) hi hj (p := p) (q := q) (by omega) (by omega)
      by_cases h2 : sm s t p q
      · rw [backP_yes h2, backP_yes (h.2 h2), ih q (by omega) (by omega)]
      · rw [backP_no h2, backP_no (fun e => h2 (h.1 e))]

/-- What begins at two places. -/
def fromP (s t : ByteArray) (i j : Nat) : En := if 0 < i ∧ 0 < j ∧ sm s t (i - 1) (j - 1) then (0, 0, 0) else pieceN s t i j
theorem fromP_in {s t : ByteArray} {i j : Nat} (h : 0 < i ∧ 0 < j ∧ sm s t (i - 1) (j - 1)) : fromP s t i j = (0, 0, 0) := by rw [fromP, if_pos h]
theorem fromP_out {s t : ByteArray} {i j : Nat} (h : ¬ (0 < i ∧ 0 < j ∧ sm s t (i - 1) (j - 1))) : fromP s t i j = pieceN s t i j := by rw [fromP, if_neg h]
theorem back_pos {s t : ByteArray} {i j : Nat} : (0 < i ∧ 0 < j ∧ sm s t (i - 1) (j - 1)) ↔ 0 < backP s t i j := by
  constructor
  · rintro ⟨h1, h2, h3⟩
    rw [backP_step h1 h2 h3]; omega
  · intro h
    rcases Decidable.em (0 < i ∧ 0 < j ∧ sm s t (i - 1) (j - 1)) with h1 | h1
    · exact h1
    · rw [backP_stop h1] at h; omega
theorem from_ways (s t : ByteArray) (N i j : Nat) (hN : 1 ≤ N) : (fromP s t i j = (0, 0, 0) ∧ ¬ startP s t N i j) ∨
    (∃ r : Nat, fromP s t i j = ((i : Int), (j : Int), (r : Int)) ∧ startP s t N i j ∧ N ≤ r ∧ pieceN s t i j = ((i : Int), (j : Int), (r : Int))) ∨
    (∃ r : Nat, fromP s t i j = ((i : Int), (j : Int), (r : Int)) ∧ ¬ startP s t N i j ∧ r < N) := by
  by_cases h : 0 < i ∧ 0 < j ∧ sm s t (i - 1) (j - 1)
  · exact .inl ⟨fromP_in h, fun h2 => by have := back_pos.1 h; have := h2.2.1; omega⟩
  · right
    have h0 : backP s t i j = 0 := backP_stop h
    have e := fromP_out h
    by_cases hr : N ≤ runP s t i j
    · exact .inl ⟨runP s t i j, e, ⟨runP_same s t i j 0 (by omega), h0, hr⟩, hr, rfl⟩
    · exact .inr ⟨runP s t i j, e, fun h2 => hr h2.2.2, by omega⟩
/-- Where no more n bytes are left nothing begins. -/
theorem rowP_rest {s t : ByteArray} {n i m : Nat} (hm : m ≤ t.size) (h : t.size < m + n) : rowP s t n i t.size = rowP s t n i m := by
  have key : ∀ d, m + d ≤ t.size → rowP s t n i (m + d) = rowP s t n i m := by
    intro d
    induction d with
    | zero => intro _; rfl
    | succ d ih =>
      intro hd
      rw [← Nat.add_assoc, rowP_no, ih (by omega)]
      rintro ⟨h1, _, h3⟩
      have := (runP_room s t i (m + d) (Nat.le_of_lt h1.1) (Nat.le_of_lt h1.2.1)).2
      omega
  have := key (t.size - m) (by omega)
  rwa [show m + (t.size - m) = t.size by omega] at this
theorem rowP_none {s t : ByteArray} {n i : Nat} (h : s.size < i + n) (m : Nat) : rowP s t n i m = [] := by
  induction m with
  | zero => rfl
  | succ m ih =>
    rw [rowP_no, ih]
    rintro ⟨h1, _, h3⟩
    have := (runP_room s t i m (Nat.le_of_lt h1.1) (Nat.le_of_lt h1.2.1)).1
    omega
theorem piecesN_rest {s t : ByteArray} {n k : Nat} (hk : k ≤ s.size) (h : s.size < k + n) : piecesN s t n s.size = piecesN s t n k := by
  have key : ∀ d, k + d ≤ s.size → piecesN s t n (k + d) = piecesN s t n k := by
    intro d
    induction d with
    | zero => intro _; rfl
    | succ d ih =>
      intro hd
      rw [← Nat.add_assoc, piecesN_next, rowP_none (by omega), List.append_nil, ih (by omega)]
  have := key (s.size - k) (by omega)
  rwa [show k + (s.size - k) = s.size by omega] at this
end Go.Proofs.Ytbnagmjhdnnheaa

namespace Go.Proofs.Ytbnagmjhdnnheaa

abbrev Fd := Int × En
def fdLt (x y : Fd) : Prop := x.1 < y.1 ∨ x.1 = y.1 ∧ enLt x.2 y.2
instance (x y : Fd) : Decidable (fdLt x y) := by unfold fdLt; infer_instance
theorem fdLt_irrefl (x : Fd) : ¬ fdLt x x := by
  rintro (h | ⟨_, h⟩)
  · omega
  · exact enLt_irrefl _ h
theorem fdLt_trans {x y z : Fd} (h : fdLt x y) (k : fdLt y z) : fdLt x z := by
  rcases h with h | ⟨h, h2⟩
  · rcases k with k | ⟨k, k2⟩
    · exact .inl (by omega)
    · exact .inl (by omega)
  · rcases k with k | ⟨k, k2⟩
    · exact .inl (by omega)
    · exact .inr ⟨by omega, enLt_trans h2 k2⟩
theorem fdLt_asymm {x y : Fd} (h : fdLt x y) : ¬ fdLt y x := fun k => fdLt_irrefl _ (fdLt_trans h k)
theorem fdLt_three (x y : Fd) : fdLt x y ∨ x = y ∨ fdLt y x := by
  obtain ⟨a, p⟩ := x
  obtain ⟨b, q⟩ := y
  rcases Int.lt_trichotomy a b with h | h | h
  · exact .inl (.inl h)
  · subst h
    rcases enLt_three p q with h | h | h
    · exact .inl (.inr ⟨rfl, h⟩)
    · exact .inr (.inl (by rw [h]))
    · exact .inr (.inr (.inr ⟨rfl, h⟩))
  · exact .inr (.inr (.inl h))

structure IsRowF (l : List Fd) (S : List Fd) : Prop where
  up : S.Pairwise fdLt
  mem : ∀ x, x ∈ S ↔ x ∈ l
theorem IsRowF.unique {l S T : List Fd} (h : IsRowF l S) (k : IsRowF l T) : S = T := pairwise_unique fdLt_irrefl (fun _ _ => fdLt_asymm) h.up k.up fun x => (h.mem x).trans (k.mem x).symm

/-- How much is ahead. -/
def atF (x : Fd) : List Fd → Nat
  | [] => 0
  | y :: l => if fdLt y x then atF x l + 1 else 0
/-- What is found put among others. -/
def putF (x : Fd) (l : List Fd) : List Fd := if l[atF x l]? = some x then l else l.take (atF x l) ++ x :: l.drop (atF x l)

theorem atF_le (x : Fd) (l : List Fd) : atF x l ≤ l.length := by
  induction l with
  | nil => exact Nat.le_refl _
  | cons y l ih => unfold atF; split <;> simp <;> omega
theorem atF_ahead (x : Fd) (l : List Fd) (i : Nat) (h : i < atF x l) (hi : i < l.length) : fdLt l[i] x := by
  induction l generalizing i with
  | nil => simp at hi
  | cons y l ih =>
    unfold atF at h
    split at h
    · rename_i h2
      cases i with
      | zero => exact h2
      | succ i => exact ih i (by omega) (by simpa using hi)
    · omega
theorem atF_not (x : Fd) (l : List Fd) (h : atF x l < l.length) : ¬ fdLt l[atF x l] x := by
  induction l with
  | nil => simp at h
  | cons y l ih =>
    by_cases h2 : fdLt y x
    · have e : atF x (y :: l) = atF x l + 1 := by rw [atF, if_pos h2]
      simp only [e] at h ⊢
      simpa using ih (by simpa using h)
    · have e : atF x (y :: l) = 0 := by rw [atF, if_neg h2]
      simp only [e]
      exact h2
theorem atF_is (x : Fd) (l : List Fd) (k : Nat) (hk : k ≤ l.length) (h1 : ∀ i, i < k → ∀ h : i < l.length, fdLt l[i] x) (h2 : ∀ h : k < l.length, ¬ fdLt l[k] x) : atF x l = k := by
  rcases Nat.lt_trichotomy (atF x l) k with h | h | h
  · exact absurd (h1 _ h (by omega)) (atF_not x l (by omega))
  · exact h
  · exact absurd (atF_ahead x l k h (by have := atF_le x l; omega)) (h2 (by have := atF_le x l; omega))

theorem putF_row {l S : List Fd} (x : Fd) (h : IsRowF l S) : IsRowF (x :: l) (putF x S) := by
  unfold putF
  have hle := atF_le x S
  by_cases he : S[atF x S]? = some x
  · rw [if_pos he]
    refine ⟨h.up, fun y => ?_⟩
    rw [h.mem, List.mem_cons]
    refine ⟨.inr, fun hy => ?_⟩
    rcases hy with rfl | hy
    · exact (h.mem _).1 (List.mem_of_getElem? he)
    · exact hy
  · rw [if_neg he]
    have hb : ∀ y ∈ S.drop (atF x S), fdLt x y := by
      intro y hy
      obtain ⟨i, hi, rfl⟩ := List.getElem_of_mem hy
      rw [List.length_drop] at hi
      rw [List.getElem_drop]
      have hlt : atF x S < S.length := by omega
      have h0 : fdLt x S[atF x S] := by
        rcases fdLt_three x S[atF x S] with h1 | h1 | h1
        · exact h1
        · exact absurd (by rw [List.getElem?_eq_getElem hlt, ← h1]) he
        · exact absurd h1 (atF_not x S hlt)
      by_cases e : i = 0
      · subst e; exact h0
      · exact fdLt_trans h0 (List.pairwise_iff_getElem.1 h.up (atF x S) (atF x S + i) hlt (by omega) (by omega))
    have ha : ∀ y ∈ S.take (atF x S), fdLt y x := by
      intro y hy
      obtain ⟨i, hi, rfl⟩ := List.getElem_of_mem hy
      rw [List.length_take] at hi
      rw [List.getElem_take]
      exact atF_ahead x S i (by omega) (by omega)
    refine ⟨?_, fun y => ?_⟩
    · rw [List.pairwise_append, List.pairwise_cons]
      refine ⟨h.up.take, ⟨hb, h.up.drop⟩, fun y hy z hz => ?_⟩
      rcases List.mem_cons.1 hz with rfl | hz
      · exact ha y hy
      · exact fdLt_trans (ha y hy) (hb z hz)
    · have e : y ∈ S ↔ y ∈ S.take (atF x S) ∨ y ∈ S.drop (atF x S) := by rw [← List.mem_append, List.take_append_drop]
      rw [List.mem_append, List.mem_cons, List.mem_cons, ← h.mem, e]
      constructor
      · rintro (h1 | h1 | h1)
        · exact .inr (.inl h1)
        · exact .inl h1
        · exact .inr (.inr h1)
      · rintro (h1 | h1 | h1)
        · exact .inr (.inl h1)
        · exact .inl h1
        · exact .inr (.inr h1)

/-- What is found, in order, each once. -/
def rowF : List Fd → List Fd
  | [] => []
  | x :: l => putF x (rowF l)
theorem rowF_is (l : List Fd) : IsRowF l (rowF l) := by
  induction l with
  | nil => exact ⟨.nil, fun x => Iff.rfl⟩
  | cons x l ih => exact putF_row x ih
theorem rowF_of {l S : List Fd} (h : IsRowF l S) : rowF l = S := (rowF_is l).unique h
theorem rowF_self {l : List Fd} (h : l.Pairwise fdLt) : rowF l = l := rowF_of ⟨h, fun _ => Iff.rfl⟩
theorem rowF_mem (l : List Fd) (x : Fd) : x ∈ rowF l ↔ x ∈ l := (rowF_is l).mem x
theorem rowF_same {l m : List Fd} (h : ∀ x, x ∈ l ↔ x ∈ m) : rowF l = rowF m := rowF_of ⟨(rowF_is m).up, fun x => ((rowF_is m).mem x).trans (h x).symm⟩
theorem putF_snoc (x : Fd) (l : List Fd) : putF x (rowF l) = rowF (l ++ [x]) := by
  refine (rowF_of ?_).symm
  have h := putF_row x (rowF_is l)
  exact ⟨h.up, fun y => (h.mem y).trans (by simp [or_comm])⟩
theorem putF_len (x : Fd) (l : List Fd) : (putF x l).length ≤ l.length + 1 := by
  unfold putF
  split
  · omega
  · rw [List.length_append, List.length_cons, List.length_take, List.length_drop]; have := atF_le x l; omega
theorem rowF_len (l : List Fd) : (rowF l).length ≤ l.length := by
  induction l with
  | nil => exact Nat.le_refl _
  | cons x l ih => have := putF_len x (rowF l); rw [rowF, List.length_cons]; omega

end Go.Proofs.Ytbnagmjhdnnheaa

namespace Go.Proofs.Ytbnagmjhdnnheaa

/-- The marks of a text. -/
def mkL (s : ByteArray) (k w : Int) : List (Int × Int) := marksL s.data.toList k w
theorem marksL_few {s : List UInt8} {k w : Int} (h : k < 1 ∨ w < 1) : marksL s k w = [] := by
  rw [marksL, marksAt]
  rcases h with h | h
  · rw [printsL, if_pos (.inl h)]
    by_cases hw : w < 1
    · rw [chosenN_few (.inl hw)]; rfl
    · rw [chosenN_few (.inr (by simp; omega))]; rfl
  · rw [chosenN_few (.inl h)]; rfl
theorem mkL_few {s : ByteArray} {k w : Int} (h : k < 1 ∨ w < 1) : mkL s k w = [] := marksL_few h
theorem mkL_ok {s : ByteArray} {k w : Int} {m : Int × Int} (h : m ∈ mkL s k w) : 1 ≤ k ∧ 1 ≤ w := by
  refine ⟨?_, ?_⟩
  · rcases Int.lt_or_le k 1 with hk | hk
    · rw [mkL_few (.inl hk)] at h; cases h
    · exact hk
  · rcases Int.lt_or_le w 1 with hk | hk
    · rw [mkL_few (.inr hk)] at h; cases h
    · exact hk
/-- A mark has the fingerprint of the k bytes at its place. -/
theorem mkL_in {s : ByteArray} {k w : Int} {m : Int × Int} (h : m ∈ mkL s k w) : ∃ i K : Nat, k = K ∧ 1 ≤ K ∧ m = (((prN (pieceL s.data.toList K i) : Nat) : Int), (i : Int)) ∧ i + K ≤ s.size ∧ i ∈ marksAt s.data.toList k w := by
  have hk := (mkL_ok h).1
  obtain ⟨K, rfl⟩ : ∃ K : Nat, k = K := ⟨k.toNat, by omega⟩
  obtain ⟨i, hi, rfl⟩ := List.mem_map.1 h
  have h1 := marksAt_lt _ K w (by omega) i hi
  exact ⟨i, K, rfl, by omega, by rw [printsN_get _ _ _ (by omega) h1], h1, hi⟩
theorem mkL_print {s : ByteArray} {k w : Int} {m : Int × Int} (h : m ∈ mkL s k w) : 0 ≤ m.1 ∧ m.1 < 1000003 ∧ 0 ≤ m.2 := by
  obtain ⟨i, K, _, _, rfl, _, _⟩ := mkL_in h
  have := prN_lt (pieceL s.data.toList K i)
  refine ⟨by simp only; omega, by simp only; omega, by simp only; omega⟩
theorem twinM_mem {A B : List (Int × Int)} {z : Int × Int} : z ∈ twinsL A B ↔ ∃ x ∈ A, ∃ y ∈ B, x.1 = y.1 ∧ z = (x.2, y.2) := by
  rw [twinsL, List.mem_flatMap]
  constructor
  · rintro ⟨x, hx, h⟩
    rw [rowT, List.mem_map] at h
    obtain ⟨y, hy, rfl⟩ := h
    rw [List.mem_filter] at hy
    exact ⟨x, hx, y, hy.1, by simpa using hy.2, rfl⟩
  · rintro ⟨x, hx, y, hy, he, rfl⟩
    exact ⟨x, hx, List.mem_map.2 ⟨y, List.mem_filter.2 ⟨hy, by simpa using he⟩, rfl⟩⟩

/-- The piece around two places, if k bytes are the same there, and it has n bytes or more. -/
def aroundP (s t : ByteArray) (k n : Int) (i j : Nat) : Option En := if k.toNat ≤ runP s t i j ∧ n ≤ (growN s t i j).2.2 then some (growN s t i j) else none
theorem aroundP_some {s t : ByteArray} {k n : Int} {i j : Nat} {p : En} : aroundP s t k n i j = some p ↔ k.toNat ≤ runP s t i j ∧ n ≤ p.2.2 ∧ p = growN s t i j := by
  unfold aroundP
  split
  · rename_i h
    constructor
    · intro e
      injection e with e
      subst e
      exact ⟨h.1, h.2, rfl⟩
    · rintro ⟨_, _, rfl⟩
      rfl
  · rename_i h
    constructor
    · intro e; cases e
    · rintro ⟨h1, h2, rfl⟩
      exact absurd ⟨h1, h2⟩ h
/-- What grows where bytes are the same is a piece that can not be made longer. -/
theorem around_piece {s t : ByteArray} {k : Int} {n i j : Nat} {p : En} (hk : 1 ≤ k) (hn : 1 ≤ n) (h : aroundP s t k n i j = some p) : p ∈ piecesT s t n := by
  obtain ⟨h1, h2, rfl⟩ := aroundP_some.1 h
  have hsm : sm s t i j := runP_same s t i j 0 (by omega)
  have hrb := runP_back s t i j
  refine (pieces_mem hn).2 ⟨i - backP s t i j, j - backP s t i j, ⟨?_, backP_first s t i j, ?_⟩, rfl⟩
  · by_cases hb : backP s t i j = 0
    · rw [hb]; exact hsm
    · exact backP_same s t i j 0 (by omega)
  · simp only [growN] at h2; omega
/-- A piece grows around each of its places at which k of its bytes are left. -/
theorem piece_around {s t : ByteArray} {K N A B d : Nat} (hs : startP s t N A B) (hk : 1 ≤ K) (hd : d + K ≤ runP s t A B) : aroundP s t (K : Int) (N : Int) (A + d) (B + d) = some (pieceN s t A B) := by
  have h1 := runP_on (s := s) (t := t) (i := A) (j := B) d (fun q hq => runP_same s t A B q (by omega))
  have h2 := backP_on (s := s) (t := t) (i := A) (j := B) d (fun q hq => runP_same s t A B q (by omega))
  rw [hs.2.1, Nat.zero_add] at h2
  have e : growN s t (A + d) (B + d) = pieceN s t A B := by
    rw [growN, h2, Nat.add_sub_cancel, Nat.add_sub_cancel]; rfl
  rw [aroundP_some]
  refine ⟨by omega, ?_, e.symm⟩
  have := hs.2.2
  simp only [pieceN]
  omega

/-- FoundBy. -/
def foundTo (s t : ByteArray) (k n : Int) (T : List (Int × Int)) : List En := T.filterMap fun x => aroundP s t k n x.1.toNat x.2.toNat
def foundL (s t : ByteArray) (k w n : Int) : List En := if n < 1 then [] else rowE (foundTo s t k n (twinsL (mkL s k w) (mkL t k w)))
theorem foundTo_yes {s t : ByteArray} {k n : Int} {T : List (Int × Int)} {q : Nat} {p : En} (hq : q < T.length) (h : aroundP s t k n T[q].1.toNat T[q].2.toNat = some p) : foundTo s t k n (T.take (q + 1)) = foundTo s t k n (T.take q) ++ [p] := by
  rw [foundTo, List.take_succ_eq_append_getElem hq, List.filterMap_append, List.filterMap_cons, h]; rfl
theorem foundTo_no {s t : ByteArray} {k n : Int} {T : List (Int × Int)} {q : Nat} (hq : q < T.length) (h : aroundP s t k n T[q].1.toNat T[q].2.toNat = none) : foundTo s t k n (T.take (q + 1)) = foundTo s t k n (T.take q) := by
  rw [foundTo, List.take_succ_eq_append_getElem hq, List.filterMap_append, List.filterMap_cons, h]; simp [foundTo]
theorem foundTo_len (s t : ByteArray) (k n : Int) (T : List (Int × Int)) : (foundTo s t k n T).length ≤ T.length := List.length_filterMap_le _ _
theorem foundL_none {s t : ByteArray} {k w n : Int} (h : k < 1 ∨ w < 1 ∨ n < 1) : foundL s t k w n = [] := by
  unfold foundL
  split
  · rfl
  · rw [mkL_few (show k < 1 ∨ w < 1 by omega)]; rfl
/-- Where a twin stands. -/
theorem twin_in {s t : ByteArray} {k w : Int} {x : Int × Int} (h : x ∈ twinsL (mkL s k w) (mkL t k w)) : ∃ i j K : Nat, k = K ∧ 1 ≤ K ∧ x = ((i : Int), (j : Int)) ∧ i + K ≤ s.size ∧ j + K ≤ t.size ∧ prN (pieceL s.data.toList K i) = prN (pieceL t.data.toList K j) := by
  obtain ⟨a, ha, b, hb, he, rfl⟩ := twinM_mem.1 h
  obtain ⟨i, K, hK, hk1, rfl, hi, _⟩ := mkL_in ha
  obtain ⟨j, K2, hK2, _, rfl, hj, _⟩ := mkL_in hb
  obtain rfl : K = K2 := by omega
  simp only at he
  exact ⟨i, j, K, hK, hk1, rfl, hi, hj, by omega⟩
/-- All that is found are pieces that can not be made longer. -/
theorem foundL_piece {s t : ByteArray} {k w n : Int} {p : En} (h : p ∈ foundL s t k w n) : p ∈ piecesT s t n := by
  unfold foundL at h
  split at h
  · cases h
  · rename_i hn
    obtain ⟨N, rfl⟩ : ∃ N : Nat, n = N := ⟨n.toNat, by omega⟩
    rw [rowE_mem, foundTo, List.mem_filterMap] at h
    obtain ⟨x, hx, h⟩ := h
    obtain ⟨i, j, K, rfl, hk1, rfl, _, _, _⟩ := twin_in hx
    exact around_piece (by omega) (by omega) h
theorem extract_list7 (s : ByteArray) (i n : Nat) : (s.extract i (i + n)).data.toList = pieceL s.data.toList n i := by
  simp [ByteArray.extract, ByteArray.copySlice, pieceL]
  try rw [List.take_drop]
theorem foundL_all {s t : ByteArray} {K W N : Nat} (hk : 1 ≤ K) (hw : 1 ≤ W) (hn : K + W - 1 ≤ N) : foundL s t K W N = piecesT s t N := by
  have hN : 1 ≤ N := by omega
  unfold foundL
  rw [if_neg (by omega)]
  refine rowE_of ⟨pieces_up s t N, fun p => ?_⟩
  constructor
  · intro h
    obtain ⟨A, B, hst, rfl⟩ := (pieces_mem hN).1 h
    have hrm := runP_room s t A B (Nat.le_of_lt hst.1.1) (Nat.le_of_lt hst.1.2.1)
    have hr := hst.2.2
    have he : pieceL s.data.toList (K + W - 1) A = pieceL t.data.toList (K + W - 1) B := by
      rw [← extract_list7, ← extract_list7, (extract_same (by omega) (by omega)).2 (show K + W - 1 ≤ runP s t A B by omega)]
    obtain ⟨d, hd, h1, h2, h3⟩ := marksAt_shared s.data.toList t.data.toList K W A B (by omega) (by omega) (show A + (K + W - 1) ≤ s.size by omega) (show B + (K + W - 1) ≤ t.size by omega) he
    rw [foundTo, List.mem_filterMap]
    refine ⟨(((A + d : Nat) : Int), ((B + d : Nat) : Int)), twinM_mem.2 ⟨_, List.mem_map.2 ⟨A + d, h1, rfl⟩, _, List.mem_map.2 ⟨B + d, h2, rfl⟩, ?_, rfl⟩, ?_⟩
    · have la := marksAt_lt s.data.toList K W (by omega) _ h1
      have lb := marksAt_lt t.data.toList K W (by omega) _ h2
      simp only
      rw [printsN_get _ _ _ (by omega) la, printsN_get _ _ _ (by omega) lb, h3]
    · simp only [Int.toNat_natCast]
      exact piece_around hst hk (by omega)
  · intro h
    refine foundL_piece (w := (W : Int)) (k := (K : Int)) ?_
    rw [foundL, if_neg (by omega), rowE_mem]
    exact h
theorem foundL_up (s t : ByteArray) (k w n : Int) : (foundL s t k w n).Pairwise enLt := by
  unfold foundL
  split
  · exact .nil
  · exact (rowE_is _).up
theorem foundL_mem {s t : ByteArray} {k w : Int} {N : Nat} (hN : 1 ≤ N) {p : En} : p ∈ foundL s t k w N ↔ ∃ a ∈ mkL s k w, ∃ b ∈ mkL t k w, a.1 = b.1 ∧ aroundP s t k N a.2.toNat b.2.toNat = some p := by
  rw [foundL, if_neg (by omega), rowE_mem, foundTo, List.mem_filterMap]
  constructor
  · rintro ⟨x, hx, h⟩
    obtain ⟨a, ha, b, hb, he, rfl⟩ := twinM_mem.1 hx
    exact ⟨a, ha, b, hb, he, h⟩
  · rintro ⟨a, ha, b, hb, he, h⟩
    exact ⟨(a.2, b.2), twinM_mem.2 ⟨a, ha, b, hb, he, rfl⟩, h⟩

/-- FalseTwins. -/
def liesP (s t : ByteArray) (k : Int) (x : Int × Int) : Bool := decide (¬ k.toNat ≤ runP s t x.1.toNat x.2.toNat)
def falseTo (s t : ByteArray) (k : Int) (T : List (Int × Int)) : Nat := (T.filter (liesP s t k)).length
def falseN (s t : ByteArray) (k w : Int) : Nat := falseTo s t k (twinsL (mkL s k w) (mkL t k w))
theorem falseTo_yes {s t : ByteArray} {k : Int} {T : List (Int × Int)} {q : Nat} (hq : q < T.length) (h : ¬ k.toNat ≤ runP s t T[q].1.toNat T[q].2.toNat) : falseTo s t k (T.take (q + 1)) = falseTo s t k (T.take q) + 1 := by
  rw [falseTo, List.take_succ_eq_append_getElem hq, List.filter_append, List.length_append, List.filter_cons_of_pos (by simpa [liesP] using h)]; rfl
theorem falseTo_no {s t : ByteArray} {k : Int} {T : List (Int × Int)} {q : Nat} (hq : q < T.length) (h : k.toNat ≤ runP s t T[q].1.toNat T[q].2.toNat) : falseTo s t k (T.take (q + 1)) = falseTo s t k (T.take q) := by
  rw [falseTo, List.take_succ_eq_append_getElem hq, List.filter_append, List.length_append, List.filter_cons_of_neg (by simpa [liesP] using h)]; rfl
theorem falseTo_le (s t : ByteArray) (k : Int) (T : List (Int × Int)) (q : Nat) : falseTo s t k (T.take q) ≤ q := by
  have h1 := List.length_filter_le (liesP s t k) (T.take q)
  rw [List.length_take] at h1
  unfold falseTo
  omega
theorem filt_turn (P Q : Int × Int → Bool) (hPQ : ∀ x y, P (x, y) = Q (y, x)) (A B : List (Int × Int)) : ((twinsL A B).filter P).length = ((twinsL B A).filter Q).length := by
  have hnil : ∀ B : List (Int × Int), twinsL B [] = [] := by
    intro B
    induction B with
    | nil => rfl
    | cons b B ih => rw [twinsL, List.flatMap_cons]; rw [twinsL] at ih; rw [ih]; rfl
  have hone : ∀ (a : Int × Int) (A B : List (Int × Int)), ((twinsL B (a :: A)).filter Q).length = ((rowT a B).filter P).length + ((twinsL B A).filter Q).length := by
    intro a A B
    induction B with
    | nil => rfl
    | cons b B ih =>
      have e1 : twinsL (b :: B) (a :: A) = rowT b (a :: A) ++ twinsL B (a :: A) := by rw [twinsL, List.flatMap_cons]; rfl
      have e2 : twinsL (b :: B) A = rowT b A ++ twinsL B A := by rw [twinsL, List.flatMap_cons]; rfl
      rw [e1, e2, List.filter_append, List.filter_append, List.length_append, List.length_append, ih]
      by_cases hab : a.1 = b.1
      · have e3 : rowT b (a :: A) = (b.2, a.2) :: rowT b A := by rw [rowT, List.filter_cons_of_pos (by simp [hab])]; rfl
        have e4 : rowT a (b :: B) = (a.2, b.2) :: rowT a B := by rw [rowT, List.filter_cons_of_pos (by simp [hab])]; rfl
        rw [e3, e4]
        by_cases hq : Q (b.2, a.2) = true
        · rw [List.filter_cons_of_pos hq, List.filter_cons_of_pos (by rw [hPQ]; exact hq), List.length_cons, List.length_cons]
          omega
        · rw [List.filter_cons_of_neg hq, List.filter_cons_of_neg (by rw [hPQ]; exact hq)]
          omega
      · have e3 : rowT b (a :: A) = rowT b A := by rw [rowT, List.filter_cons_of_neg (by simpa using fun e => hab e.symm)]; rfl
        have e4 : rowT a (b :: B) = rowT a B := by rw [rowT, List.filter_cons_of_neg (by simpa using hab)]; rfl
        rw [e3, e4]
        omega
  induction A with
  | nil => rw [hnil]; rfl
  | cons a A ih =>
    have e1 : twinsL (a :: A) B = rowT a B ++ twinsL A B := by rw [twinsL, List.flatMap_cons]; rfl
    rw [e1, List.filter_append, List.length_append, ih, hone]
/-- Twins are false both ways round. -/
theorem falseN_turn (s t : ByteArray) (k w : Int) : falseN t s k w = falseN s t k w := by
  refine filt_turn _ _ (fun x y => ?_) _ _
  simp only [liesP, runP_turn t s]
/-- A false twin: fingerprints that meet, though the bytes differ. -/
theorem falseN_meet {s t : ByteArray} {k w : Int} (h : 0 < falseN s t k w) : ∃ i j K : Nat, k = K ∧ 1 ≤ K ∧ i + K ≤ s.size ∧ j + K ≤ t.size ∧ prN (pieceL s.data.toList K i) = prN (pieceL t.data.toList K j) ∧ ¬ s.extract i (i + K) = t.extract j (j + K) := by
  obtain ⟨x, hx⟩ := List.exists_mem_of_length_pos h
  rw [List.mem_filter] at hx
  obtain ⟨i, j, K, hK, hk1, rfl, hi, hj, he⟩ := twin_in hx.1
  refine ⟨i, j, K, hK, hk1, hi, hj, he, fun e => ?_⟩
  have h1 := (extract_same hi hj).1 e
  have h2 := hx.2
  simp only [liesP, hK, Int.toNat_natCast, decide_eq_true_eq] at h2
  exact h2 h1
theorem falseN_le (s t : ByteArray) (k w : Int) : falseN s t k w ≤ (twinsL (mkL s k w) (mkL t k w)).length := List.length_filter_le _ _

/-- ShelfOfAll: the entries of a text, and of the first m texts. -/
def docAt (D : List ByteArray) (i : Nat) : ByteArray := D.getD i ⟨#[]⟩
def entsOf (i : Nat) (M : List (Int × Int)) : List En := M.map fun m => (m.1, (i : Int), m.2)
def allTo (D : List ByteArray) (k w : Int) (m : Nat) : List En := (List.range m).flatMap fun i => entsOf i (mkL (docAt D i) k w)
def allN (D : List ByteArray) (k w : Int) (m : Nat) : List En := rowE (allTo D k w m)
theorem allN_zero (D : List ByteArray) (k w : Int) : allN D k w 0 = [] := rfl
theorem allTo_next (D : List ByteArray) (k w : Int) (m : Nat) : allTo D k w (m + 1) = allTo D k w m ++ entsOf m (mkL (docAt D m) k w) := by
  rw [allTo, List.range_succ, List.flatMap_append]; simp [allTo]
theorem allN_next (D : List ByteArray) (k w : Int) (m : Nat) : allN D k w (m + 1) = rowE (allN D k w m ++ rowE (entsOf m (mkL (docAt D m) k w))) := by
  rw [allN, allTo_next]
  refine rowE_same fun x => ?_
  rw [List.mem_append, List.mem_append, rowE_mem, allN, rowE_mem]
theorem entsOf_mem {i : Nat} {M : List (Int × Int)} {x : En} : x ∈ entsOf i M ↔ x.2.1 = i ∧ (x.1, x.2.2) ∈ M := by
  rw [entsOf, List.mem_map]
  constructor
  · rintro ⟨m, hm, rfl⟩
    exact ⟨rfl, hm⟩
  · rintro ⟨h1, h2⟩
    refine ⟨_, h2, ?_⟩
    obtain ⟨a, b, c⟩ := x
    simp only at h1
    rw [← h1]
theorem allN_mem {D : List ByteArray} {k w : Int} {m : Nat} {x : En} : x ∈ allN D k w m ↔ ∃ i, i < m ∧ x.2.1 = i ∧ (x.1, x.2.2) ∈ mkL (docAt D i) k w := by
  rw [allN, rowE_mem, allTo, List.mem_flatMap]
  constructor
  · rintro ⟨i, hi, h⟩
    obtain ⟨h1, h2⟩ := entsOf_mem.1 h
    exact ⟨i, List.mem_range.1 hi, h1, h2⟩
  · rintro ⟨i, hi, h1, h2⟩
    exact ⟨i, List.mem_range.2 hi, entsOf_mem.2 ⟨h1, h2⟩⟩
theorem entsOf_ok {i : Nat} {s : ByteArray} {k w : Int} {x : En} (h : x ∈ entsOf i (mkL s k w)) : enOk x := by
  obtain ⟨h1, h2⟩ := entsOf_mem.1 h
  have h3 := mkL_print h2
  unfold enOk
  simp only at h3
  omega
theorem allN_shelf (D : List ByteArray) (k w : Int) (m : Nat) : shOk (allN D k w m) := shOk_row fun x hx => by
  rw [allTo, List.mem_flatMap] at hx
  obtain ⟨i, _, h⟩ := hx
  exact entsOf_ok h
theorem ents_shelf (i : Nat) (s : ByteArray) (k w : Int) : shOk (rowE (entsOf i (mkL s k w))) := shOk_row fun _ hx => entsOf_ok hx
/-- Only the entries of one text: its shelf. -/
theorem allN_only (D : List ByteArray) (k w : Int) (m i : Nat) (hi : i < m) : (allN D k w m).filter (fun x => x.2.1 == (i : Int)) = rowE (entsOf i (mkL (docAt D i) k w)) := by
  refine (rowE_of ⟨(rowE_is _).up.filter _, fun x => ?_⟩).symm
  rw [List.mem_filter]
  constructor
  · rintro ⟨h1, h2⟩
    obtain ⟨q, _, h3, h4⟩ := allN_mem.1 h1
    have h5 : x.2.1 = (i : Int) := by simpa using h2
    obtain rfl : q = i := by omega
    exact entsOf_mem.2 ⟨h3, h4⟩
  · intro h
    obtain ⟨h1, h2⟩ := entsOf_mem.1 h
    exact ⟨allN_mem.2 ⟨i, hi, h1, h2⟩, by simpa using h1⟩
theorem rowE_nodup {l : List En} (h : l.Pairwise (· ≠ ·)) : (rowE l).length = l.length := by
  induction l with
  | nil => rfl
  | cons x l ih =>
    rw [List.pairwise_cons] at h
    rw [rowE, putE]
    split
    · rename_i he
      have h1 := (rowE_mem l x).1 (List.mem_of_getElem? he)
      exact absurd rfl (h.1 x h1)
    · have h1 := atE_le x (rowE l)
      have h2 := ih h.2
      rw [List.length_append, List.length_cons, List.length_cons, List.length_take, List.length_drop]
      omega
theorem mkL_nodup (s : ByteArray) (k w : Int) : (mkL s k w).Pairwise (fun p q => p.2 ≠ q.2) := by
  rw [mkL, marksL, List.pairwise_map]
  refine List.Pairwise.imp ?_ (chosenN_up _ w)
  intro a b hab e
  simp only at e
  omega
theorem allTo_nodup (D : List ByteArray) (k w : Int) (m : Nat) : (allTo D k w m).Pairwise (· ≠ ·) := by
  induction m with
  | zero => exact .nil
  | succ m ih =>
    rw [allTo_next, List.pairwise_append]
    refine ⟨ih, ?_, ?_⟩
    · rw [entsOf, List.pairwise_map]
      refine List.Pairwise.imp ?_ (mkL_nodup (docAt D m) k w)
      intro a b hab e
      simp only [Prod.mk.injEq] at e
      exact hab e.2.2
    · intro x hx y hy e
      subst e
      rw [allTo, List.mem_flatMap] at hx
      obtain ⟨i, hi, h⟩ := hx
      have h1 := (entsOf_mem.1 h).1
      have h2 := (entsOf_mem.1 hy).1
      have h3 := List.mem_range.1 hi
      omega
theorem allN_len (D : List ByteArray) (k w : Int) (m : Nat) : (allN D k w m).length = (allTo D k w m).length := rowE_nodup (allTo_nodup D k w m)
theorem allN_len_next (D : List ByteArray) (k w : Int) (m : Nat) : (allN D k w (m + 1)).length = (allN D k w m).length + (mkL (docAt D m) k w).length := by
  rw [allN_len, allN_len, allTo_next, List.length_append, entsOf, List.length_map]

/-- AskShelf: what one entry tells of one mark; the entries with a fingerprint. -/
def askE (D : List ByteArray) (s : ByteArray) (k n : Int) (m : Int × Int) (x : En) : Option Fd :=
  if x.2.1 < D.length ∧ x.2.2 + k ≤ (docAt D x.2.1.toNat).size then (aroundP (docAt D x.2.1.toNat) s k n x.2.2.toNat m.2.toNat).map fun p => (x.2.1, p) else none
def withP (L : List En) (p : Int) : List En := L.filter fun x => x.1 == p
def askM (L : List En) (D : List ByteArray) (s : ByteArray) (k n : Int) (m : Int × Int) : List Fd := (withP L m.1).filterMap (askE D s k n m)
def askTo (L : List En) (D : List ByteArray) (s : ByteArray) (k n : Int) (M : List (Int × Int)) : List Fd := M.flatMap (askM L D s k n)
def askR (L : List En) (D : List ByteArray) (s : ByteArray) (k w n : Int) : List Fd := rowF (askTo L D s k n (mkL s k w))
theorem askTo_next {L : List En} {D : List ByteArray} {s : ByteArray} {k n : Int} {M : List (Int × Int)} {q : Nat} (hq : q < M.length) : askTo L D s k n (M.take (q + 1)) = askTo L D s k n (M.take q) ++ askM L D s k n M[q] := by
  rw [askTo, List.take_succ_eq_append_getElem hq, List.flatMap_append]; simp [askTo]
theorem askE_some {D : List ByteArray} {s : ByteArray} {k n : Int} {m : Int × Int} {x : En} {f : Fd} : askE D s k n m x = some f ↔ x.2.1 < D.length ∧ x.2.2 + k ≤ (docAt D x.2.1.toNat).size ∧ f.1 = x.2.1 ∧ aroundP (docAt D x.2.1.toNat) s k n x.2.2.toNat m.2.toNat = some f.2 := by
  unfold askE
  split
  · rename_i h
    rw [Option.map_eq_some_iff]
    constructor
    · rintro ⟨p, hp, rfl⟩
      exact ⟨h.1, h.2, rfl, hp⟩
    · rintro ⟨_, _, h1, h2⟩
      exact ⟨f.2, h2, by rw [← h1]⟩
  · rename_i h
    constructor
    · intro e; cases e
    · rintro ⟨h1, h2, _⟩
      exact absurd ⟨h1, h2⟩ h
theorem askTo_mem {L : List En} {D : List ByteArray} {s : ByteArray} {k n : Int} {M : List (Int × Int)} {f : Fd} : f ∈ askTo L D s k n M ↔ ∃ m ∈ M, ∃ x ∈ L, x.1 = m.1 ∧ askE D s k n m x = some f := by
  rw [askTo, List.mem_flatMap]
  constructor
  · rintro ⟨m, hm, h⟩
    rw [askM, List.mem_filterMap] at h
    obtain ⟨x, hx, h⟩ := h
    rw [withP, List.mem_filter] at hx
    exact ⟨m, hm, x, hx.1, by simpa using hx.2, h⟩
  · rintro ⟨m, hm, x, hx, he, h⟩
    exact ⟨m, hm, List.mem_filterMap.2 ⟨x, List.mem_filter.2 ⟨hx, by simpa using he⟩, h⟩⟩

theorem withP_len (L : List En) (p : Int) : (withP L p).length ≤ L.length := List.length_filter_le _ _
theorem askTo_len (L : List En) (D : List ByteArray) (s : ByteArray) (k n : Int) (M : List (Int × Int)) : (askTo L D s k n M).length ≤ M.length * L.length := by
  induction M with
  | nil => exact Nat.zero_le _
  | cons m M ih =>
    have h1 : (askM L D s k n m).length ≤ L.length := Nat.le_trans (List.length_filterMap_le _ _) (withP_len L m.1)
    have e : askTo L D s k n (m :: M) = askM L D s k n m ++ askTo L D s k n M := by rw [askTo, List.flatMap_cons]; rfl
    rw [e, List.length_append, List.length_cons, Nat.succ_mul]
    omega
theorem fm_yes {f : En → Option Fd} {E : List En} {j : Nat} {y : Fd} (hj : j < E.length) (h : f E[j] = some y) : (E.take (j + 1)).filterMap f = (E.take j).filterMap f ++ [y] := by
  rw [List.take_succ_eq_append_getElem hj, List.filterMap_append, List.filterMap_cons, h]; rfl
theorem fm_no {f : En → Option Fd} {E : List En} {j : Nat} (hj : j < E.length) (h : f E[j] = none) : (E.take (j + 1)).filterMap f = (E.take j).filterMap f := by
  rw [List.take_succ_eq_append_getElem hj, List.filterMap_append, List.filterMap_cons, h]; simp
open Classical in
/-- AskShelf. -/
noncomputable def ask8 (L : List En) (D : List ByteArray) (s : ByteArray) (k w n : Int) : List Fd := if shOk L ∧ 1 ≤ k ∧ 1 ≤ w ∧ 1 ≤ n then askR L D s k w n else []
theorem ask8_ok {L : List En} {D : List ByteArray} {s : ByteArray} {k w n : Int} (h : shOk L ∧ 1 ≤ k ∧ 1 ≤ w ∧ 1 ≤ n) : ask8 L D s k w n = askR L D s k w n := by rw [ask8, if_pos h]
theorem ask8_not {L : List En} {D : List ByteArray} {s : ByteArray} {k w n : Int} (h : ¬ (shOk L ∧ 1 ≤ k ∧ 1 ≤ w ∧ 1 ≤ n)) : ask8 L D s k w n = [] := by rw [ask8, if_neg h]

/-- Rows of what is found, text by text. -/
def byDocs (F : Nat → List En) (m : Nat) : List Fd := (List.range m).flatMap fun i => (F i).map fun p => ((i : Int), p)
theorem byDocs_next (F : Nat → List En) (m : Nat) : byDocs F (m + 1) = byDocs F m ++ (F m).map fun p => ((m : Int), p) := by
  rw [byDocs, List.range_succ, List.flatMap_append]; simp [byDocs]
theorem byDocs_mem {F : Nat → List En} {m : Nat} {f : Fd} : f ∈ byDocs F m ↔ ∃ i, i < m ∧ f.1 = i ∧ f.2 ∈ F i := by
  rw [byDocs, List.mem_flatMap]
  constructor
  · rintro ⟨i, hi, h⟩
    obtain ⟨p, hp, rfl⟩ := List.mem_map.1 h
    exact ⟨i, List.mem_range.1 hi, rfl, hp⟩
  · rintro ⟨i, hi, h1, h2⟩
    exact ⟨i, List.mem_range.2 hi, List.mem_map.2 ⟨f.2, h2, by rw [← h1]⟩⟩
theorem byDocs_up {F : Nat → List En} (h : ∀ i, (F i).Pairwise enLt) (m : Nat) : (byDocs F m).Pairwise fdLt := by
  induction m with
  | zero => exact .nil
  | succ m ih =>
    rw [byDocs_next, List.pairwise_append]
    refine ⟨ih, ?_, ?_⟩
    · rw [List.pairwise_map]
      exact List.Pairwise.imp (fun hab => .inr ⟨rfl, hab⟩) (h m)
    · intro x hx y hy
      obtain ⟨i, hi, h1, _⟩ := byDocs_mem.1 hx
      obtain ⟨p, _, rfl⟩ := List.mem_map.1 hy
      exact .inl (by simp only; omega)
theorem byDocs_same {F G : Nat → List En} {m : Nat} (h : ∀ i, i < m → F i = G i) : byDocs F m = byDocs G m := by
  induction m with
  | zero => rfl
  | succ m ih => rw [byDocs_next, byDocs_next, ih (fun i hi => h i (by omega)), h m (by omega)]
/-- AskAll. -/
def askAllL (D : List ByteArray) (s : ByteArray) (n : Int) : List Fd := byDocs (fun i => piecesT (docAt D i) s n) D.length
/-- By the shelf of all texts there is found what their marks find one by one. -/
theorem ask_found (D : List ByteArray) (s : ByteArray) {k w : Int} {N : Nat} (hN : 1 ≤ N) : askR (allN D k w D.length) D s k w N = byDocs (fun i => foundL (docAt D i) s k w N) D.length := by
  refine (pairwise_unique fdLt_irrefl (fun _ _ => fdLt_asymm) (byDocs_up (fun i => foundL_up _ _ _ _ _) _) (rowF_is _).up fun f => ?_).symm
  rw [rowF_mem, askTo_mem, byDocs_mem]
  constructor
  · rintro ⟨i, hi, h1, h2⟩
    obtain ⟨a, ha, b, hb, he, h3⟩ := (foundL_mem hN).1 h2
    obtain ⟨p, K, rfl, _, rfl, hp, _⟩ := mkL_in ha
    refine ⟨b, hb, (((prN (pieceL (docAt D i).data.toList K p) : Nat) : Int), (i : Int), (p : Int)), allN_mem.2 ⟨i, hi, rfl, ha⟩, he, ?_⟩
    rw [askE_some]
    refine ⟨by simp only; omega, ?_, h1, ?_⟩
    · simp only [Int.toNat_natCast]; omega
    · simp only [Int.toNat_natCast] at h3 ⊢
      exact h3
  · rintro ⟨m, hm, x, hx, he, h⟩
    obtain ⟨i, hi, h1, h2⟩ := allN_mem.1 hx
    obtain ⟨_, _, h5, h6⟩ := askE_some.1 h
    rw [h1, Int.toNat_natCast] at h6
    exact ⟨i, hi, by rw [h5, h1], (foundL_mem hN).2 ⟨_, h2, m, hm, he, h6⟩⟩
/-- If as many bytes are asked for as are sure it is all that there is. -/
theorem ask_all (D : List ByteArray) (s : ByteArray) {K W N : Nat} (hk : 1 ≤ K) (hw : 1 ≤ W) (hn : K + W - 1 ≤ N) : askR (allN D K W D.length) D s K W N = askAllL D s N := by
  rw [ask_found D s (by omega), askAllL]
  exact byDocs_same fun i _ => foundL_all hk hw hn
/-- A shelf with wrong entries tells nothing that is not so. -/
theorem ask_other {L : List En} (hL : ∀ x ∈ L, enOk x) {D : List ByteArray} {s : ByteArray} {k w : Int} {N : Nat} (hk : 1 ≤ k) (hN : 1 ≤ N) {f : Fd} (h : f ∈ askR L D s k w N) : f ∈ askAllL D s N := by
  rw [askR, rowF_mem, askTo_mem] at h
  obtain ⟨m, _, x, hx, _, h⟩ := h
  obtain ⟨h1, _, h2, h3⟩ := askE_some.1 h
  have h4 := hL x hx
  unfold enOk at h4
  rw [askAllL, byDocs_mem]
  exact ⟨x.2.1.toNat, by omega, by omega, around_piece hk hN h3⟩

end Go.Proofs.Ytbnagmjhdnnheaa
