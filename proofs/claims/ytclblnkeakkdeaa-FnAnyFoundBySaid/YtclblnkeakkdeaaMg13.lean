/-
  The contract of the model's function GrowPiece. Condition: texts have at most 2^22 bytes.
-/
import Derived.Test.YtclblnkeakkdeaaMg11
namespace Go.Proofs.Ytclblnkeakkdeaa
open Go.RowKit

theorem own_nil7 (b : Nat) : (Value.slice none 0 0).ownBlock ≠ some b := by simp [Value.ownBlock]
theorem below_set7 {B : Nat} {a w : World} (h : Below B a w) {b : Nat} (hb : B ≤ b) (j : Nat) (v : Value) : Below B a (w.setCell ⟨b, j, none⟩ v) := h.setCell (p := ⟨b, j, none⟩) hb v
theorem growT_triple {s t : ByteArray} {i j x y z : Int} {b : Bool} (h : growT s t i j = ((x, y, z), b)) : (∃ I J : Nat, i = I ∧ j = J ∧ sm s t I J ∧ b = true ∧ x = ((I - backP s t I J : Nat) : Int) ∧ y = ((J - backP s t I J : Nat) : Int) ∧ z = ((runP s t (I - backP s t I J) (J - backP s t I J) : Nat) : Int)) ∨ (¬ (0 ≤ i ∧ 0 ≤ j ∧ sm s t i.toNat j.toNat) ∧ b = false ∧ x = 0 ∧ y = 0 ∧ z = 0) := by
  by_cases hc : 0 ≤ i ∧ 0 ≤ j ∧ sm s t i.toNat j.toNat
  · left
    refine ⟨i.toNat, j.toNat, by omega, by omega, hc.2.2, ?_⟩
    rw [growT, if_pos hc, growN] at h
    simp only [Prod.mk.injEq] at h
    obtain ⟨⟨h1, h2, h3⟩, h4⟩ := h
    exact ⟨h4.symm, h1.symm, h2.symm, h3.symm⟩
  · right
    rw [growT_no hc] at h
    simp only [Prod.mk.injEq] at h
    obtain ⟨⟨h1, h2, h3⟩, h4⟩ := h
    exact ⟨hc, h4.symm, h1.symm, h2.symm, h3.symm⟩
theorem not_sm {s t : ByteArray} {i j : Nat} (h : ¬ sm s t i j) (hi : i < s.size) (hj : j < t.size) : ((s[i].toNat : Int) == (t[j].toNat : Int)) = false ∧ ((s[i].toNat : Int) != (t[j].toNat : Int)) = true := by
  have e : ¬ (s[i].toNat : Int) = (t[j].toNat : Int) := fun e => h ⟨hi, hj, by rw [bt_at hi, bt_at hj]; omega⟩
  have e2 : ((s[i].toNat : Int) == (t[j].toNat : Int)) = false := beq_eq_false_iff_ne.2 e
  exact ⟨e2, by rw [bne, e2]; rfl⟩
theorem is_sm {s t : ByteArray} {i j : Nat} (h : sm s t i j) (hi : i < s.size) (hj : j < t.size) : (s[i].toNat : Int) = (t[j].toNat : Int) ∧ ((s[i].toNat : Int) == (t[j].toNat : Int)) = true ∧ ((s[i].toNat : Int) != (t[j].toNat : Int)) = false := by
  have h3 := h.2.2
  rw [bt_at hi, bt_at hj] at h3
  have e : (s[i].toNat : Int) = (t[j].toNat : Int) := by omega
  have e2 : ((s[i].toNat : Int) == (t[j].toNat : Int)) = true := by rw [e]; exact beq_self_eq_true _
  exact ⟨e, e2, by rw [bne, e2]; rfl⟩

set_option maxRecDepth 4000 in
set_option maxHeartbeats 16000000 in
theorem specGrow_any (s t : ByteArray) (i j x y z : Int) (b : Bool) (w : World) (h : growT s t i j = ((x, y, z), b)) (hs : s.size ≤ 4194304) (ht : t.size ≤ 4194304) :
    Calls Try.prog 82 #[.string s, .string t, .int .i64 i, .int .i64 j] w fun e w' => e = .returned (.tuple #[.agg #[.int .i64 x, .int .i64 y, .int .i64 z], .bool b]) ∧ Below w.heap.size w w' := by
  rcases growT_triple h with ⟨I, J, rfl, rfl, hsm, rfl, hx, hy, hz⟩ | ⟨hno, rfl, rfl, rfl, rfl⟩
  · have HX := Lib.hid hx
    have HY := Lib.hid hy
    have HZ := Lib.hid hz
    clear h hx hy hz
    have hI := hsm.1
    have hJ := hsm.2.1
    obtain ⟨_, tb, tb2⟩ := is_sm hsm hI hJ
    have z2 : (I : Int) < (s.size : Int) := by omega
    have z3 : (J : Int) < (t.size : Int) := by omega
    have z4 : (0 : Int) ≤ (I : Int) := by omega
    have z5 : (0 : Int) ≤ (J : Int) := by omega
    have d0 : decide ((I : Int) < 0) = false := decide_eq_false (by omega)
    have d1 : decide ((J : Int) < 0) = false := decide_eq_false (by omega)
    have d2 : decide (s.size ≤ I) = false := decide_eq_false (by omega)
    have d3 : decide (t.size ≤ J) = false := decide_eq_false (by omega)
    have d4 : decide ((s.size : Int) ≤ (I : Int)) = false := decide_eq_false (by omega)
    have d5 : decide ((t.size : Int) ≤ (J : Int)) = false := decide_eq_false (by omega)
    clear hsm
    go_enter Try.func82, Try.ntmps82
    go_wp2
    go_quiet (fail)
    go_wp2
    have hs8 : Side (((w.alloc (.cells #[.int .i64 0, .int .i64 0, .int .i64 0] 61)).drewN nq).alloc (.cells #[.int .i64 (I : Int), .int .i64 (J : Int), .int .i64 0] 61)) w.heap.size (.slice none 0 0) 61 w.heap.size [.int .i64 0, .int .i64 0, .int .i64 0] :=
      ((Side.fresh (w := w) (B := w.heap.size) (v := .slice none 0 0) 61 [.int .i64 0, .int .i64 0, .int .i64 0] (Nat.le_refl _) (by intro k hk; simp [Value.ownBlock] at hk)).drewN nq).later ((Below.refl _ _).alloc (Nat.le_refl _) _)
    have hs10 : Side (((w.alloc (.cells #[.int .i64 0, .int .i64 0, .int .i64 0] 61)).drewN nq).alloc (.cells #[.int .i64 (I : Int), .int .i64 (J : Int), .int .i64 0] 61)) w.heap.size (.slice none 0 0) 61 (w.heap.size + 1) [.int .i64 (I : Int), .int .i64 (J : Int), .int .i64 0] := by
      have h1 := Side.fresh (w := (w.alloc (.cells #[.int .i64 0, .int .i64 0, .int .i64 0] 61)).drewN nq) (B := w.heap.size) (v := .slice none 0 0) 61 [.int .i64 (I : Int), .int .i64 (J : Int), .int .i64 0] (by show w.heap.size ≤ (w.alloc (.cells #[.int .i64 0, .int .i64 0, .int .i64 0] 61)).heap.size; simp) (by intro k hk; simp [Value.ownBlock] at hk)
      rw [show ((w.alloc (.cells #[.int .i64 0, .int .i64 0, .int .i64 0] 61)).drewN nq).heap.size = w.heap.size + 1 from by show (w.alloc (.cells #[.int .i64 0, .int .i64 0, .int .i64 0] 61)).heap.size = _; simp] at h1
      exact h1
    have hb0 : Below w.heap.size w (((w.alloc (.cells #[.int .i64 0, .int .i64 0, .int .i64 0] 61)).drewN nq).alloc (.cells #[.int .i64 (I : Int), .int .i64 (J : Int), .int .i64 0] 61)) := (below_drewN' ((Below.refl _ _).alloc (Nat.le_refl _) _) nq).alloc (by show w.heap.size ≤ (w.alloc (.cells #[.int .i64 0, .int .i64 0, .int .i64 0] 61)).heap.size; simp) _
    obtain ⟨w1, hw1⟩ : ∃ w1, ((w.alloc (.cells #[.int .i64 0, .int .i64 0, .int .i64 0] 61)).drewN nq).alloc (.cells #[.int .i64 (I : Int), .int .i64 (J : Int), .int .i64 0] 61) = w1 := ⟨_, rfl⟩
    obtain ⟨g, hg⟩ : ∃ g, w.heap.size + 1 = g := ⟨_, rfl⟩
    obtain ⟨h8, hh8⟩ : ∃ g, w.heap.size = g := ⟨_, rfl⟩
    have HB8 := Lib.hid hh8
    have hgne : h8 ≠ g := by omega
    rw [hw1] at hs8 hs10 hb0
    rw [hg] at hs10
    have hs8 : Side w1 w.heap.size (.slice none 0 0) 61 h8 [.int .i64 0, .int .i64 0, .int .i64 0] := by rw [← hh8]; exact hs8
    rw [hw1, hg, hh8]
    clear hw1 hg hh8 tb tb2 d0 d1 d2 d3 d4 d5
    go_loopw [] (fun wr => ∃ k P Q : Nat, k ≤ backP s t I J ∧ P + k = I ∧ Q + k = J ∧ Hid (Side wr w.heap.size (.slice none 0 0) 61 g [.int .i64 (P : Int), .int .i64 (Q : Int), .int .i64 0]) ∧ Hid (Side wr w.heap.size (.slice none 0 0) 61 h8 [.int .i64 0, .int .i64 0, .int .i64 0]) ∧ Below w.heap.size w wr) (fun wr => cellN wr g 0)
    case atStart => exact ⟨0, I, J, Nat.zero_le _, rfl, rfl, Lib.hid hs10, Lib.hid hs8, hb0⟩
    case round =>
      clear hs8 hs10 hb0
      obtain ⟨k, P, Q, hk, hP, hQ, HG, H8, B⟩ := hrel
      have hP9 : P ≤ 4194304 := by omega
      have hQ9 : Q ≤ 4194304 := by omega
      have htest := back_test hk
      rw [show I - k = P by omega, show J - k = Q by omega] at htest
      have HPI := Lib.hid hP
      have HQJ := Lib.hid hQ
      by_cases hlt : k < backP s t I J
      · obtain ⟨h1, h2, h3⟩ := htest.2 hlt
        obtain ⟨p, rfl⟩ : ∃ p, P = p + 1 := ⟨P - 1, by omega⟩
        obtain ⟨q, rfl⟩ : ∃ p, Q = p + 1 := ⟨Q - 1, by omega⟩
        rw [Nat.add_sub_cancel, Nat.add_sub_cancel] at h3
        have hp := h3.1
        have hq := h3.2.1
        obtain ⟨_, tb, _⟩ := is_sm h3 hp hq
        have c1 : wr.cell? ⟨g, 0, none⟩ = some (.int .i64 ((p : Int) + 1)) := by have h := HG.out.cell 0 _ rfl; simpa using h
        have c2 : wr.cell? ⟨g, 1, none⟩ = some (.int .i64 ((q : Int) + 1)) := by have h := HG.out.cell 1 _ rfl; simpa using h
        have HSX := Lib.hid (show ∀ u, Side (((wr.drewN u).setCell ⟨g, 0, none⟩ (.int .i64 (p : Int))).setCell ⟨g, 1, none⟩ (.int .i64 (q : Int))) w.heap.size (.slice none 0 0) 61 g [.int .i64 (p : Int), .int .i64 (q : Int), .int .i64 0] from fun u => ((HG.out.drewN u).set_self 0 (.int .i64 (p : Int))).set_self 1 (.int .i64 (q : Int)))
        have HSY := Lib.hid (show ∀ u, Side (((wr.drewN u).setCell ⟨g, 0, none⟩ (.int .i64 (p : Int))).setCell ⟨g, 1, none⟩ (.int .i64 (q : Int))) w.heap.size (.slice none 0 0) 61 h8 [.int .i64 0, .int .i64 0, .int .i64 0] from fun u => ((H8.out.drewN u).set_other hgne 0 _).set_other hgne 1 _)
        have HGB := Lib.hid HG.out.base
        have r1 := HG.out.frozen 0
        have r2 := HG.out.frozen 1
        have e1 : IntKind.i64.wrap ((p : Int) + 1 - 1) = (p : Int) := by rw [IntWalk.i64_in _ (by omega)]; omega
        have e2 : IntKind.i64.wrap ((q : Int) + 1 - 1) = (q : Int) := by rw [IntWalk.i64_in _ (by omega)]; omega
        have e3 : (p : Int) + 1 - 1 = (p : Int) := by omega
        have e4 : (q : Int) + 1 - 1 = (q : Int) := by omega
        have e5 : IntKind.i64.wrap (p : Int) = (p : Int) := IntWalk.i64_in _ (by omega)
        have e6 : IntKind.i64.wrap (q : Int) = (q : Int) := IntWalk.i64_in _ (by omega)
        have y1 : (0 : Int) < (p : Int) + 1 := by omega
        have y2 : (0 : Int) < (q : Int) + 1 := by omega
        have y3 : (p : Int) < (s.size : Int) := by omega
        have y4 : (q : Int) < (t.size : Int) := by omega
        have y5 : (0 : Int) ≤ (p : Int) := by omega
        have y6 : (0 : Int) ≤ (q : Int) := by omega
        have x1 : decide ((0 : Int) < (p : Int) + 1) = true := decide_eq_true y1
        have x2 : decide ((0 : Int) < (q : Int) + 1) = true := decide_eq_true y2
        have hme : cellN wr g 0 = p + 1 := by rw [cellN_is (HG.out.cell 0 _ rfl)]; omega
        have HME := Lib.hid hme
        clear h3 htest hP hQ h1 h2 hme
        go_wp2
        go_quiet (fail)
        go_wp2
        go_roundw
        case rel => exact ⟨k + 1, p, q, by omega, by have := HPI.out; omega, by have := HQJ.out; omega, Lib.hid (HSX.out _), Lib.hid (HSY.out _), (below_drewN' B _).setCell (p := ⟨g, 0, none⟩) HGB.out _ |>.setCell (p := ⟨g, 1, none⟩) HGB.out _⟩
        case measure => rw [HME.out, cellN_is ((HSX.out _).cell 0 _ rfl)]; omega
      · have hkb : k = backP s t I J := by omega
        have hno3 : ¬ (0 < P ∧ 0 < Q ∧ sm s t (P - 1) (Q - 1)) := fun e => hlt (htest.1 e)
        have HX2 := Lib.hid (show x = (P : Int) by rw [HX.out]; omega)
        have HY2 := Lib.hid (show y = (Q : Int) by rw [HY.out]; omega)
        have HZ2 := Lib.hid (show z = ((runP s t P Q : Nat) : Int) by rw [HZ.out, show I - backP s t I J = P by omega, show J - backP s t I J = Q by omega])
        have hPs : P ≤ s.size := by omega
        have hQs : Q ≤ t.size := by omega
        clear htest hP hQ hlt hkb hk HX HY HZ HPI HQJ
        have c1 := HG.out.cell 0 _ rfl
        have c2 := HG.out.cell 1 _ rfl
        by_cases hp0 : P = 0
        · have x1 : decide (0 < P) = false := decide_eq_false (by omega)
          have y1 : ¬ (0 : Int) < (P : Int) := by omega
          clear hp0
          clear hno3
          have HGB := Lib.hid HG.out.base
          go_wp2
          go_quiet (fail)
          go_wp2
          obtain ⟨wo, rfl⟩ : ∃ wo, wo = wr := ⟨_, rfl⟩
          obtain ⟨wq, hwq⟩ : ∃ wq, wo.drewN nq = wq := ⟨_, rfl⟩
          have HG := Lib.hid (show Side wq w.heap.size (.slice none 0 0) 61 g [.int .i64 (P : Int), .int .i64 (Q : Int), .int .i64 0] from hwq ▸ HG.out.drewN _)
          have H8 := Lib.hid (show Side wq w.heap.size (.slice none 0 0) 61 h8 [.int .i64 0, .int .i64 0, .int .i64 0] from hwq ▸ H8.out.drewN _)
          have B : Below w.heap.size w wq := hwq ▸ below_drewN' B _
          rw [hwq]
          clear hwq c1 c2
          go_loopw [] (fun wr => ∃ L : Nat, L ≤ runP s t P Q ∧ Hid (Side wr w.heap.size (.slice none 0 0) 61 g [.int .i64 (P : Int), .int .i64 (Q : Int), .int .i64 (L : Int)]) ∧ Hid (Side wr w.heap.size (.slice none 0 0) 61 h8 [.int .i64 0, .int .i64 0, .int .i64 0]) ∧ Below w.heap.size w wr) (fun wr => s.size - cellN wr g 2)
          case atStart => exact ⟨0, Nat.zero_le _, HG, H8, B⟩
          case round =>
            obtain ⟨L, hL, HG, H8, B⟩ := hrel
            have hroom := runP_room s t P Q hPs hQs
            have hL9 : L ≤ 4194304 := by omega
            have htest := run_test hL
            obtain ⟨m, hm⟩ : ∃ m, P + L = m := ⟨_, rfl⟩
            obtain ⟨n, hn⟩ : ∃ m, Q + L = m := ⟨_, rfl⟩
            rw [hm, hn] at htest
            have f1 : (P : Int) + (L : Int) = (m : Int) := by omega
            have f2 : (Q : Int) + (L : Int) = (n : Int) := by omega
            have hm9 : m ≤ 4194304 := by omega
            have hn9 : n ≤ 4194304 := by omega
            have f3 : IntKind.i64.wrap (m : Int) = (m : Int) := IntWalk.i64_in _ (by omega)
            have f4 : IntKind.i64.wrap (n : Int) = (n : Int) := IntWalk.i64_in _ (by omega)
            have c1 := HG.out.cell 0 _ rfl
            have c2 := HG.out.cell 1 _ rfl
            have c3 := HG.out.cell 2 _ rfl
            have y5 : (0 : Int) ≤ (m : Int) := by omega
            have y6 : (0 : Int) ≤ (n : Int) := by omega
            have HMM := Lib.hid hm
            by_cases hlt : L < runP s t P Q
            · have h3 := htest.2 hlt
              have hp := h3.1
              have hq := h3.2.1
              obtain ⟨_, tb, _⟩ := is_sm h3 hp hq
              have HSX := Lib.hid (show ∀ u, Side ((wr.drewN u).setCell ⟨g, 2, none⟩ (.int .i64 ((L : Int) + 1))) w.heap.size (.slice none 0 0) 61 g [.int .i64 (P : Int), .int .i64 (Q : Int), .int .i64 ((L : Int) + 1)] from fun u => (HG.out.drewN u).set_self 2 (.int .i64 ((L : Int) + 1)))
              have HSY := Lib.hid (show ∀ u, Side ((wr.drewN u).setCell ⟨g, 2, none⟩ (.int .i64 ((L : Int) + 1))) w.heap.size (.slice none 0 0) 61 h8 [.int .i64 0, .int .i64 0, .int .i64 0] from fun u => (H8.out.drewN u).set_other hgne 2 _)
              have r3 := HG.out.frozen 2
              have y3 : (m : Int) < (s.size : Int) := by omega
              have y4 : (n : Int) < (t.size : Int) := by omega
              have x1 : decide (m < s.size) = true := decide_eq_true hp
              have x2 : decide (n < t.size) = true := decide_eq_true hq
              have x3 : decide ((m : Int) < (s.size : Int)) = true := decide_eq_true y3
              have x4 : decide ((n : Int) < (t.size : Int)) = true := decide_eq_true y4
              have hme : cellN wr g 2 = L := by rw [cellN_is c3]; omega
              have HME := Lib.hid hme
              have HLS := Lib.hid (show L < s.size by omega)
              clear h3 htest hm hn hroom hme
              go_wp2
              go_quiet (fail)
              go_wp2
              go_roundw
              case rel => exact ⟨L + 1, by omega, Lib.hid (by rw [show ((L + 1 : Nat) : Int) = (L : Int) + 1 from by omega]; exact HSX.out _), Lib.hid (HSY.out _), (below_drewN' B _).setCell (p := ⟨g, 2, none⟩) HGB.out _⟩
              case measure => rw [HME.out, cellN_is ((HSX.out _).cell 2 _ rfl)]; have := HLS.out; omega
            · have HZ3 := Lib.hid (show z = (L : Int) by rw [HZ2.out]; omega)
              have hno4 : ¬ sm s t m n := fun e => hlt (htest.1 e)
              clear htest
              by_cases hm2 : m < s.size
              · have x3 : decide (m < s.size) = true := decide_eq_true hm2
                have y3 : (m : Int) < (s.size : Int) := by omega
                by_cases hn2 : n < t.size
                · obtain ⟨tb, _⟩ := not_sm hno4 hm2 hn2
                  have x4 : decide (n < t.size) = true := decide_eq_true hn2
                  have y4 : (n : Int) < (t.size : Int) := by omega
                  clear hno4
                  have HSX := Lib.hid (show ∀ u, Side ((((wr.drewN u).setCell ⟨h8, 0, none⟩ (.int .i64 (P : Int))).setCell ⟨h8, 1, none⟩ (.int .i64 (Q : Int))).setCell ⟨h8, 2, none⟩ (.int .i64 (L : Int))) w.heap.size (.slice none 0 0) 61 h8 [.int .i64 (P : Int), .int .i64 (Q : Int), .int .i64 (L : Int)] from fun u => (((H8.out.drewN u).set_self 0 _).set_self 1 _).set_self 2 _)
                  have HHB := Lib.hid H8.out.base
                  have k1 := H8.out.cell 0 _ rfl
                  have k2 := H8.out.cell 1 _ rfl
                  have k3 := H8.out.cell 2 _ rfl
                  have r1 := H8.out.frozen 0
                  have r2 := H8.out.frozen 1
                  have r3 := H8.out.frozen 2
                  clear hm hn hroom hlt
                  go_wp2
                  go_quiet (fail)
                  go_wp2
                  have q1 := fun u => (HSX.out u).cell 0 _ rfl
                  have q2 := fun u => (HSX.out u).cell 1 _ rfl
                  have q3 := fun u => (HSX.out u).cell 2 _ rfl
                  refine bodyPost_ret (v := .tuple #[.agg #[.int .i64 (P : Int), .int .i64 (Q : Int), .int .i64 (L : Int)], .bool true]) (by simp [results, Try.results82, go_sem, q1, q2, q3]) rfl ⟨by rw [HX2.out, HY2.out, HZ3.out], ?_⟩
                  exact below_set7 (below_set7 (below_set7 (below_drewN' B _) HHB.out _ _) HHB.out _ _) HHB.out _ _
                · have x4 : decide (n < t.size) = false := decide_eq_false hn2
                  have y4 : ¬ (n : Int) < (t.size : Int) := by omega
                  clear hno4
                  have HSX := Lib.hid (show ∀ u, Side ((((wr.drewN u).setCell ⟨h8, 0, none⟩ (.int .i64 (P : Int))).setCell ⟨h8, 1, none⟩ (.int .i64 (Q : Int))).setCell ⟨h8, 2, none⟩ (.int .i64 (L : Int))) w.heap.size (.slice none 0 0) 61 h8 [.int .i64 (P : Int), .int .i64 (Q : Int), .int .i64 (L : Int)] from fun u => (((H8.out.drewN u).set_self 0 _).set_self 1 _).set_self 2 _)
                  have HHB := Lib.hid H8.out.base
                  have k1 := H8.out.cell 0 _ rfl
                  have k2 := H8.out.cell 1 _ rfl
                  have k3 := H8.out.cell 2 _ rfl
                  have r1 := H8.out.frozen 0
                  have r2 := H8.out.frozen 1
                  have r3 := H8.out.frozen 2
                  clear hm hn hroom hlt
                  go_wp2
                  go_quiet (fail)
                  go_wp2
                  have q1 := fun u => (HSX.out u).cell 0 _ rfl
                  have q2 := fun u => (HSX.out u).cell 1 _ rfl
                  have q3 := fun u => (HSX.out u).cell 2 _ rfl
                  refine bodyPost_ret (v := .tuple #[.agg #[.int .i64 (P : Int), .int .i64 (Q : Int), .int .i64 (L : Int)], .bool true]) (by simp [results, Try.results82, go_sem, q1, q2, q3]) rfl ⟨by rw [HX2.out, HY2.out, HZ3.out], ?_⟩
                  exact below_set7 (below_set7 (below_set7 (below_drewN' B _) HHB.out _ _) HHB.out _ _) HHB.out _ _
              · have x3 : decide (m < s.size) = false := decide_eq_false hm2
                have y3 : ¬ (m : Int) < (s.size : Int) := by omega
                clear hno4
                have HSX := Lib.hid (show ∀ u, Side ((((wr.drewN u).setCell ⟨h8, 0, none⟩ (.int .i64 (P : Int))).setCell ⟨h8, 1, none⟩ (.int .i64 (Q : Int))).setCell ⟨h8, 2, none⟩ (.int .i64 (L : Int))) w.heap.size (.slice none 0 0) 61 h8 [.int .i64 (P : Int), .int .i64 (Q : Int), .int .i64 (L : Int)] from fun u => (((H8.out.drewN u).set_self 0 _).set_self 1 _).set_self 2 _)
                have HHB := Lib.hid H8.out.base
                have k1 := H8.out.cell 0 _ rfl
                have k2 := H8.out.cell 1 _ rfl
                have k3 := H8.out.cell 2 _ rfl
                have r1 := H8.out.frozen 0
                have r2 := H8.out.frozen 1
                have r3 := H8.out.frozen 2
                clear hm hn hroom hlt
                go_wp2
                go_quiet (fail)
                go_wp2
                have q1 := fun u => (HSX.out u).cell 0 _ rfl
                have q2 := fun u => (HSX.out u).cell 1 _ rfl
                have q3 := fun u => (HSX.out u).cell 2 _ rfl
                refine bodyPost_ret (v := .tuple #[.agg #[.int .i64 (P : Int), .int .i64 (Q : Int), .int .i64 (L : Int)], .bool true]) (by simp [results, Try.results82, go_sem, q1, q2, q3]) rfl ⟨by rw [HX2.out, HY2.out, HZ3.out], ?_⟩
                exact below_set7 (below_set7 (below_set7 (below_drewN' B _) HHB.out _ _) HHB.out _ _) HHB.out _ _
        · have x1 : decide (0 < P) = true := decide_eq_true (by omega)
          have y1 : (0 : Int) < (P : Int) := by omega
          by_cases hq0 : Q = 0
          · have x2 : decide (0 < Q) = false := decide_eq_false (by omega)
            have y2 : ¬ (0 : Int) < (Q : Int) := by omega
            clear hq0 hp0
            clear hno3
            have HGB := Lib.hid HG.out.base
            go_wp2
            go_quiet (fail)
            go_wp2
            obtain ⟨wo, rfl⟩ : ∃ wo, wo = wr := ⟨_, rfl⟩
            obtain ⟨wq, hwq⟩ : ∃ wq, wo.drewN nq = wq := ⟨_, rfl⟩
            have HG := Lib.hid (show Side wq w.heap.size (.slice none 0 0) 61 g [.int .i64 (P : Int), .int .i64 (Q : Int), .int .i64 0] from hwq ▸ HG.out.drewN _)
            have H8 := Lib.hid (show Side wq w.heap.size (.slice none 0 0) 61 h8 [.int .i64 0, .int .i64 0, .int .i64 0] from hwq ▸ H8.out.drewN _)
            have B : Below w.heap.size w wq := hwq ▸ below_drewN' B _
            rw [hwq]
            clear hwq c1 c2
            go_loopw [] (fun wr => ∃ L : Nat, L ≤ runP s t P Q ∧ Hid (Side wr w.heap.size (.slice none 0 0) 61 g [.int .i64 (P : Int), .int .i64 (Q : Int), .int .i64 (L : Int)]) ∧ Hid (Side wr w.heap.size (.slice none 0 0) 61 h8 [.int .i64 0, .int .i64 0, .int .i64 0]) ∧ Below w.heap.size w wr) (fun wr => s.size - cellN wr g 2)
            case atStart => exact ⟨0, Nat.zero_le _, HG, H8, B⟩
            case round =>
              obtain ⟨L, hL, HG, H8, B⟩ := hrel
              have hroom := runP_room s t P Q hPs hQs
              have hL9 : L ≤ 4194304 := by omega
              have htest := run_test hL
              obtain ⟨m, hm⟩ : ∃ m, P + L = m := ⟨_, rfl⟩
              obtain ⟨n, hn⟩ : ∃ m, Q + L = m := ⟨_, rfl⟩
              rw [hm, hn] at htest
              have f1 : (P : Int) + (L : Int) = (m : Int) := by omega
              have f2 : (Q : Int) + (L : Int) = (n : Int) := by omega
              have hm9 : m ≤ 4194304 := by omega
              have hn9 : n ≤ 4194304 := by omega
              have f3 : IntKind.i64.wrap (m : Int) = (m : Int) := IntWalk.i64_in _ (by omega)
              have f4 : IntKind.i64.wrap (n : Int) = (n : Int) := IntWalk.i64_in _ (by omega)
              have c1 := HG.out.cell 0 _ rfl
              have c2 := HG.out.cell 1 _ rfl
              have c3 := HG.out.cell 2 _ rfl
              have y5 : (0 : Int) ≤ (m : Int) := by omega
              have y6 : (0 : Int) ≤ (n : Int) := by omega
              have HMM := Lib.hid hm
              by_cases hlt : L < runP s t P Q
              · have h3 := htest.2 hlt
                have hp := h3.1
                have hq := h3.2.1
                obtain ⟨_, tb, _⟩ := is_sm h3 hp hq
                have HSX := Lib.hid (show ∀ u, Side ((wr.drewN u).setCell ⟨g, 2, none⟩ (.int .i64 ((L : Int) + 1))) w.heap.size (.slice none 0 0) 61 g [.int .i64 (P : Int), .int .i64 (Q : Int), .int .i64 ((L : Int) + 1)] from fun u => (HG.out.drewN u).set_self 2 (.int .i64 ((L : Int) + 1)))
                have HSY := Lib.hid (show ∀ u, Side ((wr.drewN u).setCell ⟨g, 2, none⟩ (.int .i64 ((L : Int) + 1))) w.heap.size (.slice none 0 0) 61 h8 [.int .i64 0, .int .i64 0, .int .i64 0] from fun u => (H8.out.drewN u).set_other hgne 2 _)
                have r3 := HG.out.frozen 2
                have y3 : (m : Int) < (s.size : Int) := by omega
                have y4 : (n : Int) < (t.size : Int) := by omega
                have x1 : decide (m < s.size) = true := decide_eq_true hp
                have x2 : decide (n < t.size) = true := decide_eq_true hq
                have x3 : decide ((m : Int) < (s.size : Int)) = true := decide_eq_true y3
                have x4 : decide ((n : Int) < (t.size : Int)) = true := decide_eq_true y4
                have hme : cellN wr g 2 = L := by rw [cellN_is c3]; omega
                have HME := Lib.hid hme
                have HLS := Lib.hid (show L < s.size by omega)
                clear h3 htest hm hn hroom hme
                go_wp2
                go_quiet (fail)
                go_wp2
                go_roundw
                case rel => exact ⟨L + 1, by omega, Lib.hid (by rw [show ((L + 1 : Nat) : Int) = (L : Int) + 1 from by omega]; exact HSX.out _), Lib.hid (HSY.out _), (below_drewN' B _).setCell (p := ⟨g, 2, none⟩) HGB.out _⟩
                case measure => rw [HME.out, cellN_is ((HSX.out _).cell 2 _ rfl)]; have := HLS.out; omega
              · have HZ3 := Lib.hid (show z = (L : Int) by rw [HZ2.out]; omega)
                have hno4 : ¬ sm s t m n := fun e => hlt (htest.1 e)
                clear htest
                by_cases hm2 : m < s.size
                · have x3 : decide (m < s.size) = true := decide_eq_true hm2
                  have y3 : (m : Int) < (s.size : Int) := by omega
                  by_cases hn2 : n < t.size
                  · obtain ⟨tb, _⟩ := not_sm hno4 hm2 hn2
                    have x4 : decide (n < t.size) = true := decide_eq_true hn2
                    have y4 : (n : Int) < (t.size : Int) := by omega
                    clear hno4
                    have HSX := Lib.hid (show ∀ u, Side ((((wr.drewN u).setCell ⟨h8, 0, none⟩ (.int .i64 (P : Int))).setCell ⟨h8, 1, none⟩ (.int .i64 (Q : Int))).setCell ⟨h8, 2, none⟩ (.int .i64 (L : Int))) w.heap.size (.slice none 0 0) 61 h8 [.int .i64 (P : Int), .int .i64 (Q : Int), .int .i64 (L : Int)] from fun u => (((H8.out.drewN u).set_self 0 _).set_self 1 _).set_self 2 _)
                    have HHB := Lib.hid H8.out.base
                    have k1 := H8.out.cell 0 _ rfl
                    have k2 := H8.out.cell 1 _ rfl
                    have k3 := H8.out.cell 2 _ rfl
                    have r1 := H8.out.frozen 0
                    have r2 := H8.out.frozen 1
                    have r3 := H8.out.frozen 2
                    clear hm hn hroom hlt
                    go_wp2
                    go_quiet (fail)
                    go_wp2
                    have q1 := fun u => (HSX.out u).cell 0 _ rfl
                    have q2 := fun u => (HSX.out u).cell 1 _ rfl
                    have q3 := fun u => (HSX.out u).cell 2 _ rfl
                    refine bodyPost_ret (v := .tuple #[.agg #[.int .i64 (P : Int), .int .i64 (Q : Int), .int .i64 (L : Int)], .bool true]) (by simp [results, Try.results82, go_sem, q1, q2, q3]) rfl ⟨by rw [HX2.out, HY2.out, HZ3.out], ?_⟩
                    exact below_set7 (below_set7 (below_set7 (below_drewN' B _) HHB.out _ _) HHB.out _ _) HHB.out _ _
                  · have x4 : decide (n < t.size) = false := decide_eq_false hn2
                    have y4 : ¬ (n : Int) < (t.size : Int) := by omega
                    clear hno4
                    have HSX := Lib.hid (show ∀ u, Side ((((wr.drewN u).setCell ⟨h8, 0, none⟩ (.int .i64 (P : Int))).setCell ⟨h8, 1, none⟩ (.int .i64 (Q : Int))).setCell ⟨h8, 2, none⟩ (.int .i64 (L : Int))) w.heap.size (.slice none 0 0) 61 h8 [.int .i64 (P : Int), .int .i64 (Q : Int), .int .i64 (L : Int)] from fun u => (((H8.out.drewN u).set_self 0 _).set_self 1 _).set_self 2 _)
                    have HHB := Lib.hid H8.out.base
                    have k1 := H8.out.cell 0 _ rfl
                    have k2 := H8.out.cell 1 _ rfl
                    have k3 := H8.out.cell 2 _ rfl
                    have r1 := H8.out.frozen 0
                    have r2 := H8.out.frozen 1
                    have r3 := H8.out.frozen 2
                    clear hm hn hroom hlt
                    go_wp2
                    go_quiet (fail)
                    go_wp2
                    have q1 := fun u => (HSX.out u).cell 0 _ rfl
                    have q2 := fun u => (HSX.out u).cell 1 _ rfl
                    have q3 := fun u => (HSX.out u).cell 2 _ rfl
                    refine bodyPost_ret (v := .tuple #[.agg #[.int .i64 (P : Int), .int .i64 (Q : Int), .int .i64 (L : Int)], .bool true]) (by simp [results, Try.results82, go_sem, q1, q2, q3]) rfl ⟨by rw [HX2.out, HY2.out, HZ3.out], ?_⟩
                    exact below_set7 (below_set7 (below_set7 (below_drewN' B _) HHB.out _ _) HHB.out _ _) HHB.out _ _
                · have x3 : decide (m < s.size) = false := decide_eq_false hm2
                  have y3 : ¬ (m : Int) < (s.size : Int) := by omega
                  clear hno4
                  have HSX := Lib.hid (show ∀ u, Side ((((wr.drewN u).setCell ⟨h8, 0, none⟩ (.int .i64 (P : Int))).setCell ⟨h8, 1, none⟩ (.int .i64 (Q : Int))).setCell ⟨h8, 2, none⟩ (.int .i64 (L : Int))) w.heap.size (.slice none 0 0) 61 h8 [.int .i64 (P : Int), .int .i64 (Q : Int), .int .i64 (L : Int)] from fun u => (((H8.out.drewN u).set_self 0 _).set_self 1 _).set_self 2 _)
                  have HHB := Lib.hid H8.out.base
                  have k1 := H8.out.cell 0 _ rfl
                  have k2 := H8.out.cell 1 _ rfl
                  have k3 := H8.out.cell 2 _ rfl
                  have r1 := H8.out.frozen 0
                  have r2 := H8.out.frozen 1
                  have r3 := H8.out.frozen 2
                  clear hm hn hroom hlt
                  go_wp2
                  go_quiet (fail)
                  go_wp2
                  have q1 := fun u => (HSX.out u).cell 0 _ rfl
                  have q2 := fun u => (HSX.out u).cell 1 _ rfl
                  have q3 := fun u => (HSX.out u).cell 2 _ rfl
                  refine bodyPost_ret (v := .tuple #[.agg #[.int .i64 (P : Int), .int .i64 (Q : Int), .int .i64 (L : Int)], .bool true]) (by simp [results, Try.results82, go_sem, q1, q2, q3]) rfl ⟨by rw [HX2.out, HY2.out, HZ3.out], ?_⟩
                  exact below_set7 (below_set7 (below_set7 (below_drewN' B _) HHB.out _ _) HHB.out _ _) HHB.out _ _
          · have x2 : decide (0 < Q) = true := decide_eq_true (by omega)
            have y2 : (0 : Int) < (Q : Int) := by omega
            obtain ⟨p, hp⟩ : ∃ p, P - 1 = p := ⟨_, rfl⟩
            obtain ⟨q, hq⟩ : ∃ p, Q - 1 = p := ⟨_, rfl⟩
            have hn5 : ¬ sm s t p q := fun e => hno3 ⟨by omega, by omega, by rw [hp, hq]; exact e⟩
            have hps : p < s.size := by omega
            have hqs : q < t.size := by omega
            obtain ⟨tb, _⟩ := not_sm hn5 hps hqs
            have e3 : (P : Int) - 1 = (p : Int) := by omega
            have e4 : (Q : Int) - 1 = (q : Int) := by omega
            have e5 : IntKind.i64.wrap (p : Int) = (p : Int) := IntWalk.i64_in _ (by omega)
            have e6 : IntKind.i64.wrap (q : Int) = (q : Int) := IntWalk.i64_in _ (by omega)
            have y3 : (p : Int) < (s.size : Int) := by omega
            have y4 : (q : Int) < (t.size : Int) := by omega
            have y5 : (0 : Int) ≤ (p : Int) := by omega
            have y6 : (0 : Int) ≤ (q : Int) := by omega
            clear hn5 hp hq hp0 hq0
            clear hno3
            have HGB := Lib.hid HG.out.base
            go_wp2
            go_quiet (fail)
            go_wp2
            obtain ⟨wo, rfl⟩ : ∃ wo, wo = wr := ⟨_, rfl⟩
            obtain ⟨wq, hwq⟩ : ∃ wq, wo.drewN nq = wq := ⟨_, rfl⟩
            have HG := Lib.hid (show Side wq w.heap.size (.slice none 0 0) 61 g [.int .i64 (P : Int), .int .i64 (Q : Int), .int .i64 0] from hwq ▸ HG.out.drewN _)
            have H8 := Lib.hid (show Side wq w.heap.size (.slice none 0 0) 61 h8 [.int .i64 0, .int .i64 0, .int .i64 0] from hwq ▸ H8.out.drewN _)
            have B : Below w.heap.size w wq := hwq ▸ below_drewN' B _
            rw [hwq]
            clear hwq c1 c2
            go_loopw [] (fun wr => ∃ L : Nat, L ≤ runP s t P Q ∧ Hid (Side wr w.heap.size (.slice none 0 0) 61 g [.int .i64 (P : Int), .int .i64 (Q : Int), .int .i64 (L : Int)]) ∧ Hid (Side wr w.heap.size (.slice none 0 0) 61 h8 [.int .i64 0, .int .i64 0, .int .i64 0]) ∧ Below w.heap.size w wr) (fun wr => s.size - cellN wr g 2)
            case atStart => exact ⟨0, Nat.zero_le _, HG, H8, B⟩
            case round =>
              obtain ⟨L, hL, HG, H8, B⟩ := hrel
              have hroom := runP_room s t P Q hPs hQs
              have hL9 : L ≤ 4194304 := by omega
              have htest := run_test hL
              obtain ⟨m, hm⟩ : ∃ m, P + L = m := ⟨_, rfl⟩
              obtain ⟨n, hn⟩ : ∃ m, Q + L = m := ⟨_, rfl⟩
              rw [hm, hn] at htest
              have f1 : (P : Int) + (L : Int) = (m : Int) := by omega
              have f2 : (Q : Int) + (L : Int) = (n : Int) := by omega
              have hm9 : m ≤ 4194304 := by omega
              have hn9 : n ≤ 4194304 := by omega
              have f3 : IntKind.i64.wrap (m : Int) = (m : Int) := IntWalk.i64_in _ (by omega)
              have f4 : IntKind.i64.wrap (n : Int) = (n : Int) := IntWalk.i64_in _ (by omega)
              have c1 := HG.out.cell 0 _ rfl
              have c2 := HG.out.cell 1 _ rfl
              have c3 := HG.out.cell 2 _ rfl
              have y5 : (0 : Int) ≤ (m : Int) := by omega
              have y6 : (0 : Int) ≤ (n : Int) := by omega
              have HMM := Lib.hid hm
              by_cases hlt : L < runP s t P Q
              · have h3 := htest.2 hlt
                have hp := h3.1
                have hq := h3.2.1
                obtain ⟨_, tb, _⟩ := is_sm h3 hp hq
                have HSX := Lib.hid (show ∀ u, Side ((wr.drewN u).setCell ⟨g, 2, none⟩ (.int .i64 ((L : Int) + 1))) w.heap.size (.slice none 0 0) 61 g [.int .i64 (P : Int), .int .i64 (Q : Int), .int .i64 ((L : Int) + 1)] from fun u => (HG.out.drewN u).set_self 2 (.int .i64 ((L : Int) + 1)))
                have HSY := Lib.hid (show ∀ u, Side ((wr.drewN u).setCell ⟨g, 2, none⟩ (.int .i64 ((L : Int) + 1))) w.heap.size (.slice none 0 0) 61 h8 [.int .i64 0, .int .i64 0, .int .i64 0] from fun u => (H8.out.drewN u).set_other hgne 2 _)
                have r3 := HG.out.frozen 2
                have y3 : (m : Int) < (s.size : Int) := by omega
                have y4 : (n : Int) < (t.size : Int) := by omega
                have x1 : decide (m < s.size) = true := decide_eq_true hp
                have x2 : decide (n < t.size) = true := decide_eq_true hq
                have x3 : decide ((m : Int) < (s.size : Int)) = true := decide_eq_true y3
                have x4 : decide ((n : Int) < (t.size : Int)) = true := decide_eq_true y4
                have hme : cellN wr g 2 = L := by rw [cellN_is c3]; omega
                have HME := Lib.hid hme
                have HLS := Lib.hid (show L < s.size by omega)
                clear h3 htest hm hn hroom hme
                go_wp2
                go_quiet (fail)
                go_wp2
                go_roundw
                case rel => exact ⟨L + 1, by omega, Lib.hid (by rw [show ((L + 1 : Nat) : Int) = (L : Int) + 1 from by omega]; exact HSX.out _), Lib.hid (HSY.out _), (below_drewN' B _).setCell (p := ⟨g, 2, none⟩) HGB.out _⟩
                case measure => rw [HME.out, cellN_is ((HSX.out _).cell 2 _ rfl)]; have := HLS.out; omega
              · have HZ3 := Lib.hid (show z = (L : Int) by rw [HZ2.out]; omega)
                have hno4 : ¬ sm s t m n := fun e => hlt (htest.1 e)
                clear htest
                by_cases hm2 : m < s.size
                · have x3 : decide (m < s.size) = true := decide_eq_true hm2
                  have y3 : (m : Int) < (s.size : Int) := by omega
                  by_cases hn2 : n < t.size
                  · obtain ⟨tb, _⟩ := not_sm hno4 hm2 hn2
                    have x4 : decide (n < t.size) = true := decide_eq_true hn2
                    have y4 : (n : Int) < (t.size : Int) := by omega
                    clear hno4
                    have HSX := Lib.hid (show ∀ u, Side ((((wr.drewN u).setCell ⟨h8, 0, none⟩ (.int .i64 (P : Int))).setCell ⟨h8, 1, none⟩ (.int .i64 (Q : Int))).setCell ⟨h8, 2, none⟩ (.int .i64 (L : Int))) w.heap.size (.slice none 0 0) 61 h8 [.int .i64 (P : Int), .int .i64 (Q : Int), .int .i64 (L : Int)] from fun u => (((H8.out.drewN u).set_self 0 _).set_self 1 _).set_self 2 _)
                    have HHB := Lib.hid H8.out.base
                    have k1 := H8.out.cell 0 _ rfl
                    have k2 := H8.out.cell 1 _ rfl
                    have k3 := H8.out.cell 2 _ rfl
                    have r1 := H8.out.frozen 0
                    have r2 := H8.out.frozen 1
                    have r3 := H8.out.frozen 2
                    clear hm hn hroom hlt
                    go_wp2
                    go_quiet (fail)
                    go_wp2
                    have q1 := fun u => (HSX.out u).cell 0 _ rfl
                    have q2 := fun u => (HSX.out u).cell 1 _ rfl
                    have q3 := fun u => (HSX.out u).cell 2 _ rfl
                    refine bodyPost_ret (v := .tuple #[.agg #[.int .i64 (P : Int), .int .i64 (Q : Int), .int .i64 (L : Int)], .bool true]) (by simp [results, Try.results82, go_sem, q1, q2, q3]) rfl ⟨by rw [HX2.out, HY2.out, HZ3.out], ?_⟩
                    exact below_set7 (below_set7 (below_set7 (below_drewN' B _) HHB.out _ _) HHB.out _ _) HHB.out _ _
                  · have x4 : decide (n < t.size) = false := decide_eq_false hn2
                    have y4 : ¬ (n : Int) < (t.size : Int) := by omega
                    clear hno4
                    have HSX := Lib.hid (show ∀ u, Side ((((wr.drewN u).setCell ⟨h8, 0, none⟩ (.int .i64 (P : Int))).setCell ⟨h8, 1, none⟩ (.int .i64 (Q : Int))).setCell ⟨h8, 2, none⟩ (.int .i64 (L : Int))) w.heap.size (.slice none 0 0) 61 h8 [.int .i64 (P : Int), .int .i64 (Q : Int), .int .i64 (L : Int)] from fun u => (((H8.out.drewN u).set_self 0 _).set_self 1 _).set_self 2 _)
                    have HHB := Lib.hid H8.out.base
                    have k1 := H8.out.cell 0 _ rfl
                    have k2 := H8.out.cell 1 _ rfl
                    have k3 := H8.out.cell 2 _ rfl
                    have r1 := H8.out.frozen 0
                    have r2 := H8.out.frozen 1
                    have r3 := H8.out.frozen 2
                    clear hm hn hroom hlt
                    go_wp2
                    go_quiet (fail)
                    go_wp2
                    have q1 := fun u => (HSX.out u).cell 0 _ rfl
                    have q2 := fun u => (HSX.out u).cell 1 _ rfl
                    have q3 := fun u => (HSX.out u).cell 2 _ rfl
                    refine bodyPost_ret (v := .tuple #[.agg #[.int .i64 (P : Int), .int .i64 (Q : Int), .int .i64 (L : Int)], .bool true]) (by simp [results, Try.results82, go_sem, q1, q2, q3]) rfl ⟨by rw [HX2.out, HY2.out, HZ3.out], ?_⟩
                    exact below_set7 (below_set7 (below_set7 (below_drewN' B _) HHB.out _ _) HHB.out _ _) HHB.out _ _
                · have x3 : decide (m < s.size) = false := decide_eq_false hm2
                  have y3 : ¬ (m : Int) < (s.size : Int) := by omega
                  clear hno4
                  have HSX := Lib.hid (show ∀ u, Side ((((wr.drewN u).setCell ⟨h8, 0, none⟩ (.int .i64 (P : Int))).setCell ⟨h8, 1, none⟩ (.int .i64 (Q : Int))).setCell ⟨h8, 2, none⟩ (.int .i64 (L : Int))) w.heap.size (.slice none 0 0) 61 h8 [.int .i64 (P : Int), .int .i64 (Q : Int), .int .i64 (L : Int)] from fun u => (((H8.out.drewN u).set_self 0 _).set_self 1 _).set_self 2 _)
                  have HHB := Lib.hid H8.out.base
                  have k1 := H8.out.cell 0 _ rfl
                  have k2 := H8.out.cell 1 _ rfl
                  have k3 := H8.out.cell 2 _ rfl
                  have r1 := H8.out.frozen 0
                  have r2 := H8.out.frozen 1
                  have r3 := H8.out.frozen 2
                  clear hm hn hroom hlt
                  go_wp2
                  go_quiet (fail)
                  go_wp2
                  have q1 := fun u => (HSX.out u).cell 0 _ rfl
                  have q2 := fun u => (HSX.out u).cell 1 _ rfl
                  have q3 := fun u => (HSX.out u).cell 2 _ rfl
                  refine bodyPost_ret (v := .tuple #[.agg #[.int .i64 (P : Int), .int .i64 (Q : Int), .int .i64 (L : Int)], .bool true]) (by simp [results, Try.results82, go_sem, q1, q2, q3]) rfl ⟨by rw [HX2.out, HY2.out, HZ3.out], ?_⟩
                  exact below_set7 (below_set7 (below_set7 (below_drewN' B _) HHB.out _ _) HHB.out _ _) HHB.out _ _
  · clear h
    by_cases c0 : i < 0
    · clear hno
      have d0 : decide (i < 0) = true := decide_eq_true c0
      go_enter Try.func82, Try.ntmps82
      go_wp2
      go_quiet (fail)
      go_wp2
      refine bodyPost_ret (v := .tuple #[.agg #[.int .i64 0, .int .i64 0, .int .i64 0], .bool false]) (by simp [results, Try.results82, go_sem]) rfl ⟨rfl, ?_⟩
      exact below_set7 (below_set7 (below_set7 (below_drewN' ((Below.refl _ _).alloc (Nat.le_refl _) _) _) (Nat.le_refl _) _ _) (Nat.le_refl _) _ _) (Nat.le_refl _) _ _
    have d0 : decide (i < 0) = false := decide_eq_false c0
    by_cases c1 : j < 0
    · clear hno
      have d1 : decide (j < 0) = true := decide_eq_true c1
      go_enter Try.func82, Try.ntmps82
      go_wp2
      go_quiet (fail)
      go_wp2
      refine bodyPost_ret (v := .tuple #[.agg #[.int .i64 0, .int .i64 0, .int .i64 0], .bool false]) (by simp [results, Try.results82, go_sem]) rfl ⟨rfl, ?_⟩
      exact below_set7 (below_set7 (below_set7 (below_drewN' ((Below.refl _ _).alloc (Nat.le_refl _) _) _) (Nat.le_refl _) _ _) (Nat.le_refl _) _ _) (Nat.le_refl _) _ _
    have d1 : decide (j < 0) = false := decide_eq_false c1
    by_cases c2 : (s.size : Int) ≤ i
    · clear hno
      have d2 : decide ((s.size : Int) ≤ i) = true := decide_eq_true c2
      go_enter Try.func82, Try.ntmps82
      go_wp2
      go_quiet (fail)
      go_wp2
      refine bodyPost_ret (v := .tuple #[.agg #[.int .i64 0, .int .i64 0, .int .i64 0], .bool false]) (by simp [results, Try.results82, go_sem]) rfl ⟨rfl, ?_⟩
      exact below_set7 (below_set7 (below_set7 (below_drewN' ((Below.refl _ _).alloc (Nat.le_refl _) _) _) (Nat.le_refl _) _ _) (Nat.le_refl _) _ _) (Nat.le_refl _) _ _
    have d2 : decide ((s.size : Int) ≤ i) = false := decide_eq_false c2
    by_cases c3 : (t.size : Int) ≤ j
    · clear hno
      have d3 : decide ((t.size : Int) ≤ j) = true := decide_eq_true c3
      go_enter Try.func82, Try.ntmps82
      go_wp2
      go_quiet (fail)
      go_wp2
      refine bodyPost_ret (v := .tuple #[.agg #[.int .i64 0, .int .i64 0, .int .i64 0], .bool false]) (by simp [results, Try.results82, go_sem]) rfl ⟨rfl, ?_⟩
      exact below_set7 (below_set7 (below_set7 (below_drewN' ((Below.refl _ _).alloc (Nat.le_refl _) _) _) (Nat.le_refl _) _ _) (Nat.le_refl _) _ _) (Nat.le_refl _) _ _
    obtain ⟨I, rfl⟩ : ∃ I : Nat, i = I := ⟨i.toNat, by omega⟩
    obtain ⟨J, rfl⟩ : ∃ I : Nat, j = I := ⟨j.toNat, by omega⟩
    have hI : I < s.size := by omega
    have hJ : J < t.size := by omega
    have hn2 : ¬ sm s t I J := fun e => hno ⟨by omega, by omega, by rw [Int.toNat_natCast, Int.toNat_natCast]; exact e⟩
    obtain ⟨tb, tb2⟩ := not_sm hn2 hI hJ
    have z2 : (I : Int) < (s.size : Int) := by omega
    have z3 : (J : Int) < (t.size : Int) := by omega
    have z4 : (0 : Int) ≤ (I : Int) := by omega
    have z5 : (0 : Int) ≤ (J : Int) := by omega
    have d0 : decide ((I : Int) < 0) = false := decide_eq_false (by omega)
    have d1 : decide ((J : Int) < 0) = false := decide_eq_false (by omega)
    have d2 : decide (s.size ≤ I) = false := decide_eq_false (by omega)
    have d3 : decide (t.size ≤ J) = false := decide_eq_false (by omega)
    have d4 : decide ((s.size : Int) ≤ (I : Int)) = false := decide_eq_false (by omega)
    have d5 : decide ((t.size : Int) ≤ (J : Int)) = false := decide_eq_false (by omega)
    clear hno hn2 c0 c1 c2 c3
    go_enter Try.func82, Try.ntmps82
    go_wp2
    go_quiet (fail)
    go_wp2
    refine bodyPost_ret (v := .tuple #[.agg #[.int .i64 0, .int .i64 0, .int .i64 0], .bool false]) (by simp [results, Try.results82, go_sem]) rfl ⟨rfl, ?_⟩
    exact below_set7 (below_set7 (below_set7 (below_drewN' ((Below.refl _ _).alloc (Nat.le_refl _) _) _) (Nat.le_refl _) _ _) (Nat.le_refl _) _ _) (Nat.le_refl _) _ _

end Go.Proofs.Ytclblnkeakkdeaa
