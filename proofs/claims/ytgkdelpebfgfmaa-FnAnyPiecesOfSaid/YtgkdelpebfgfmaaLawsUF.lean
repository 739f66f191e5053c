/-
  The walk of the law AnyPiecesOf: it answers true, and nothing that was there is written. No conditions. (Written by wip/tools/ch7_laws.py.)
-/
import Derived.Test.YtgkdelpebfgfmaaHelpP
import Derived.Test.YtgkdelpebfgfmaaDrawV
import Derived.Deep.RegionHeld3
namespace Go.Proofs.Ytgkdelpebfgfmaa
open Go.RowKit

set_option maxRecDepth 4000 in
set_option maxHeartbeats 16000000 in
theorem walkFnAnyPiecesOf (s t : ByteArray) (n : Int) (w : World) (_ws : s.size ≤ maxLen) (_wt : t.size ≤ maxLen) (wn : (Lit.int .i64 n).wf = true) :
    Calls Try.prog 9 #[.string s, .string t, .int .i64 n] w fun e w' => e = .returned (.bool true) ∧ Below w.heap.size w w' := by
  have wn := (wf_bounds7 wn).2
  by_cases hs : 1000 < s.size
  · have cb := fun w => bigText_is true s 1000 w (decide_eq_true (by omega))
    go_enter Try.func9, Try.ntmps9
    go_wp2_with fail
    refine (cb _).mono ?_
    rintro e w1 ⟨rfl, rfl⟩
    go_wp2_with fail
    refine (alive_any _).mono ?_
    rintro e w1 ⟨rfl, rfl⟩
    go_wp2
    go_ret
    exact ⟨rfl, Below.refl _ _⟩
  have cb := fun w => bigText_is false s 1000 w (decide_eq_false (by omega))
  by_cases ht : 1000 < t.size
  · have cb2 := fun w => bigText_is true t 1000 w (decide_eq_true (by omega))
    go_enter Try.func9, Try.ntmps9
    go_wp2_with fail
    refine (cb _).mono ?_
    rintro e w1 ⟨rfl, rfl⟩
    go_wp2_with fail
    refine (cb2 _).mono ?_
    rintro e w1 ⟨rfl, rfl⟩
    go_wp2_with fail
    refine (alive_any _).mono ?_
    rintro e w1 ⟨rfl, rfl⟩
    go_wp2
    go_ret
    exact ⟨rfl, Below.refl _ _⟩
  have cb2 := fun w => bigText_is false t 1000 w (decide_eq_false (by omega))
  have hs9 : s.size ≤ 1000 := by omega
  have ht9 : t.size ≤ 1000 := by omega
  clear hs ht
  go_enter Try.func9, Try.ntmps9
  go_wp2_with fail
  refine (cb _).mono ?_
  rintro e w1 ⟨rfl, rfl⟩
  go_wp2_with fail
  refine (cb2 _).mono ?_
  rintro e w1 ⟨rfl, rfl⟩
  clear cb cb2
  obtain ⟨w0, hw0⟩ : ∃ w0, w = w0 := ⟨_, rfl⟩
  have BB : Below w.heap.size w w0 := by rw [hw0]; exact Below.refl _ _
  have HW := Lib.hid hw0
  clear hw0
  rw [HW.out] at *
  clear HW
  by_cases hn : n < 1
  · have c1 := fun w => implPcs_w s t n [] w (piecesT_bad hn) wn (by omega) (by omega)
    have c2 := fun w => specPcs_w s t n [] w (piecesT_bad hn) (by omega) (by omega)
    have n1 : ¬ 1 ≤ n := by omega
    have d1 : decide (1 ≤ n) = false := decide_eq_false n1
    clear hn
    go_wp2_with fail
    refine (c1 _).mono ?_
    rintro e w1 ⟨aL, m, d, rfl, EL, hb⟩
    replace BB := BB.trans (hb.mono BB.size)
    clear hb
    go_wp2_with fail
    refine (c2 _).mono ?_
    rintro e w2 ⟨aS, mS, dS, rfl, ES, hb⟩
    replace EL := EL.later hb
    replace BB := BB.trans (hb.mono BB.size)
    clear hb
    go_wp2_with fail
    refine (samePcs_w [] _ _ _ _ _ _ _ EL ES (Nat.zero_le _)).mono ?_
    rintro e w3 ⟨rfl, hb⟩
    replace EL := EL.later hb
    replace ES := ES.later hb
    replace BB := BB.trans (hb.mono BB.size)
    clear hb
    have hm3 : m = 0 := EL.len
    subst hm3
    have HB := Lib.hid BB
    clear EL ES c1 c2 BB
    go_wp2
    go_loopw [8] (fun k_ wr => k_ = .int .i64 0 ∧ Hid (Below w3.heap.size w3 wr)) (fun k_ _ => 0)
    case atStart => exact ⟨rfl, Lib.hid (Below.refl _ _)⟩
    case round =>
      obtain ⟨rfl, HB2⟩ := hrel
      go_wp2
      go_loopw [12] (fun k_ wr => k_ = .int .i64 0 ∧ Hid (Below w3.heap.size w3 wr)) (fun k_ _ => 0)
      case atStart => exact ⟨rfl, HB2⟩
      case round =>
        clear HB2
        obtain ⟨rfl, HB2⟩ := hrel
        go_wp2_with fail
        refine (alive_any _).mono ?_
        rintro e wq ⟨rfl, rfl⟩
        go_wp2
        go_ret
        exact ⟨rfl, HB.out.trans (HB2.out.mono HB.out.size)⟩
  obtain ⟨N, rfl⟩ : ∃ N : Nat, n = N := ⟨n.toNat, by omega⟩
  have hN : 1 ≤ N := by omega
  obtain ⟨L, hL⟩ : ∃ A, piecesT s t (N : Int) = A := ⟨_, rfl⟩
  have c1 := fun w => implPcs_w s t N L w hL wn (by omega) (by omega)
  have c2 := fun w => specPcs_w s t N L w hL (by omega) (by omega)
  have hroom : L.length ≤ 1000000 := by
    rw [← hL, piecesT_nat hN]
    have h2 := piecesN_len s t N s.size
    have h3 : s.size * t.size ≤ 1000 * 1000 := Nat.mul_le_mul hs9 ht9
    omega
  have HL := Lib.hid hL
  have HFA := Lib.hid (show ∀ x y z : Int, (x, y, z) ∈ L → growT s t x y = ((x, y, z), true) ∧ (N : Int) ≤ z ∧ 0 ≤ x ∧ x < s.size ∧ 0 ≤ y ∧ y < t.size ∧ z ≤ s.size from fun x y z h => piece_facts hN (by rw [hL]; exact h))
  have HOR := Lib.hid (show ∀ k (h : k + 1 < L.length) (x y z x' y' z' : Int), L[k] = (x', y', z') → L[k + 1] = (x, y, z) → x' < x ∨ x' = x ∧ y' < y from fun k h x y z x' y' z' h1 h2 => by subst hL; exact piece_order hN h h1 h2)
  clear hL hn
  go_wp2_with fail
  refine (c1 _).mono ?_
  rintro e w1 ⟨aL, m, d, rfl, EL, hb⟩
  replace BB := BB.trans (hb.mono BB.size)
  clear hb
  go_wp2_with fail
  refine (c2 _).mono ?_
  rintro e w2 ⟨aS, mS, dS, rfl, ES, hb⟩
  replace EL := EL.later hb
  replace BB := BB.trans (hb.mono BB.size)
  clear hb
  go_wp2_with fail
  refine (samePcs_w L _ _ _ _ _ _ _ EL ES (by omega)).mono ?_
  rintro e w3 ⟨rfl, hb⟩
  replace EL := EL.later hb
  replace ES := ES.later hb
  replace BB := BB.trans (hb.mono BB.size)
  clear hb
  have HE := Lib.hid EL
  have HB := Lib.hid BB
  have HM := Lib.hid EL.len
  have hm9 : m ≤ 1000000 := by have := HM.out; omega
  clear EL ES c1 c2 BB
  have hN1 : (1 : Int) ≤ (N : Int) := by omega
  have dN : decide ((1 : Int) ≤ (N : Int)) = true := decide_eq_true hN1
  go_wp2
  go_loopw [8] (fun k_ wr => ∃ k : Nat, k ≤ m ∧ k_ = .int .i64 (k : Int) ∧ Hid (Below w3.heap.size w3 wr)) (fun k_ _ => m - (intOf k_).toNat)
  case atStart => exact ⟨0, Nat.zero_le _, rfl, Lib.hid (Below.refl _ _)⟩
  case round =>
    obtain ⟨k, hk, rfl, HB2⟩ := hrel
    by_cases hlt : k < m
    · have hkl : k < L.length := by have := HM.out; omega
      obtain ⟨x, hx⟩ : ∃ x, L[k].1 = x := ⟨_, rfl⟩
      obtain ⟨y, hy⟩ : ∃ x, L[k].2.1 = x := ⟨_, rfl⟩
      obtain ⟨z, hz⟩ : ∃ x, L[k].2.2 = x := ⟨_, rfl⟩
      have hm : L[k] = (x, y, z) := by rw [← hx, ← hy, ← hz]
      obtain ⟨hg, hz1, hx0, hx1, hy0, hy1, hz2⟩ := HFA.out x y z (by rw [← hm]; exact List.getElem_mem hkl)
      have z1 : (k : Int) < (m : Int) := by omega
      have z0 : (0 : Int) ≤ (k : Int) := by omega
      clear hx hy hz
      have EL := HE.out.later HB2.out
      obtain ⟨w20, rfl⟩ : ∃ w9, w9 = wr := ⟨_, rfl⟩
      have BB := HB2.out
      clear HB2
      have c4 := fun w => implGrow_any s t x y x y z true w hg (by omega) (by omega) (by omega) (by omega)
      obtain ⟨b, o, rfl, hb9, e1, e2, e3⟩ := ent_cells EL.at_ hkl hm
      have HKS := Lib.hid (show ∀ w', Below w20.heap.size w20 w' → w'.cell? ⟨b, o + k * 3, none⟩ = some (.int .i64 x) ∧ w'.cell? ⟨b, o + k * 3 + 1, none⟩ = some (.int .i64 y) ∧ w'.cell? ⟨b, o + k * 3 + 2, none⟩ = some (.int .i64 z) from fun w' h => ⟨below_ents7 h hb9 e1, below_ents7 h hb9 e2, below_ents7 h hb9 e3⟩)
      clear hg
      have tx : (x == x) = true := beq_self_eq_true _
      have ty : (y == y) = true := beq_self_eq_true _
      have tz : (z == z) = true := beq_self_eq_true _
      have nz : ¬ z < (N : Int) := by omega
      have dz : decide (z < (N : Int)) = false := decide_eq_false nz
      by_cases hk0 : k = 0
      · have n0 : ¬ (0 : Int) < (k : Int) := by omega
        have d0 : decide ((0 : Int) < (k : Int)) = false := decide_eq_false n0
        have d0' : decide (0 < k) = false := decide_eq_false (by omega)
        clear hm hk0
        have ha := (Below.refl w20.heap.size w20).alloc (Nat.le_refl _) (.cells #[.int .i64 x, .int .i64 y, .int .i64 z] 29)
        have S9 := Side.fresh (w := w20) (B := w3.heap.size) (v := (.slice none 0 0)) 29 [.int .i64 x, .int .i64 y, .int .i64 z] BB.size (by intro k hk; simp [Value.ownBlock] at hk)
        replace BB := BB.trans (ha.mono BB.size)
        clear ha
        have hd := Lib.hid (Below.refl w20.heap.size w20)
        have kS90 := S9.cell 0 _ rfl
        have kS91 := S9.cell 1 _ rfl
        have kS92 := S9.cell 2 _ rfl
        go_wp2_with fail
        refine (c4 _).mono ?_
        rintro e w21 ⟨rfl, hb⟩
        clear kS90 kS91 kS92
        have hW : Below w20.heap.size w20 w21 := ((Below.refl w20.heap.size w20).alloc (Nat.le_refl _) (.cells #[.int .i64 x, .int .i64 y, .int .i64 z] 29)).trans (hb.mono (by simp))
        clear hd
        replace S9 := S9.later hb
        replace BB := BB.trans (hb.mono BB.size)
        clear hb e1 e2 e3
        obtain ⟨g9, hg9⟩ : ∃ g, w20.heap.size = g := ⟨_, rfl⟩
        replace S9 : Side w21 w3.heap.size (.slice none 0 0) 29 g9 [.int .i64 x, .int .i64 y, .int .i64 z] := hg9 ▸ S9
        rw [hg9]
        have hgg := Lib.hid hg9
        clear hg9
        have ha := (Below.refl w21.heap.size w21).alloc (Nat.le_refl _) (.cells #[.int .i64 x, .int .i64 y, .int .i64 z] 29)
        replace S9 := S9.later ha
        have S10 := Side.fresh (w := w21) (B := w3.heap.size) (v := (.slice none 0 0)) 29 [.int .i64 x, .int .i64 y, .int .i64 z] BB.size (by intro k hk; simp [Value.ownBlock] at hk)
        replace BB := BB.trans (ha.mono BB.size)
        have hW2 := hW.trans (ha.mono hW.size)
        have q0 := S10.cell 0 _ rfl
        have q1 := S10.cell 1 _ rfl
        have q2 := S10.cell 2 _ rfl
        clear ha hW
        go_wp2
        clear q0 q1 q2
        obtain ⟨w22, hw22⟩ : ∃ w9, w21.alloc (.cells #[.int .i64 x, .int .i64 y, .int .i64 z] 29) = w9 := ⟨_, rfl⟩
        obtain ⟨g10, hg10⟩ : ∃ g, w21.heap.size = g := ⟨_, rfl⟩
        rw [hw22] at S9 S10 BB hW2
        rw [hg10] at S10
        rw [hw22, hg10]
        clear hw22 hg10
        have kS90 := S9.cell 0 _ rfl
        have kS91 := S9.cell 1 _ rfl
        have kS92 := S9.cell 2 _ rfl
        have q0 := S10.cell 0 _ rfl
        have q1 := S10.cell 1 _ rfl
        have q2 := S10.cell 2 _ rfl
        obtain ⟨e1, e2, e3⟩ := HKS.out _ hW2
        clear S9 S10 hgg
        go_quiet (fail)
        go_wp2
        go_roundw
        case rel => exact ⟨k + 1, by omega, by go_num, Lib.hid (below_drewN' BB _)⟩
        case measure => simp [intOf]; omega
      · obtain ⟨p, rfl⟩ : ∃ p, k = p + 1 := ⟨k - 1, by omega⟩
        have hpl : p < L.length := by omega
        obtain ⟨x', hx'⟩ : ∃ x', L[p].1 = x' := ⟨_, rfl⟩
        obtain ⟨y', hy'⟩ : ∃ y', L[p].2.1 = y' := ⟨_, rfl⟩
        obtain ⟨z', hz'⟩ : ∃ z', L[p].2.2 = z' := ⟨_, rfl⟩
        have hm' : L[p] = (x', y', z') := by rw [← hx', ← hy', ← hz']
        have hord := HOR.out p hkl x y z x' y' z' hm' hm
        obtain ⟨b2, o2, hbo, hb92, e4, e5, e6⟩ := ent_cells EL.at_ hpl hm'
        simp only [Option.some.injEq, Addr.mk.injEq, and_true] at hbo
        obtain ⟨rfl, rfl⟩ := hbo
        have HKP := Lib.hid (show ∀ w', Below w20.heap.size w20 w' → w'.cell? ⟨b, o + p * 3, none⟩ = some (.int .i64 x') ∧ w'.cell? ⟨b, o + p * 3 + 1, none⟩ = some (.int .i64 y') ∧ w'.cell? ⟨b, o + p * 3 + 2, none⟩ = some (.int .i64 z') from fun w' h => ⟨below_ents7 h hb9 e4, below_ents7 h hb9 e5, below_ents7 h hb9 e6⟩)
        have n0 : (0 : Int) < ((p : Int) + 1) := by omega
        have d0 : decide ((0 : Int) < ((p : Int) + 1)) = true := decide_eq_true n0
        have v1 : IntKind.i64.wrap ((p : Int) + 1 - 1) = (p : Int) := by rw [IntWalk.i64_in _ (by omega)]; omega
        have v2 : (p : Int) + 1 - 1 = (p : Int) := by omega
        have v3 : IntKind.i64.wrap (p : Int) = (p : Int) := IntWalk.i64_in _ (by omega)
        have z2 : (0 : Int) ≤ (p : Int) := by omega
        have z3 : (p : Int) < (m : Int) := by omega
        have dx : decide (x < x') = false := decide_eq_false (by omega)
        have nx : ¬ x < x' := by omega
        have hcase : (x' == x) = false ∨ (x' == x) = true ∧ decide (y ≤ y') = false := by
          rcases hord with h | ⟨h, h2⟩
          · exact .inl (beq_eq_false_iff_ne.2 (by omega))
          · exact .inr ⟨by simpa using h, decide_eq_false (by omega)⟩
        clear hm hm' hx' hy' hz' hk0 e4 e5 e6 hord hpl
        rcases hcase with te | ⟨te, dy⟩
        · have ha := (Below.refl w20.heap.size w20).alloc (Nat.le_refl _) (.cells #[.int .i64 x, .int .i64 y, .int .i64 z] 29)
          have S9 := Side.fresh (w := w20) (B := w3.heap.size) (v := (.slice none 0 0)) 29 [.int .i64 x, .int .i64 y, .int .i64 z] BB.size (by intro k hk; simp [Value.ownBlock] at hk)
          replace BB := BB.trans (ha.mono BB.size)
          clear ha
          have hd := Lib.hid (Below.refl w20.heap.size w20)
          have kS90 := S9.cell 0 _ rfl
          have kS91 := S9.cell 1 _ rfl
          have kS92 := S9.cell 2 _ rfl
          go_wp2_with fail
          refine (c4 _).mono ?_
          rintro e w21 ⟨rfl, hb⟩
          clear kS90 kS91 kS92
          have hW : Below w20.heap.size w20 w21 := ((Below.refl w20.heap.size w20).alloc (Nat.le_refl _) (.cells #[.int .i64 x, .int .i64 y, .int .i64 z] 29)).trans (hb.mono (by simp))
          clear hd
          replace S9 := S9.later hb
          replace BB := BB.trans (hb.mono BB.size)
          clear hb e1 e2 e3
          obtain ⟨g9, hg9⟩ : ∃ g, w20.heap.size = g := ⟨_, rfl⟩
          replace S9 : Side w21 w3.heap.size (.slice none 0 0) 29 g9 [.int .i64 x, .int .i64 y, .int .i64 z] := hg9 ▸ S9
          rw [hg9]
          have hgg := Lib.hid hg9
          clear hg9
          have ha := (Below.refl w21.heap.size w21).alloc (Nat.le_refl _) (.cells #[.int .i64 x, .int .i64 y, .int .i64 z] 29)
          replace S9 := S9.later ha
          have S10 := Side.fresh (w := w21) (B := w3.heap.size) (v := (.slice none 0 0)) 29 [.int .i64 x, .int .i64 y, .int .i64 z] BB.size (by intro k hk; simp [Value.ownBlock] at hk)
          replace BB := BB.trans (ha.mono BB.size)
          have hW2 := hW.trans (ha.mono hW.size)
          have q0 := S10.cell 0 _ rfl
          have q1 := S10.cell 1 _ rfl
          have q2 := S10.cell 2 _ rfl
          clear ha hW
          go_wp2
          clear q0 q1 q2
          obtain ⟨w22, hw22⟩ : ∃ w9, w21.alloc (.cells #[.int .i64 x, .int .i64 y, .int .i64 z] 29) = w9 := ⟨_, rfl⟩
          obtain ⟨g10, hg10⟩ : ∃ g, w21.heap.size = g := ⟨_, rfl⟩
          rw [hw22] at S9 S10 BB hW2
          rw [hg10] at S10
          rw [hw22, hg10]
          clear hw22 hg10
          have kS90 := S9.cell 0 _ rfl
          have kS91 := S9.cell 1 _ rfl
          have kS92 := S9.cell 2 _ rfl
          have q0 := S10.cell 0 _ rfl
          have q1 := S10.cell 1 _ rfl
          have q2 := S10.cell 2 _ rfl
          obtain ⟨e1, e2, e3⟩ := HKS.out _ hW2
          obtain ⟨e4, e5, e6⟩ := HKP.out _ hW2
          clear HKP
          clear S9 S10 hgg
          go_quiet (fail)
          go_wp2
          go_roundw
          case rel => exact ⟨p + 1 + 1, by omega, by go_num, Lib.hid (below_drewN' BB _)⟩
          case measure => simp [intOf]; omega
        · have ha := (Below.refl w20.heap.size w20).alloc (Nat.le_refl _) (.cells #[.int .i64 x, .int .i64 y, .int .i64 z] 29)
          have S9 := Side.fresh (w := w20) (B := w3.heap.size) (v := (.slice none 0 0)) 29 [.int .i64 x, .int .i64 y, .int .i64 z] BB.size (by intro k hk; simp [Value.ownBlock] at hk)
          replace BB := BB.trans (ha.mono BB.size)
          clear ha
          have hd := Lib.hid (Below.refl w20.heap.size w20)
          have kS90 := S9.cell 0 _ rfl
          have kS91 := S9.cell 1 _ rfl
          have kS92 := S9.cell 2 _ rfl
          go_wp2_with fail
          refine (c4 _).mono ?_
          rintro e w21 ⟨rfl, hb⟩
          clear kS90 kS91 kS92
          have hW : Below w20.heap.size w20 w21 := ((Below.refl w20.heap.size w20).alloc (Nat.le_refl _) (.cells #[.int .i64 x, .int .i64 y, .int .i64 z] 29)).trans (hb.mono (by simp))
          clear hd
          replace S9 := S9.later hb
          replace BB := BB.trans (hb.mono BB.size)
          clear hb e1 e2 e3
          obtain ⟨g9, hg9⟩ : ∃ g, w20.heap.size = g := ⟨_, rfl⟩
          replace S9 : Side w21 w3.heap.size (.slice none 0 0) 29 g9 [.int .i64 x, .int .i64 y, .int .i64 z] := hg9 ▸ S9
          rw [hg9]
          have hgg := Lib.hid hg9
          clear hg9
          have ha := (Below.refl w21.heap.size w21).alloc (Nat.le_refl _) (.cells #[.int .i64 x, .int .i64 y, .int .i64 z] 29)
          replace S9 := S9.later ha
          have S10 := Side.fresh (w := w21) (B := w3.heap.size) (v := (.slice none 0 0)) 29 [.int .i64 x, .int .i64 y, .int .i64 z] BB.size (by intro k hk; simp [Value.ownBlock] at hk)
          replace BB := BB.trans (ha.mono BB.size)
          have hW2 := hW.trans (ha.mono hW.size)
          have q0 := S10.cell 0 _ rfl
          have q1 := S10.cell 1 _ rfl
          have q2 := S10.cell 2 _ rfl
          clear ha hW
          go_wp2
          clear q0 q1 q2
          obtain ⟨w22, hw22⟩ : ∃ w9, w21.alloc (.cells #[.int .i64 x, .int .i64 y, .int .i64 z] 29) = w9 := ⟨_, rfl⟩
          obtain ⟨g10, hg10⟩ : ∃ g, w21.heap.size = g := ⟨_, rfl⟩
          rw [hw22] at S9 S10 BB hW2
          rw [hg10] at S10
          rw [hw22, hg10]
          clear hw22 hg10
          have kS90 := S9.cell 0 _ rfl
          have kS91 := S9.cell 1 _ rfl
          have kS92 := S9.cell 2 _ rfl
          have q0 := S10.cell 0 _ rfl
          have q1 := S10.cell 1 _ rfl
          have q2 := S10.cell 2 _ rfl
          obtain ⟨e1, e2, e3⟩ := HKS.out _ hW2
          obtain ⟨e4, e5, e6⟩ := HKP.out _ hW2
          clear HKP
          clear S9 S10 hgg
          go_quiet (fail)
          go_wp2
          go_roundw
          case rel => exact ⟨p + 1 + 1, by omega, by go_num, Lib.hid (below_drewN' BB _)⟩
          case measure => simp [intOf]; omega
    · have z1 : ¬ (k : Int) < (m : Int) := by omega
      have HFB := Lib.hid HFA.out
      clear hlt HFA HOR
      obtain ⟨wa, rfl⟩ : ∃ wa, wa = wr := ⟨_, rfl⟩
      go_wp2
      go_loopw [12] (fun i_ wr => ∃ i : Nat, i ≤ s.size ∧ (i = 0 ∨ N ≤ s.size) ∧ i_ = .int .i64 (i : Int) ∧ Hid (Below w3.heap.size w3 wr)) (fun i_ _ => s.size - (intOf i_).toNat)
      case atStart => exact ⟨0, Nat.zero_le _, .inl rfl, rfl, HB2⟩
      case round =>
        clear HB2
        obtain ⟨i, hi, hiN, rfl, HB2⟩ := hrel
        have v1 : IntKind.i64.wrap ((i : Int) + (N : Int)) = (i : Int) + (N : Int) := IntWalk.i64_in _ (by omega)
        by_cases hin : i + N ≤ s.size
        · have z2 : (i : Int) + (N : Int) ≤ (s.size : Int) := by omega
          have d2 : decide ((i : Int) + (N : Int) ≤ (s.size : Int)) = true := decide_eq_true z2
          obtain ⟨wb, rfl⟩ : ∃ wb, wb = wr := ⟨_, rfl⟩
          go_wp2
          go_loopw [13] (fun j_ wr => ∃ j : Nat, j ≤ t.size ∧ (j = 0 ∨ N ≤ t.size) ∧ j_ = .int .i64 (j : Int) ∧ Hid (Below w3.heap.size w3 wr)) (fun j_ _ => t.size - (intOf j_).toNat)
          case atStart => exact ⟨0, Nat.zero_le _, .inl rfl, rfl, HB2⟩
          case round =>
            clear HB2
            obtain ⟨j, hj, hjN, rfl, HB2⟩ := hrel
            have v2 : IntKind.i64.wrap ((j : Int) + (N : Int)) = (j : Int) + (N : Int) := IntWalk.i64_in _ (by omega)
            by_cases hjn : j + N ≤ t.size
            · have z3 : (j : Int) + (N : Int) ≤ (t.size : Int) := by omega
              obtain ⟨wc2, rfl⟩ : ∃ wb, wb = wr := ⟨_, rfl⟩
              go_wp2
              go_loopw [14, 15] (fun c_ k_ wr => ∃ k c : Nat, k ≤ m ∧ c ≤ k ∧ c_ = .int .i64 (c : Int) ∧ k_ = .int .i64 (k : Int) ∧ Hid (c = cntP L k i j N) ∧ Hid (Below w3.heap.size w3 wr)) (fun _ k_ _ => m - (intOf k_).toNat)
              case atStart => exact ⟨0, 0, Nat.zero_le _, Nat.le_refl _, rfl, rfl, Lib.hid rfl, HB2⟩
              case round =>
                clear HB2
                obtain ⟨q, c, hq, hcq, rfl, rfl, HC, HB2⟩ := hrel
                by_cases hlq : q < m
                · have hkl : q < L.length := by have := HM.out; omega
                  obtain ⟨x, hx⟩ : ∃ x, L[q].1 = x := ⟨_, rfl⟩
                  obtain ⟨y, hy⟩ : ∃ x, L[q].2.1 = x := ⟨_, rfl⟩
                  obtain ⟨z, hz⟩ : ∃ x, L[q].2.2 = x := ⟨_, rfl⟩
                  have hm : L[q] = (x, y, z) := by rw [← hx, ← hy, ← hz]
                  obtain ⟨_, hz1, hx0, hx1, hy0, hy1, hz2⟩ := HFB.out x y z (by rw [← hm]; exact List.getElem_mem hkl)
                  have u1 : (q : Int) < (m : Int) := by omega
                  have u0 : (0 : Int) ≤ (q : Int) := by omega
                  obtain ⟨b, o, rfl, hb9, e1, e2, e3⟩ := ent_cells (HE.out.at_.below HB2.out) hkl hm
                  clear hx hy hz
                  by_cases hP : hasP (x, y, z) i j N
                  · have c5 := fun w => implHas_is true x y z i j N w ⟨fun _ => hP, fun _ => rfl⟩ (by omega) (by omega) (by omega) (by omega) (by omega)
                    have HC2 := Lib.hid (show c + 1 = cntP L (q + 1) i j N by rw [cntP_yes hkl (by rw [hm]; exact hP), ← HC.out])
                    clear hP hm
                    go_wp2_with fail
                    refine (c5 _).mono ?_
                    rintro e w30 ⟨rfl, hb⟩
                    have HB3 := Lib.hid (HB2.out.trans (hb.mono HB2.out.size))
                    clear hb c5
                    go_wp2
                    go_roundw
                    case rel => exact ⟨q + 1, c + 1, by omega, by omega, by go_num, by go_num, HC2, HB3⟩
                    case measure => simp [intOf]; omega
                  · have c5 := fun w => implHas_is false x y z i j N w ⟨(fun h => absurd h (by decide)), fun h => absurd h hP⟩ (by omega) (by omega) (by omega) (by omega) (by omega)
                    have HC2 := Lib.hid (show c = cntP L (q + 1) i j N by rw [cntP_no hkl (by rw [hm]; exact hP), ← HC.out])
                    clear hP hm
                    go_wp2_with fail
                    refine (c5 _).mono ?_
                    rintro e w30 ⟨rfl, hb⟩
                    have HB3 := Lib.hid (HB2.out.trans (hb.mono HB2.out.size))
                    clear hb c5
                    go_wp2
                    go_roundw
                    case rel => exact ⟨q + 1, c, by omega, by omega, rfl, by go_num, HC2, HB3⟩
                    case measure => simp [intOf]; omega
                · have u1 : ¬ (q : Int) < (m : Int) := by omega
                  have hql : L.length ≤ q := by have := HM.out; omega
                  obtain ⟨P, hP⟩ : ∃ P, s.extract i (i + N) = P := ⟨_, rfl⟩
                  obtain ⟨Q, hQ⟩ : ∃ P, t.extract j (j + N) = P := ⟨_, rfl⟩
                  have hPQ : P = Q ↔ N ≤ runP s t i j := by rw [← hP, ← hQ]; exact extract_same hin hjn
                  have sl1 : ∀ w, (Instr.slice 9 (.string s) (some (.int .i64 (i : Int))) (some (.int .i64 ((i : Int) + (N : Int)))) none).run Try.prog w = .ok (.string P) w := fun w => by
                    have h1 := run_slice_string (P := Try.prog) w 9 s .i64 .i64 (i : Int) ((i : Int) + (N : Int)) Try.uls7 (by omega) (by omega) (by omega)
                    rwa [Int.toNat_natCast, show ((i : Int) + (N : Int)).toNat = i + N by omega, hP] at h1
                  have sl2 : ∀ w, (Instr.slice 9 (.string t) (some (.int .i64 (j : Int))) (some (.int .i64 ((j : Int) + (N : Int)))) none).run Try.prog w = .ok (.string Q) w := fun w => by
                    have h1 := run_slice_string (P := Try.prog) w 9 t .i64 .i64 (j : Int) ((j : Int) + (N : Int)) Try.uls7 (by omega) (by omega) (by omega)
                    rwa [Int.toNat_natCast, show ((j : Int) + (N : Int)).toNat = j + N by omega, hQ] at h1
                  clear hP hQ hlq
                  by_cases hrun : N ≤ runP s t i j
                  · obtain rfl : P = Q := hPQ.2 hrun
                    obtain rfl : c = 1 := by rw [HC.out]; exact cntP_one HL.out hN hrun hql
                    clear hPQ hrun hql HC
                    go_wp2
                    go_quiet (fail)
                    go_wp2
                    go_roundw
                    case rel => exact ⟨j + 1, by omega, by omega, by go_num, Lib.hid (below_drewN' HB2.out _)⟩
                    case measure => simp [intOf]; omega
                  · have hb : (P.toList == Q.toList) = false := eq7_no (fun e => hrun (hPQ.1 e))
                    obtain rfl : c = 0 := by rw [HC.out]; exact cntP_none HL.out hN hrun hql
                    clear hPQ hrun hql HC
                    go_wp2
                    go_quiet (fail)
                    go_wp2
                    go_roundw
                    case rel => exact ⟨j + 1, by omega, by omega, by go_num, Lib.hid (below_drewN' HB2.out _)⟩
                    case measure => simp [intOf]; omega
            · have z3 : ¬ (j : Int) + (N : Int) ≤ (t.size : Int) := by omega
              have d3 : decide ((j : Int) + (N : Int) ≤ (t.size : Int)) = false := decide_eq_false z3
              go_wp2
              go_roundw
              case rel => exact ⟨i + 1, by omega, by omega, by go_num, HB2⟩
              case measure => simp [intOf]; omega
        · have z2 : ¬ (i : Int) + (N : Int) ≤ (s.size : Int) := by omega
          have d2 : decide ((i : Int) + (N : Int) ≤ (s.size : Int)) = false := decide_eq_false z2
          go_wp2_with fail
          refine (alive_any _).mono ?_
          rintro e wq ⟨rfl, rfl⟩
          go_wp2
          go_ret
          exact ⟨rfl, HB.out.trans (HB2.out.mono HB.out.size)⟩

end Go.Proofs.Ytgkdelpebfgfmaa
