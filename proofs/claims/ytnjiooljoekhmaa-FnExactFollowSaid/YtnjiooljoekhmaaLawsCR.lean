/-
  The walk of chapter 9's exact law Follow: it returns true, and nothing that was there is written. No conditions.
-/
import Derived.Test.YtnjiooljoekhmaaFollI
import Derived.Test.YtnjiooljoekhmaaHelpSt4
namespace Go.Proofs.Ytnjiooljoekhmaa
open Go.RowKit

theorem totE_le (L : List Dt) {i k : Nat} (h : i < k) : (dtA L i).2.2.length ≤ totE L k := by
  induction k with
  | zero => omega
  | succ k ih =>
    rw [totE_next]
    by_cases e : i = k
    · subst e; omega
    · have := ih (by omega); omega

set_option maxHeartbeats 8000000 in
theorem walkFnExactFollow (a0 : Option Addr) (n0 c0 : Nat) (l0 : List Dt) (a1 : ByteArray) (w : World) (wi0 : ∃ A, n0 = l0.length ∧ n0 ≤ c0 ∧ c0 ≤ maxLen ∧ (∀ i, i < l0.length → (A i).2.1 ≤ maxLen) ∧ StAt w a0 l0 A) (_wi1 : a1.size ≤ maxLen) :
    Calls Try.prog 4 #[.slice a0 n0 c0, .string a1] w fun e w' => e = .returned (.bool true) ∧ Below w.heap.size w w' := by
  by_cases hs1 : 1048576 < a1.size
  · have hb1 : (1048576 : Int) < (a1.size : Int) := by omega
    clear wi0
    go_enter Try.func4, Try.ntmps4
    go_wp2
    go_ret
    exact ⟨rfl, Below.refl _ _⟩
  obtain ⟨A, hn, hnc, hcm, hmx, hat⟩ := wi0
  have HN := Lib.hid hn
  have HAT := Lib.hid hat
  have c1 := szStateS_any a0 n0 c0 1048576 l0 A w hn (Nat.le_refl _) (Nat.le_trans hnc hcm) hmx hat
  clear hn hmx hat hnc hcm
  go_enter Try.func4, Try.ntmps4
  go_wp2_with fail
  refine c1.mono ?_
  rintro e w1 ⟨⟨r, rfl, hr⟩, b1⟩
  have HR := Lib.hid hr
  have B1 := Lib.hid b1
  clear hr c1 b1
  by_cases hz : r < 0
  · go_wp2
    go_ret
    exact ⟨rfl, B1.out⟩
  obtain ⟨hn9, hfew⟩ : n0 ≤ 1048576 ∧ ∀ i, i < l0.length → (dtA l0 i).2.2.length ≤ 1048576 := by
    have h1 := HR.out.resolve_left hz
    refine ⟨by omega, fun i hi => ?_⟩
    have h2 := totE_le l0 (show i < n0 by have := HN.out; omega)
    omega
  have HFEW := Lib.hid hfew
  obtain ⟨x, hx⟩ : ∃ x, folL l0 a1.data.toList = x := ⟨_, rfl⟩
  have HX := Lib.hid hx
  have t1 : (x == x) = true := beq_self_eq_true _
  have t1' : (x != x) = false := by rw [bne, t1]; rfl
  have c2 := toStateS_any l0 a0 n0 c0 A w1 HN.out hn9 HFEW.out (HAT.out.below B1.out)
  clear hfew hx
  go_wp2_with fail
  refine c2.mono ?_
  rintro e w2 ⟨a2, A2, rfl, hs2, b2⟩
  have B2 := Lib.hid (B1.out.trans (b2.mono B1.out.size))
  have c3 := specFol_any l0 a1 a2 n0 n0 A2 w2 HN.out (by omega) HFEW.out (by omega) hs2
  rw [HX.out] at c3
  clear c2 hs2 b2
  go_wp2_with fail
  refine c3.mono ?_
  rintro e w3 ⟨rfl, b3⟩
  have B3 := Lib.hid (B2.out.trans (b3.mono B2.out.size))
  have c4 := toStateS_any l0 a0 n0 c0 A w3 HN.out hn9 HFEW.out (HAT.out.below B3.out)
  clear c3 b3 B2
  go_wp2_with fail
  refine c4.mono ?_
  rintro e w4 ⟨a4, A4, rfl, hs4, b4⟩
  have B4 := Lib.hid (B3.out.trans (b4.mono B3.out.size))
  have S4 := Lib.hid hs4
  have c5 := implFol_any l0 a1 a4 n0 n0 A4 w4 HN.out (by omega) HFEW.out (by omega) hs4
  rw [HX.out] at c5
  clear c4 hs4 b4 B3
  go_wp2_with fail
  refine c5.mono ?_
  rintro e w5 ⟨rfl, q5, rfl⟩
  have S5 := Lib.hid (S4.out.below (below_drewN' (Below.refl _ _) q5))
  have B5 := Lib.hid (below_drewN' B4.out q5)
  clear c5 S4 B4
  generalize w4.drewN q5 = w6 at S5 B5 ⊢
  have c6 := toStateS_any l0 a0 n0 c0 A w6 HN.out hn9 HFEW.out (HAT.out.below B5.out)
  go_wp2_with fail
  refine c6.mono ?_
  rintro e w7 ⟨a7, A7, rfl, hs7, b7⟩
  have B7 := Lib.hid (B5.out.trans (b7.mono B5.out.size))
  have c8 := eqStateS_same a4 a7 n0 n0 n0 l0 A4 A7 w7 HN.out (by omega) HFEW.out (S5.out.below b7) hs7
  clear c6 hs7 b7 B5 S5
  go_wp2_with fail
  refine c8.mono ?_
  rintro e w8 ⟨rfl, b8⟩
  have B8 := Lib.hid (B7.out.trans (b8.mono B7.out.size))
  clear c8 b8 B7
  go_wp2
  go_ret
  exact ⟨rfl, B8.out⟩

end Go.Proofs.Ytnjiooljoekhmaa
