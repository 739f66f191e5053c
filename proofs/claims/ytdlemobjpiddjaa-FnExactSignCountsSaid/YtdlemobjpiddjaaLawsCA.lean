/-
  The walks of chapter 1's exact laws: each returns true, and nothing that was there is written. No conditions.
-/
import Derived.Test.YtdlemobjpiddjaaAlikeCalls
import Derived.Test.YtdlemobjpiddjaaSignCounts
import Derived.Test.YtdlemobjpiddjaaHelpI
namespace Go.Proofs.Ytdlemobjpiddjaa
open Go.RowKit

theorem walkFnExactSignOf (a0 : Int) (_w0 : (Lit.int .i64 a0).wf = true) (w : World) :
    Calls Try.prog 3 #[.int .i64 a0] w fun e w' => e = .returned (.bool true) ∧ Below w.heap.size w w' := by
  obtain ⟨g, hg⟩ : ∃ g, signOf a0 = g := ⟨_, rfl⟩
  have HG := Lib.hid hg
  clear hg
  go_enter Try.func3, Try.ntmps3
  go_wp2_with (first
    | (go_at_call 9; refine (specSignOf_is _ _ _ HG.out).mono ?_; rintro e w' ⟨rfl, rfl⟩)
    | (go_at_call 10; refine (implSignOf_is _ _ _ HG.out).mono ?_; rintro e w' ⟨rfl, rfl⟩))
  go_ret
  exact ⟨rfl, Below.refl _ _⟩

theorem walkFnExactIsAlike (a0 : ByteArray) (_w0 : a0.size ≤ maxLen) (w : World) :
    Calls Try.prog 5 #[.string a0] w fun e w' => e = .returned (.bool true) ∧ Below w.heap.size w w' := by
  by_cases hs : a0.size ≤ 1048576
  · go_enter Try.func5, Try.ntmps5
    go_wp2_with fail
    refine (specIsAlike_any _ _ hs).mono ?_
    rintro e w1 ⟨rfl, hb1⟩
    go_wp2_with fail
    refine (implIsAlike_any _ _ hs).mono ?_
    rintro e w2 ⟨rfl, hb2⟩
    go_wp2
    go_ret
    exact ⟨rfl, hb1.trans (hb2.mono hb1.size)⟩
  · have h2 : (1048576 : Int) < (a0.size : Int) := by omega
    go_enter Try.func5, Try.ntmps5
    go_wp2
    go_ret
    exact ⟨rfl, Below.refl _ _⟩

theorem walkFnExactSignCounts (a0 : ByteArray) (_w0 : a0.size ≤ maxLen) (w : World) :
    Calls Try.prog 8 #[.string a0] w fun e w' => e = .returned (.bool true) ∧ Below w.heap.size w w' := by
  by_cases hs : a0.size ≤ 1048576
  · obtain ⟨t, HT⟩ : ∃ t, Hid (alikeB a0 = t) := ⟨_, Lib.hid rfl⟩
    obtain ⟨x, y, z, HX⟩ : ∃ x y z : Nat, Hid (cntP t.data.toList t.size = x ∧ cntH t.data.toList t.size = y ∧ cntS t.data.toList t.size = z) := ⟨_, _, _, Lib.hid ⟨rfl, rfl, rfl⟩⟩
    have c1 := specSignCounts_is a0 t w hs HT.out
    have c2 := fun w => implSignCounts_is a0 t w hs HT.out
    rw [HX.out.1, HX.out.2.1, HX.out.2.2] at c1
    simp only [HX.out.1, HX.out.2.1, HX.out.2.2] at c2
    go_enter Try.func8, Try.ntmps8
    go_wp2_with fail
    refine c1.mono ?_
    rintro e w1 ⟨rfl, hb1⟩
    go_wp2_with fail
    refine (c2 _).mono ?_
    rintro e w2 ⟨rfl, hb2⟩
    go_wp2
    go_ret
    exact ⟨rfl, hb1.trans (hb2.mono hb1.size)⟩
  · have h2 : (1048576 : Int) < (a0.size : Int) := by omega
    go_enter Try.func8, Try.ntmps8
    go_wp2
    go_ret
    exact ⟨rfl, Below.refl _ _⟩

theorem walkFnExactSameAlike (a0 a1 : ByteArray) (_w0 : a0.size ≤ maxLen) (_w1 : a1.size ≤ maxLen) (w : World) :
    Calls Try.prog 6 #[.string a0, .string a1] w fun e w' => e = .returned (.bool true) ∧ Below w.heap.size w w' := by
  by_cases hs : a0.size ≤ 1048576
  · by_cases ht : a1.size ≤ 1048576
    · go_enter Try.func6, Try.ntmps6
      go_wp2_with fail
      refine (specSameAlike_any _ _ _ hs ht).mono ?_
      rintro e w1 ⟨rfl, hb1⟩
      go_wp2_with fail
      refine (implSameAlike_any _ _ _ hs ht).mono ?_
      rintro e w2 ⟨rfl, hb2⟩
      go_wp2
      go_ret
      exact ⟨rfl, hb1.trans (hb2.mono hb1.size)⟩
    · have h1 : (a0.size : Int) ≤ 1048576 := by omega
      have h2 : (1048576 : Int) < (a1.size : Int) := by omega
      go_enter Try.func6, Try.ntmps6
      go_wp2
      go_ret
      exact ⟨rfl, Below.refl _ _⟩
  · have h2 : (1048576 : Int) < (a0.size : Int) := by omega
    go_enter Try.func6, Try.ntmps6
    go_wp2
    go_ret
    exact ⟨rfl, Below.refl _ _⟩

theorem walkFnExactSpanBack (a0 : ByteArray) (a1 a2 : Int) (_w0 : a0.size ≤ maxLen) (_w1 : (Lit.int .i64 a1).wf = true) (_w2 : (Lit.int .i64 a2).wf = true) (w : World) :
    Calls Try.prog 7 #[.string a0, .int .i64 a1, .int .i64 a2] w fun e w' => e = .returned (.bool true) ∧ Below w.heap.size w w' := by
  by_cases hs : a0.size ≤ 1048576
  · have hc : ∃ p q : Int, ∃ b : Bool, (∀ w, Calls Try.prog 20 #[.string a0, .int .i64 a1, .int .i64 a2] w fun e w' => e = .returned (.tuple #[.int .i64 p, .int .i64 q, .bool b]) ∧ Below w.heap.size w w') ∧
        (∀ w, Calls Try.prog 21 #[.string a0, .int .i64 a1, .int .i64 a2] w fun e w' => e = .returned (.tuple #[.int .i64 p, .int .i64 q, .bool b]) ∧ Below w.heap.size w w') := by
      by_cases h : a1 < 0 ∨ ((alikeP a0.data.toList).length : Int) < a2 ∨ a2 ≤ a1
      · exact ⟨0, 0, false, fun w => specSpanBack_no a0 a1 a2 w hs h, fun w => implSpanBack_no a0 a1 a2 w hs h⟩
      · obtain ⟨x, rfl⟩ : ∃ x : Nat, a1 = x := ⟨a1.toNat, by omega⟩
        obtain ⟨y, rfl⟩ : ∃ y : Nat, a2 = y + 1 := ⟨(a2 - 1).toNat, by omega⟩
        exact ⟨_, _, _, fun w => specSpanBack_yes a0 x y w hs (by omega) (by omega), fun w => implSpanBack_yes a0 x y w hs (by omega) (by omega)⟩
    obtain ⟨p, q, b, c1, c2⟩ := hc
    go_enter Try.func7, Try.ntmps7
    go_wp2_with fail
    refine (c1 _).mono ?_
    rintro e w1 ⟨rfl, hb1⟩
    go_wp2_with fail
    refine (c2 _).mono ?_
    rintro e w2 ⟨rfl, hb2⟩
    go_wp2
    go_ret
    exact ⟨rfl, hb1.trans (hb2.mono hb1.size)⟩
  · have h2 : (1048576 : Int) < (a0.size : Int) := by omega
    go_enter Try.func7, Try.ntmps7
    go_wp2
    go_ret
    exact ⟨rfl, Below.refl _ _⟩

set_option maxHeartbeats 2000000 in
theorem walkFnExactAlike (a0 : ByteArray) (_w0 : a0.size ≤ maxLen) (w : World) :
    Calls Try.prog 4 #[.string a0] w fun e w' => e = .returned (.bool true) ∧ Below w.heap.size w w' := by
  by_cases hs : a0.size ≤ 1048576
  · obtain ⟨P, hP⟩ : ∃ P, alikeP a0.data.toList = P := ⟨_, rfl⟩
    have hPl : P.length < 1099511627776 := by
      have := alikeT_len a0.data.toList
      have e : a0.data.toList.length = a0.size := rfl
      rw [hP] at this
      omega
    have c1 := fun w => specAlike_any a0 w hs
    have c2 := fun w => implAlike_any a0 w hs
    simp only [hP] at c1 c2
    clear hP
    go_enter Try.func4, Try.ntmps4
    go_wp2_with fail
    refine (c1 _).mono ?_
    rintro e w1 ⟨a, n, c, rfl, hown1, hb1⟩
    go_wp2_with fail
    refine (c2 _).mono ?_
    rintro e w2 ⟨a2, n2, c2', rfl, hown2, hb2⟩
    obtain ⟨rfl, hat1⟩ := intsAt_own hown1
    obtain ⟨rfl, hat2⟩ := intsAt_own hown2
    have hown12 := ownsRow_below hown1 hb2
    clear hat1 hat2
    go_wp2_with fail
    refine (eqIntS_same _ _ _ _ P _ hPl (intsAt_own hown2).2 (intsAt_own hown12).2).mono ?_
    rintro e w3 ⟨rfl, q, rfl⟩
    have hown23 : (w2.drewN q).ownsRow w1.heap.size 3 1 (.slice a2 P.length c2') P.length (intCells P) := hown2
    go_wp2_with fail
    refine (markIntS_any _ _ _ _ P 1 _ hown23 hPl (by omega) (by omega)).mono ?_
    rintro e w4 ⟨rfl, hown24, hg4⟩
    have hown14 : w4.ownsRow w.heap.size 3 1 (.slice a P.length c) P.length (intCells P) :=
      ownsRow_older hown1 (show (w2.drewN q).ownsRow w.heap.size 3 1 (.slice a P.length c) P.length (intCells P) from hown12) hown23 (Nat.le_refl _) hg4
    have hb4 : Below w.heap.size w w4 := below_grown_own (below_drewN' (hb1.trans (hb2.mono hb1.size)) q) hown23 hg4 hb1.size (by have := hb1.size; have := hb2.size; simp; omega)
    clear hown12 hown23 hg4 hb2 hb1 hown1 hown2
    go_wp2_with fail
    refine (heldIntS_any _ _ _ 1 _ (intsAt_own hown24).2 hPl (by omega) (by omega)).mono ?_
    rintro e w5 ⟨rfl, rfl⟩
    have t1 : ¬ (1 : Int) + P.length < 0 := by omega
    go_wp2_with fail
    refine (c2 _).mono ?_
    rintro e w6 ⟨a3, n3, c3, rfl, hown3, hb6⟩
    obtain ⟨rfl, _⟩ := intsAt_own hown3
    have hown16 := ownsRow_below hown14 hb6
    have hown26 := ownsRow_below hown24 hb6
    have hb7 : Below w.heap.size w w6 := hb4.trans (hb6.mono hb4.size)
    clear hown14 hown24 hb6 hb4
    go_wp2_with fail
    refine (eqIntS_same _ _ _ _ P _ hPl (intsAt_own hown3).2 (intsAt_own hown16).2).mono ?_
    rintro e w8 ⟨rfl, q8, rfl⟩
    go_wp2_with fail
    refine (heldIntS_any _ _ _ 1 (w6.drewN q8) ((intsAt_own hown26).2.same (fun _ => rfl)) hPl (by omega) (by omega)).mono ?_
    rintro e w9 ⟨rfl, rfl⟩
    go_wp2
    go_ret
    exact ⟨rfl, below_drewN' hb7 q8⟩
  · have h2 : (1048576 : Int) < (a0.size : Int) := by omega
    go_enter Try.func4, Try.ntmps4
    go_wp2
    go_ret
    exact ⟨rfl, Below.refl _ _⟩

end Go.Proofs.Ytdlemobjpiddjaa
