/-
  The walks of chapter 1's laws over drawn texts: each returns true, and nothing that was there is written. No conditions.
-/
import Derived.Test.YtnbogoklmjnneaaLawsTA
import Derived.Test.YtnbogoklmjnneaaDrawA
import Derived.Test.YtnbogoklmjnneaaHelpS
import Derived.Test.YtnbogoklmjnneaaMathPlaces
namespace Go.Proofs.Ytnbogoklmjnneaa
open Go.RowKit

set_option maxHeartbeats 1000000 in
theorem walkFnAlikeAgain (a : Option Addr) (len cap : Nat) (zs : List Int) (w : World) (h : IsRowK .u8 w a len cap zs) :
    Calls Try.prog 5 #[.slice a len cap] w fun e w' => e = .returned (.bool true) ∧ Below w.heap.size w w' := by
  by_cases hs : len ≤ 1048576
  · go_enter Try.func5, Try.ntmps5
    go_wp2_with fail
    refine (DrawIsAlike_any _ _ _ _ _ h).mono ?_
    rintro e w0 ⟨a0, hs, rfl, hb0⟩
    clear h
    obtain ⟨t, HT⟩ : ∃ t, Hid (alikeB a0 = t) := ⟨_, Lib.hid rfl⟩
    have hts : t.size ≤ 1000 := by have := alikeB_size a0; rw [HT.out] at this; omega
    have hag : alikeB t = t := by rw [← HT.out]; exact alikeB_again a0
    have hpl : alikeP t.data.toList = idx t.size := by
      have := (alike_again a0.data.toList).2
      rw [← alikeB_list, HT.out] at this
      exact this
    have c2 := fun w => implAlike_is t t w (by omega) hag
    simp only [hpl] at c2
    have c3 : ∀ w, Calls Try.prog 23 #[.string t] w fun e w' => e = .returned (.bool true) ∧ Below w.heap.size w w' := fun w => by
      have := implIsAlike_any t w (by omega)
      rw [hag] at this
      simpa using this
    have c4 : ∀ w, Calls Try.prog 23 #[.string a0] w fun e w' => e = .returned (.bool (t.toList == a0.toList)) ∧ Below w.heap.size w w' := fun w => by
      have := implIsAlike_any a0 w (by omega)
      rwa [HT.out] at this
    clear hag hpl
    go_wp2_with fail
    refine (implAlike_is a0 t _ (by omega) HT.out).mono ?_
    rintro e w1 ⟨a, n, c, rfl, _, hb1⟩
    go_wp2_with fail
    refine (c2 _).mono ?_
    rintro e w2 ⟨a2, n2, c2', rfl, hown2, hb2⟩
    obtain ⟨hn2, hat⟩ := intsAt_own hown2
    rw [idx_len] at hn2
    subst hn2
    go_wp2_with fail
    refine (c3 _).mono ?_
    rintro e w3 ⟨rfl, hb3⟩
    have hat3 := (intsAt_own (ownsRow_below hown2 hb3)).2
    have hb : Below w.heap.size w w3 := (hb0.trans (hb1.mono hb0.size)).trans ((hb2.trans (hb3.mono hb2.size)).mono (by have := hb0.size; have := hb1.size; omega))
    clear hat hown2 hb0 hb1 hb2 hb3
    go_wp2
    go_loop [8] (fun i => ∃ k : Nat, k ≤ t.size ∧ i = .int .i64 k) (fun i => t.size - (intOf i).toNat)
    case atStart => exact ⟨0, Nat.zero_le _, rfl⟩
    case round =>
      obtain ⟨k, hk, rfl⟩ := hrel
      by_cases hlt : k < t.size
      · obtain ⟨b, o, rfl, hc⟩ := hat3.spot (fun e => by have := idx_len t.size; rw [e] at this; simp at this; omega)
        have g1 := hc k (by rw [idx_len]; exact hlt)
        rw [idx_get _ _ hlt] at g1
        clear hc hat3
        go_wp2
        go_round
        case rel => exact ⟨k + 1, by omega, by go_num⟩
        case measure => simp [intOf]; omega
      · clear hat3
        go_wp2_with fail
        refine (c4 _).mono ?_
        rintro e w4 ⟨rfl, hb4⟩
        go_wp2_with fail
        refine (alive_any _).mono ?_
        rintro e w5 ⟨rfl, rfl⟩
        go_wp2
        go_ret
        exact ⟨rfl, hb.trans (hb4.mono hb.size)⟩
  · have h2 : (1048576 : Int) < (len : Int) := by omega
    go_enter Try.func5, Try.ntmps5
    go_wp2
    go_ret
    exact ⟨rfl, Below.refl _ _⟩

set_option maxHeartbeats 2000000 in
theorem walkFnAlikeJoin (a : Option Addr) (len cap : Nat) (zs : List Int) (w : World) (h : IsRowK .u8 w a len cap zs) :
    Calls Try.prog 8 #[.slice a len cap] w fun e w' => e = .returned (.bool true) ∧ Below w.heap.size w w' := by
  by_cases hs : len ≤ 1048576
  · go_enter Try.func8, Try.ntmps8
    go_wp2_with fail
    refine (DrawAlikeJoin_any _ _ _ _ _ h).mono ?_
    rintro e w0 ⟨a0, a1, a2, hs0, hs1, hs2, rfl, hb0⟩
    clear h
    obtain ⟨L, HL⟩ : ∃ t, Hid (alikeB (a0 ++ a1 ++ a2) = t) := ⟨_, Lib.hid rfl⟩
    obtain ⟨X, HX⟩ : ∃ t, Hid (alikeB a0 = t) := ⟨_, Lib.hid rfl⟩
    obtain ⟨Y, HY⟩ : ∃ t, Hid (alikeB a2 = t) := ⟨_, Lib.hid rfl⟩
    obtain ⟨G, HG⟩ : ∃ t, Hid (alikeB a1 = t) := ⟨_, Lib.hid rfl⟩
    have hsx : X.size ≤ 1000 := by have := alikeB_size a0; rw [HX.out] at this; omega
    have hsy : Y.size ≤ 1000 := by have := alikeB_size a2; rw [HY.out] at this; omega
    go_wp2_with fail
    refine (implAlike_is _ L _ (by simp; omega) HL.out).mono ?_
    rintro e w1 ⟨a, n, c, rfl, _, hc1⟩
    go_wp2_with fail
    refine (implAlike_is _ X _ (by omega) HX.out).mono ?_
    rintro e w2 ⟨a, n, c, rfl, _, hc2⟩
    go_wp2_with fail
    refine (implAlike_is _ Y _ (by omega) HY.out).mono ?_
    rintro e w3 ⟨a, n, c, rfl, _, hc3⟩
    go_wp2_with fail
    refine (implAlike_is _ G _ (by omega) HG.out).mono ?_
    rintro e w4 ⟨a, n, c, rfl, _, hc4⟩
    have hb : Below w.heap.size w w4 := hb0.trans (Below.mono (((hc1.trans (hc2.mono hc1.size)).trans (hc3.mono (by have := hc1.size; have := hc2.size; omega))).trans (hc4.mono (by have := hc1.size; have := hc2.size; have := hc3.size; omega))) hb0.size)
    clear hb0 hc1 hc2 hc3 hc4
    have J1 := Lib.hid (joinB_both HG.out HX.out HY.out HL.out)
    have J2 := Lib.hid (joinB_one HG.out HX.out HY.out HL.out)
    go_wp2_with fail
    all_goals first
      | (refine (alive_any _).mono ?_; rintro e w5 ⟨rfl, rfl⟩; go_wp2; go_ret; exact ⟨rfl, hb⟩)
      | exact absurd (J1.out (by assumption) (by assumption) (by assumption)) (by assumption)
      | exact absurd (J2.out (by assumption) (by assumption) (by assumption)) (by assumption)
      | exact absurd (J2.out (by assumption) (by assumption) (Or.inl (by rw [‹X.toList = []›]; rfl))) (by assumption)
  · have h2 : (1048576 : Int) < (len : Int) := by omega
    go_enter Try.func8, Try.ntmps8
    go_wp2
    go_ret
    exact ⟨rfl, Below.refl _ _⟩

theorem walkFnSignCounts (a : Option Addr) (len cap : Nat) (zs : List Int) (w : World) (h : IsRowK .u8 w a len cap zs) :
    Calls Try.prog 10 #[.slice a len cap] w fun e w' => e = .returned (.bool true) ∧ Below w.heap.size w w' := by
  by_cases hs : len ≤ 1048576
  · go_enter Try.func10, Try.ntmps10
    go_wp2_with fail
    refine (DrawSignCounts_any _ _ _ _ _ h).mono ?_
    rintro e w0 ⟨a0, hs, rfl, hb0⟩
    clear h
    obtain ⟨t, HT⟩ : ∃ t, Hid (alikeB a0 = t) := ⟨_, Lib.hid rfl⟩
    obtain ⟨x, y, z, HX⟩ : ∃ x y z : Nat, Hid (cntP t.data.toList t.size = x ∧ cntH t.data.toList t.size = y ∧ cntS t.data.toList t.size = z) := ⟨_, _, _, Lib.hid ⟨rfl, rfl, rfl⟩⟩
    have hts : t.size ≤ 1000 := by have := alikeB_size a0; rw [HT.out] at this; omega
    have hsum := cnt_sum t.data.toList t.size
    rw [HX.out.1, HX.out.2.1, HX.out.2.2] at hsum
    have c1 := fun w => specSignCounts_is a0 t w (by omega) HT.out
    have c2 := fun w => implSignCounts_is a0 t w (by omega) HT.out
    simp only [HX.out.1, HX.out.2.1, HX.out.2.2] at c1 c2
    go_wp2_with fail
    refine (c2 _).mono ?_
    rintro e w1 ⟨rfl, hb1⟩
    go_wp2_with fail
    refine (c1 _).mono ?_
    rintro e w2 ⟨rfl, hb2⟩
    go_wp2_with fail
    refine (implAlike_is a0 t _ (by omega) HT.out).mono ?_
    rintro e w3 ⟨a3, n3, c3, rfl, _, hb3⟩
    have hb : Below w.heap.size w w3 := (hb0.trans (hb1.mono hb0.size)).trans ((hb2.trans (hb3.mono hb2.size)).mono (by have := hb0.size; have := hb1.size; omega))
    clear hb0 hb1 hb2 hb3
    have t1 : (((x : Int) + y + z) == (t.size : Int)) = true := by simp; omega
    go_wp2_with fail
    refine (alive_any _).mono ?_
    rintro e w5 ⟨rfl, rfl⟩
    go_wp2
    go_ret
    exact ⟨rfl, hb⟩
  · have h2 : (1048576 : Int) < (len : Int) := by omega
    go_enter Try.func10, Try.ntmps10
    go_wp2
    go_ret
    exact ⟨rfl, Below.refl _ _⟩

end Go.Proofs.Ytnbogoklmjnneaa
