/-
  The walks of chapter 1's main theorems over whatever texts: each returns true, and nothing that was there is written. No conditions.
-/
import Derived.Test.YtnbogoklmjnneaaAlikeCalls
import Derived.Test.YtnbogoklmjnneaaSignCounts
import Derived.Test.YtnbogoklmjnneaaMathTidy
import Derived.Test.YtnbogoklmjnneaaHelpA
namespace Go.Proofs.Ytnbogoklmjnneaa
open Go.RowKit

set_option maxHeartbeats 1000000 in
/-- The part of the law that both its forms have: at a text t that is made alike. -/
theorem walkFnAnyAlikeAgain (a0 : ByteArray) (_w0 : a0.size ≤ maxLen) (w : World) :
    Calls Try.prog 11 #[.string a0] w fun e w' => e = .returned (.bool true) ∧ Below w.heap.size w w' := by
  by_cases hs : a0.size ≤ 1000
  · have hb0 : decide ((1000 : Int) < a0.size) = false := by simp; omega
    obtain ⟨t, HT⟩ : ∃ t, Hid (alikeB a0 = t) := ⟨_, Lib.hid rfl⟩
    have hts : t.size ≤ 1000 := by have := alikeB_size a0; rw [HT.out] at this; omega
    have hag : alikeB t = t := by rw [← HT.out]; exact alikeB_again a0
    have hpl : alikeP t.data.toList = idx t.size := by
      have := (alike_again a0.data.toList).2
      rw [← alikeB_list, HT.out] at this
      exact this
    have c2 := fun w => implAlike_is t t w (by omega) hag
    simp only [hpl] at c2
    have c3 : ∀ w, Calls Try.prog 23 #[.string t] w fun e w' => e = .returned (.bool true) ∧ Below w.heap.size w w' := fun w => by
      have := implIsAlike_any t w (by omega)
      rw [hag] at this
      simpa using this
    have c4 : ∀ w, Calls Try.prog 23 #[.string a0] w fun e w' => e = .returned (.bool (t.toList == a0.toList)) ∧ Below w.heap.size w w' := fun w => by
      have := implIsAlike_any a0 w (by omega)
      rwa [HT.out] at this
    clear hag hpl
    go_enter Try.func11, Try.ntmps11
    go_wp2_with (go_at_call 35; refine (bigText_is false _ _ _ hb0).mono ?_; rintro e w' ⟨rfl, rfl⟩)
    refine (implAlike_is a0 t _ (by omega) HT.out).mono ?_
    rintro e w1 ⟨a, n, c, rfl, _, hb1⟩
    go_wp2_with fail
    refine (c2 _).mono ?_
    rintro e w2 ⟨a2, n2, c2', rfl, hown2, hb2⟩
    obtain ⟨hn2, hat⟩ := intsAt_own hown2
    rw [idx_len] at hn2
    subst hn2
    go_wp2_with fail
    refine (c3 _).mono ?_
    rintro e w3 ⟨rfl, hb3⟩
    have hat3 := (intsAt_own (ownsRow_below hown2 hb3)).2
    have hb : Below w.heap.size w w3 := (hb1.trans (hb2.mono hb1.size)).trans (hb3.mono (by have := hb1.size; have := hb2.size; omega))
    clear hat hown2 hb1 hb2 hb3
    go_wp2
    go_loop [7] (fun i => ∃ k : Nat, k ≤ t.size ∧ i = .int .i64 k) (fun i => t.size - (intOf i).toNat)
    case atStart => exact ⟨0, Nat.zero_le _, rfl⟩
    case round =>
      obtain ⟨k, hk, rfl⟩ := hrel
      by_cases hlt : k < t.size
      · obtain ⟨b, o, rfl, hc⟩ := hat3.spot (fun e => by have := idx_len t.size; rw [e] at this; simp at this; omega)
        have g1 := hc k (by rw [idx_len]; exact hlt)
        rw [idx_get _ _ hlt] at g1
        clear hc hat3
        go_wp2
        go_round
        case rel => exact ⟨k + 1, by omega, by go_num⟩
        case measure => simp [intOf]; omega
      · clear hat3
        go_wp2_with fail
        refine (c4 _).mono ?_
        rintro e w4 ⟨rfl, hb4⟩
        go_wp2_with fail
        refine (alive_any _).mono ?_
        rintro e w5 ⟨rfl, rfl⟩
        go_wp2
        go_ret
        exact ⟨rfl, hb.trans (hb4.mono hb.size)⟩
  · have hb0 : decide ((1000 : Int) < a0.size) = true := by simp; omega
    go_enter Try.func11, Try.ntmps11
    go_wp2_with (first
      | (go_at_call 35; refine (bigText_is true _ _ _ hb0).mono ?_; rintro e w' ⟨rfl, rfl⟩)
      | (go_at_call 16; refine (alive_any _).mono ?_; rintro e w' ⟨rfl, rfl⟩))
    go_ret
    exact ⟨rfl, Below.refl _ _⟩

set_option maxHeartbeats 2000000 in
theorem walkFnAnyAlikeJoin (a0 a1 a2 : ByteArray) (_w0 : a0.size ≤ maxLen) (_w1 : a1.size ≤ maxLen) (_w2 : a2.size ≤ maxLen) (w : World) :
    Calls Try.prog 12 #[.string a0, .string a1, .string a2] w fun e w' => e = .returned (.bool true) ∧ Below w.heap.size w w' := by
  by_cases hs0 : a0.size ≤ 1000
  · have hb0 : decide ((1000 : Int) < a0.size) = false := by simp; omega
    by_cases hs1 : a1.size ≤ 1000
    · have hb1 : decide ((1000 : Int) < a1.size) = false := by simp; omega
      by_cases hs2 : a2.size ≤ 1000
      · have hb2 : decide ((1000 : Int) < a2.size) = false := by simp; omega
        go_enter Try.func12, Try.ntmps12
        go_wp2_with fail
        refine (bigText_is false _ _ _ hb0).mono ?_
        rintro e w' ⟨rfl, rfl⟩
        go_wp2_with fail
        refine (bigText_is false _ _ _ hb1).mono ?_
        rintro e w' ⟨rfl, rfl⟩
        go_wp2_with fail
        refine (bigText_is false _ _ _ hb2).mono ?_
        rintro e w' ⟨rfl, rfl⟩
        obtain ⟨L, HL⟩ : ∃ t, Hid (alikeB (a0 ++ a1 ++ a2) = t) := ⟨_, Lib.hid rfl⟩
        obtain ⟨X, HX⟩ : ∃ t, Hid (alikeB a0 = t) := ⟨_, Lib.hid rfl⟩
        obtain ⟨Y, HY⟩ : ∃ t, Hid (alikeB a2 = t) := ⟨_, Lib.hid rfl⟩
        obtain ⟨G, HG⟩ : ∃ t, Hid (alikeB a1 = t) := ⟨_, Lib.hid rfl⟩
        have hsx : X.size ≤ 1000 := by have := alikeB_size a0; rw [HX.out] at this; omega
        have hsy : Y.size ≤ 1000 := by have := alikeB_size a2; rw [HY.out] at this; omega
        go_wp2_with fail
        refine (implAlike_is _ L _ (by simp; omega) HL.out).mono ?_
        rintro e w1 ⟨a, n, c, rfl, _, hc1⟩
        go_wp2_with fail
        refine (implAlike_is _ X _ (by omega) HX.out).mono ?_
        rintro e w2 ⟨a, n, c, rfl, _, hc2⟩
        go_wp2_with fail
        refine (implAlike_is _ Y _ (by omega) HY.out).mono ?_
        rintro e w3 ⟨a, n, c, rfl, _, hc3⟩
        go_wp2_with fail
        refine (implAlike_is _ G _ (by omega) HG.out).mono ?_
        rintro e w4 ⟨a, n, c, rfl, _, hc4⟩
        have hb : Below w.heap.size w w4 := ((hc1.trans (hc2.mono hc1.size)).trans (hc3.mono (by have := hc1.size; have := hc2.size; omega))).trans (hc4.mono (by have := hc1.size; have := hc2.size; have := hc3.size; omega))
        clear hc1 hc2 hc3 hc4
        have J1 := Lib.hid (joinB_both HG.out HX.out HY.out HL.out)
        have J2 := Lib.hid (joinB_one HG.out HX.out HY.out HL.out)
        go_wp2_with fail
        all_goals first
          | (refine (alive_any _).mono ?_; rintro e w5 ⟨rfl, rfl⟩; go_wp2; go_ret; exact ⟨rfl, hb⟩)
          | exact absurd (J1.out (by assumption) (by assumption) (by assumption)) (by assumption)
          | exact absurd (J2.out (by assumption) (by assumption) (by assumption)) (by assumption)
          | exact absurd (J2.out (by assumption) (by assumption) (Or.inl (by rw [‹X.toList = []›]; rfl))) (by assumption)
      · have hb2 : decide ((1000 : Int) < a2.size) = true := by simp; omega
        go_enter Try.func12, Try.ntmps12
        go_wp2_with fail
        refine (bigText_is false _ _ _ hb0).mono ?_
        rintro e w' ⟨rfl, rfl⟩
        go_wp2_with fail
        refine (bigText_is false _ _ _ hb1).mono ?_
        rintro e w' ⟨rfl, rfl⟩
        go_wp2_with fail
        refine (bigText_is true _ _ _ hb2).mono ?_
        rintro e w' ⟨rfl, rfl⟩
        go_wp2_with fail
        refine (alive_any _).mono ?_
        rintro e w5 ⟨rfl, rfl⟩
        go_wp2
        go_ret
        exact ⟨rfl, Below.refl _ _⟩
    · have hb1 : decide ((1000 : Int) < a1.size) = true := by simp; omega
      go_enter Try.func12, Try.ntmps12
      go_wp2_with fail
      refine (bigText_is false _ _ _ hb0).mono ?_
      rintro e w' ⟨rfl, rfl⟩
      go_wp2_with fail
      refine (bigText_is true _ _ _ hb1).mono ?_
      rintro e w' ⟨rfl, rfl⟩
      go_wp2_with fail
      refine (alive_any _).mono ?_
      rintro e w5 ⟨rfl, rfl⟩
      go_wp2
      go_ret
      exact ⟨rfl, Below.refl _ _⟩
  · have hb0 : decide ((1000 : Int) < a0.size) = true := by simp; omega
    go_enter Try.func12, Try.ntmps12
    go_wp2_with fail
    refine (bigText_is true _ _ _ hb0).mono ?_
    rintro e w' ⟨rfl, rfl⟩
    go_wp2_with fail
    refine (alive_any _).mono ?_
    rintro e w5 ⟨rfl, rfl⟩
    go_wp2
    go_ret
    exact ⟨rfl, Below.refl _ _⟩

end Go.Proofs.Ytnbogoklmjnneaa
