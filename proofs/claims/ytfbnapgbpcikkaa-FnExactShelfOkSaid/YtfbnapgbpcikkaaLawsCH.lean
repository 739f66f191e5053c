/-
  The walk of chapter 5's exact law ShelfOk: it returns true, and nothing that was there is written. No conditions.
-/
import Derived.Test.YtfbnapgbpcikkaaLawsCG
namespace Go.Proofs.Ytfbnapgbpcikkaa
open Go.RowKit

set_option maxHeartbeats 4000000 in
theorem walkFnExactShelfOk (a0 : Option Addr) (n0 c0 : Nat) (l0 : List (En)) (w : World) (wi0 : n0 = l0.length ∧ n0 ≤ c0 ∧ c0 ≤ maxLen ∧ (∀ x ∈ l0, (Lit.int .i64 x.1).wf = true ∧ (Lit.int .i64 x.2.1).wf = true ∧ (Lit.int .i64 x.2.2).wf = true) ∧ CellsAt w a0 (entsC l0)) :
    Calls Try.prog 4 #[.slice a0 n0 c0] w fun e w' => e = .returned (.bool true) ∧ Below w.heap.size w w' := by
  obtain ⟨hn0, hc0, hx0, hok0, hat0⟩ := wi0
  have HN0 := Lib.hid hn0
  have hm0 : n0 ≤ maxLen := Nat.le_trans hc0 hx0
  obtain ⟨r, hr⟩ : ∃ r : Bool, r = true ↔ shOk l0 := by
    by_cases h : shOk l0
    · exact ⟨true, fun _ => h, fun _ => rfl⟩
    · exact ⟨false, (fun e => absurd e (by decide)), (fun e => absurd e h)⟩
  have HRr := Lib.hid hr
  have HAT := Lib.hid hat0
  clear hn0 hc0 hx0 hr hat0 hok0
  go_enter Try.func4, Try.ntmps4
  go_wp2_with fail
  refine (szEntryS_any _ _ _ 1048576 _ (by omega) hm0).mono ?_
  rintro e w1 ⟨⟨r0, rfl, hr0⟩, rfl⟩
  by_cases hz0 : r0 < 0
  · clear hr0
    go_wp2
    go_ret
    exact ⟨rfl, Below.refl _ _⟩
  have hn9 : n0 ≤ 1048576 := by have h := hr0.resolve_left hz0; omega
  clear hr0
  go_wp2_with fail
  refine (toEntryS_any l0 _ _ _ _ HN0.out hn9 HAT.out).mono ?_
  rintro e w2 ⟨b2, rfl, o2⟩
  go_wp2_with fail
  refine (specShelfOk_is r l0 _ _ _ _ HRr.out HN0.out (by omega) o2.at_).mono ?_
  rintro e w3 ⟨rfl, hb3⟩
  have B3 : Below w.heap.size w w3 := o2.below.trans (hb3.mono o2.below.size)
  clear o2 hb3
  go_wp2_with fail
  refine (toEntryS_any l0 _ _ _ _ HN0.out hn9 (HAT.out.below B3)).mono ?_
  rintro e w4 ⟨b4, rfl, o4⟩
  go_wp2_with fail
  refine (implShelfOk_is r l0 _ _ _ _ HRr.out HN0.out (by omega) o4.at_).mono ?_
  rintro e w5 ⟨rfl, hb5⟩
  have B5 : Below w.heap.size w w5 := (B3.trans (o4.below.mono B3.size)).trans (hb5.mono (B3.trans (o4.below.mono B3.size)).size)
  have A5 := o4.at_.below hb5
  clear o4 hb5 B3
  have t1 : (r == r) = true := beq_self_eq_true _
  have t2 : (r != r) = false := by rw [bne, t1]; rfl
  go_wp2_with fail
  refine (toEntryS_any l0 _ _ _ _ HN0.out hn9 (HAT.out.below B5)).mono ?_
  rintro e w6 ⟨b6, rfl, o6⟩
  have B6 : Below w.heap.size w w6 := B5.trans (o6.below.mono B5.size)
  go_wp2_with fail
  refine (eqEntryS_same _ _ _ _ _ l0 _ HN0.out (by omega) (A5.below o6.below) o6.at_).mono ?_
  rintro e w7 ⟨rfl, hb7⟩
  have B7 := B6.trans (hb7.mono B6.size)
  go_wp2
  go_ret
  exact ⟨rfl, B7⟩

end Go.Proofs.Ytfbnapgbpcikkaa
