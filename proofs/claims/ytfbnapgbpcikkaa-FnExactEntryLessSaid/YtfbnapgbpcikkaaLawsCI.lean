/-
  The walk of chapter 5's exact law EntryLess: it returns true, and nothing that was there is written. No conditions.
-/
import Derived.Test.YtfbnapgbpcikkaaLawsCG
namespace Go.Proofs.Ytfbnapgbpcikkaa
open Go.RowKit

theorem below_go {B : Nat} {w1 W0 w' : World} (h : Below B w1 W0) (k : Below W0.heap.size W0 w') (hB : B ≤ w1.heap.size) : Below B w1 w' := h.trans (k.mono (Nat.le_trans hB h.size))

set_option maxHeartbeats 8000000 in
theorem walkFnExactEntryLess (a b c d e f : Int) (w : World) (_w0 : (Lit.int .i64 a).wf = true) (_w1 : (Lit.int .i64 b).wf = true) (_w2 : (Lit.int .i64 c).wf = true) (_w3 : (Lit.int .i64 d).wf = true) (_w4 : (Lit.int .i64 e).wf = true) (_w5 : (Lit.int .i64 f).wf = true) :
    Calls Try.prog 3 #[.agg #[.int .i64 a, .int .i64 b, .int .i64 c], .agg #[.int .i64 d, .int .i64 e, .int .i64 f]] w fun r w' => r = .returned (.bool true) ∧ Below w.heap.size w w' := by
  obtain ⟨r, hr⟩ : ∃ r : Bool, r = true ↔ enLt (a, b, c) (d, e, f) := by
    by_cases h : enLt (a, b, c) (d, e, f)
    · exact ⟨true, fun _ => h, fun _ => rfl⟩
    · exact ⟨false, (fun e => absurd e (by decide)), (fun e => absurd e h)⟩
  have c1 := fun w => specLess_is r a b c d e f w hr
  have c2 := fun w => implLess_is r a b c d e f w hr
  have t1 : (r == r) = true := beq_self_eq_true _
  have t2 : (r != r) = false := by rw [bne, t1]; rfl
  have hB := Lib.hid (below_alloc2 w (.cells #[.int .i64 a, .int .i64 b, .int .i64 c] 23) (.cells #[.int .i64 d, .int .i64 e, .int .i64 f] 23))
  obtain ⟨gx, hgx⟩ : ∃ gx, w.heap.size = gx := ⟨_, rfl⟩
  have hS : (fun w' : World => ((w'.cell? ⟨gx, 0, none⟩ = some (.int .i64 a) ∧ w'.cell? ⟨gx, 1, none⟩ = some (.int .i64 b) ∧ w'.cell? ⟨gx, 2, none⟩ = some (.int .i64 c)) ∧ w'.cell? ⟨gx + 1, 0, none⟩ = some (.int .i64 d) ∧ w'.cell? ⟨gx + 1, 1, none⟩ = some (.int .i64 e) ∧ w'.cell? ⟨gx + 1, 2, none⟩ = some (.int .i64 f))) ((w.alloc (.cells #[.int .i64 a, .int .i64 b, .int .i64 c] 23)).alloc (.cells #[.int .i64 d, .int .i64 e, .int .i64 f] 23)) := by
    subst hgx
    have k1 := heap_alloc_new w (.cells #[.int .i64 a, .int .i64 b, .int .i64 c] 23)
    have k2 := heap_alloc_old (w.alloc (.cells #[.int .i64 a, .int .i64 b, .int .i64 c] 23)) (.cells #[.int .i64 d, .int .i64 e, .int .i64 f] 23) (r := w.heap.size) (by simp)
    have k3 := heap_alloc_new (w.alloc (.cells #[.int .i64 a, .int .i64 b, .int .i64 c] 23)) (.cells #[.int .i64 d, .int .i64 e, .int .i64 f] 23)
    rw [show (w.alloc (.cells #[.int .i64 a, .int .i64 b, .int .i64 c] 23)).heap.size = w.heap.size + 1 by simp] at k3
    exact ⟨⟨cell_of_row _ _ 0 _ _ (0, 0) (k2.trans k1), cell_of_row _ _ 1 _ _ (0, 0) (k2.trans k1), cell_of_row _ _ 2 _ _ (0, 0) (k2.trans k1)⟩, cell_of_row _ _ 0 _ _ (0, 0) k3, cell_of_row _ _ 1 _ _ (0, 0) k3, cell_of_row _ _ 2 _ _ (0, 0) k3⟩
  have hsz : gx + 1 < ((w.alloc (.cells #[.int .i64 a, .int .i64 b, .int .i64 c] 23)).alloc (.cells #[.int .i64 d, .int .i64 e, .int .i64 f] 23)).heap.size := by rw [← hgx]; simp
  have HGX := Lib.hid hgx
  clear hr hgx
  go_enter Try.func3, Try.ntmps3
  go_wp2
  rw [HGX.out]
  generalize hw1 : ((w.alloc (.cells #[.int .i64 a, .int .i64 b, .int .i64 c] 23)).alloc (.cells #[.int .i64 d, .int .i64 e, .int .i64 f] 23)) = w1
  rw [hw1] at hS hsz
  have HB1 := Lib.hid (show Below w.heap.size w w1 by have h := hB.out; rwa [hw1] at h)
  clear hw1 hB
  obtain ⟨⟨s1, s2, s3⟩, s4, s5, s6⟩ := hS
  have HKS := Lib.hid (show ∀ w', Below w1.heap.size w1 w' → ((w'.cell? ⟨gx, 0, none⟩ = some (.int .i64 a) ∧ w'.cell? ⟨gx, 1, none⟩ = some (.int .i64 b) ∧ w'.cell? ⟨gx, 2, none⟩ = some (.int .i64 c)) ∧ w'.cell? ⟨gx + 1, 0, none⟩ = some (.int .i64 d) ∧ w'.cell? ⟨gx + 1, 1, none⟩ = some (.int .i64 e) ∧ w'.cell? ⟨gx + 1, 2, none⟩ = some (.int .i64 f)) from fun w' h => ⟨⟨below_ents h (by omega) s1, below_ents h (by omega) s2, below_ents h (by omega) s3⟩, below_ents h hsz s4, below_ents h hsz s5, below_ents h hsz s6⟩)
  go_region_held3 (fun w' => ((w'.cell? ⟨gx, 0, none⟩ = some (.int .i64 a) ∧ w'.cell? ⟨gx, 1, none⟩ = some (.int .i64 b) ∧ w'.cell? ⟨gx, 2, none⟩ = some (.int .i64 c)) ∧ w'.cell? ⟨gx + 1, 0, none⟩ = some (.int .i64 d) ∧ w'.cell? ⟨gx + 1, 1, none⟩ = some (.int .i64 e) ∧ w'.cell? ⟨gx + 1, 2, none⟩ = some (.int .i64 f))) (first | go_keep | exact HKS.out _ hc5)
    ((first
      | (go_at_call 12; refine (toEntry_any _ _ _ _).mono ?_; rintro r w5 ⟨rfl, hb5⟩; have hc5 : Below w1.heap.size w1 w5 := below_go (by repeat (first | exact Below.refl _ _ | assumption | refine Below.drew ?_ | refine below_drewN' ?_ _)) hb5 (Nat.le_refl _); clear hb5)
      | (go_at_call 11; refine (c1 _).mono ?_; rintro r w5 ⟨rfl, hb5⟩; have hc5 : Below w1.heap.size w1 w5 := below_go (by repeat (first | exact Below.refl _ _ | assumption | refine Below.drew ?_ | refine below_drewN' ?_ _)) hb5 (Nat.le_refl _); clear hb5)))
  go_wp2
  obtain ⟨wa, rfl⟩ : ∃ wa, wa = w5 := ⟨_, rfl⟩
  have HKA := Lib.hid (show ∀ w', Below wa.heap.size wa w' → ((w'.cell? ⟨gx, 0, none⟩ = some (.int .i64 a) ∧ w'.cell? ⟨gx, 1, none⟩ = some (.int .i64 b) ∧ w'.cell? ⟨gx, 2, none⟩ = some (.int .i64 c)) ∧ w'.cell? ⟨gx + 1, 0, none⟩ = some (.int .i64 d) ∧ w'.cell? ⟨gx + 1, 1, none⟩ = some (.int .i64 e) ∧ w'.cell? ⟨gx + 1, 2, none⟩ = some (.int .i64 f)) from fun w' h => HKS.out w' (hc5.trans (h.mono hc5.size)))
  have HBA := Lib.hid (show Below w.heap.size w wa from HB1.out.trans (hc5.mono HB1.out.size))
  clear hc5 HKS s1 s2 s3 s4 s5 s6 hsz HB1
  obtain ⟨⟨s1, s2, s3⟩, s4, s5, s6⟩ := HKA.out _ (Below.refl _ _)
  go_region_held3 (fun w' => ((w'.cell? ⟨gx, 0, none⟩ = some (.int .i64 a) ∧ w'.cell? ⟨gx, 1, none⟩ = some (.int .i64 b) ∧ w'.cell? ⟨gx, 2, none⟩ = some (.int .i64 c)) ∧ w'.cell? ⟨gx + 1, 0, none⟩ = some (.int .i64 d) ∧ w'.cell? ⟨gx + 1, 1, none⟩ = some (.int .i64 e) ∧ w'.cell? ⟨gx + 1, 2, none⟩ = some (.int .i64 f))) (first | go_keep | exact HKA.out _ hc6)
    ((first
      | (go_at_call 12; refine (toEntry_any _ _ _ _).mono ?_; rintro r w6 ⟨rfl, hb5⟩; have hc6 : Below wa.heap.size wa w6 := below_go (by repeat (first | exact Below.refl _ _ | assumption | refine Below.drew ?_ | refine below_drewN' ?_ _)) hb5 (Nat.le_refl _); clear hb5)
      | (go_at_call 13; refine (c2 _).mono ?_; rintro r w6 ⟨rfl, hb5⟩; have hc6 : Below wa.heap.size wa w6 := below_go (by repeat (first | exact Below.refl _ _ | assumption | refine Below.drew ?_ | refine below_drewN' ?_ _)) hb5 (Nat.le_refl _); clear hb5)))
  have HBB := Lib.hid (show Below w.heap.size w w6 from HBA.out.trans (hc6.mono HBA.out.size))
  clear hc6 HKA s1 s2 s3 s4 s5 s6
  go_wp2
  go_ret
  exact ⟨rfl, HBB.out⟩

end Go.Proofs.Ytfbnapgbpcikkaa
