/-
  The walk of the table's law EntryLess: it returns true, and nothing that was there is written. No conditions.
-/
import Derived.Test.YteieolkpmjoohaaHelpE
import Derived.Test.YteieolkpmjoohaaDrawH
namespace Go.Proofs.Yteieolkpmjoohaa
open Go.RowKit

theorem en_partsJ {x y z x' y' z' : Int} (he : ¬ (x, y, z) = (x', y', z')) : (x == x') = false ∨ (x == x') = true ∧ ((y == y') = false ∨ (y == y') = true ∧ (z == z') = false) := by
  by_cases h1 : x = x'
  · by_cases h2 : y = y'
    · by_cases h3 : z = z'
      · exact absurd (by rw [h1, h2, h3]) he
      · exact .inr ⟨by simpa using h1, .inr ⟨by simpa using h2, by simpa using h3⟩⟩
    · exact .inr ⟨by simpa using h1, .inl (by simpa using h2)⟩
  · exact .inl (by simpa using h1)
theorem three_ways (x1 x2 x3 y1 y2 y3 : Int) : ∃ r1 r2 : Bool, (r1 = true ↔ enLt (x1, x2, x3) (y1, y2, y3)) ∧ (r2 = true ↔ enLt (y1, y2, y3) (x1, x2, x3)) ∧
    ((r1 = true ∧ r2 = false ∨ r1 = false ∧ r2 = true) ∧ ((x1 == y1) = false ∨ (x1 == y1) = true ∧ ((x2 == y2) = false ∨ (x2 == y2) = true ∧ (x3 == y3) = false)) ∨ (r1 = false ∧ r2 = false) ∧ (x1 == y1) = true ∧ (x2 == y2) = true ∧ (x3 == y3) = true) := by
  rcases enLt_three (x1, x2, x3) (y1, y2, y3) with h | h | h
  · have h2 := enLt_asymm h
    refine ⟨true, false, ⟨fun _ => h, fun _ => rfl⟩, ⟨(fun e => absurd e (by decide)), (fun e => absurd e h2)⟩, .inl ⟨.inl ⟨rfl, rfl⟩, en_partsJ (fun e => ?_)⟩⟩
    rw [e] at h
    exact enLt_irrefl _ h
  · simp only [Prod.mk.injEq] at h
    obtain ⟨rfl, rfl, rfl⟩ := h
    have hi := enLt_irrefl (x1, x2, x3)
    exact ⟨false, false, ⟨(fun e => absurd e (by decide)), (fun e => absurd e hi)⟩, ⟨(fun e => absurd e (by decide)), (fun e => absurd e hi)⟩, .inr ⟨⟨rfl, rfl⟩, beq_self_eq_true _, beq_self_eq_true _, beq_self_eq_true _⟩⟩
  · have h2 := enLt_asymm h
    refine ⟨false, true, ⟨(fun e => absurd e (by decide)), (fun e => absurd e h2)⟩, ⟨fun _ => h, fun _ => rfl⟩, .inl ⟨.inr ⟨rfl, rfl⟩, en_partsJ (fun e => ?_)⟩⟩
    rw [e] at h
    exact enLt_irrefl _ h

theorem implLess_dec (v : Bool) (a b c d e f : Int) (w : World) (h : decide (enLt (a, b, c) (d, e, f)) = v) :
    Calls Try.prog 15 #[.agg #[.int .i64 a, .int .i64 b, .int .i64 c], .agg #[.int .i64 d, .int .i64 e, .int .i64 f]] w fun x w' => x = .returned (.bool v) ∧ Below w.heap.size w w' := by subst h; exact implLess_any a b c d e f w

theorem below_goJ {B : Nat} {w1 W0 w' : World} (h : Below B w1 W0) (k : Below W0.heap.size W0 w') (hB : B ≤ w1.heap.size) : Below B w1 w' := h.trans (k.mono (Nat.le_trans hB h.size))

set_option maxRecDepth 4000 in
set_option maxHeartbeats 16000000 in
theorem walkFnEntryLess (a : Option Addr) (len cap : Nat) (zs : List Int) (w : World) (h : IsRowK .u8 w a len cap zs) :
    Calls Try.prog 3 #[.slice a len cap] w fun e w' => e = .returned (.bool true) ∧ Below w.heap.size w w' := by
  go_enter Try.func3, Try.ntmps3
  go_wp2_with fail
  refine (DrawEntryLess_any _ _ _ _ _ h).mono ?_
  rintro e w1 ⟨x1, x2, x3, y1, y2, y3, rfl, hb⟩
  clear h
  obtain ⟨r1, r2, hr1, hr2, hway⟩ := three_ways x1 x2 x3 y1 y2 y3
  have c1 := fun w => implLess_is r1 x1 x2 x3 y1 y2 y3 w hr1
  have c2 := fun w => implLess_is r2 y1 y2 y3 x1 x2 x3 w hr2
  have c3 := fun w => specLess_is r1 x1 x2 x3 y1 y2 y3 w hr1
  have D1 := Lib.hid (show decide (enLt (x1, x2, x3) (y1, y2, y3)) = r1 by rw [Bool.eq_iff_iff, decide_eq_true_iff]; exact hr1.symm)
  have D4 := Lib.hid (show decide (enLt (0, 0, 0) (0, 0, 1)) = true by rw [decide_eq_true_iff]; unfold enLt; simp)
  have hB := Lib.hid (below_alloc2 w1 (.cells #[.int .i64 x1, .int .i64 x2, .int .i64 x3] 24) (.cells #[.int .i64 y1, .int .i64 y2, .int .i64 y3] 24))
  obtain ⟨gx, hgx⟩ : ∃ gx, w1.heap.size = gx := ⟨_, rfl⟩
  have hS : (fun w' : World => ((w'.cell? ⟨gx, 0, none⟩ = some (.int .i64 x1) ∧ w'.cell? ⟨gx, 1, none⟩ = some (.int .i64 x2) ∧ w'.cell? ⟨gx, 2, none⟩ = some (.int .i64 x3)) ∧ w'.cell? ⟨gx + 1, 0, none⟩ = some (.int .i64 y1) ∧ w'.cell? ⟨gx + 1, 1, none⟩ = some (.int .i64 y2) ∧ w'.cell? ⟨gx + 1, 2, none⟩ = some (.int .i64 y3))) ((w1.alloc (.cells #[.int .i64 x1, .int .i64 x2, .int .i64 x3] 24)).alloc (.cells #[.int .i64 y1, .int .i64 y2, .int .i64 y3] 24)) := by
    subst hgx
    have k1 := heap_alloc_new w1 (.cells #[.int .i64 x1, .int .i64 x2, .int .i64 x3] 24)
    have k2 := heap_alloc_old (w1.alloc (.cells #[.int .i64 x1, .int .i64 x2, .int .i64 x3] 24)) (.cells #[.int .i64 y1, .int .i64 y2, .int .i64 y3] 24) (r := w1.heap.size) (by simp)
    have k3 := heap_alloc_new (w1.alloc (.cells #[.int .i64 x1, .int .i64 x2, .int .i64 x3] 24)) (.cells #[.int .i64 y1, .int .i64 y2, .int .i64 y3] 24)
    rw [show (w1.alloc (.cells #[.int .i64 x1, .int .i64 x2, .int .i64 x3] 24)).heap.size = w1.heap.size + 1 by simp] at k3
    exact ⟨⟨cell_of_row _ _ 0 _ _ (0, 0) (k2.trans k1), cell_of_row _ _ 1 _ _ (0, 0) (k2.trans k1), cell_of_row _ _ 2 _ _ (0, 0) (k2.trans k1)⟩, cell_of_row _ _ 0 _ _ (0, 0) k3, cell_of_row _ _ 1 _ _ (0, 0) k3, cell_of_row _ _ 2 _ _ (0, 0) k3⟩
  have hsz : gx + 1 < ((w1.alloc (.cells #[.int .i64 x1, .int .i64 x2, .int .i64 x3] 24)).alloc (.cells #[.int .i64 y1, .int .i64 y2, .int .i64 y3] 24)).heap.size := by rw [← hgx]; simp
  have HBW := Lib.hid hb
  clear hr1 hr2 hb
  go_wp2_with fail
  generalize hw2 : ((w1.alloc (.cells #[.int .i64 x1, .int .i64 x2, .int .i64 x3] 24)).alloc (.cells #[.int .i64 y1, .int .i64 y2, .int .i64 y3] 24)) = wb
  rw [hw2] at hS hsz
  have HB1 := Lib.hid (show Below w.heap.size w wb by have h := hB.out; rw [hw2] at h; exact HBW.out.trans (h.mono HBW.out.size))
  clear hw2 hB hgx
  obtain ⟨⟨s1, s2, s3⟩, s4, s5, s6⟩ := hS
  have HKS := Lib.hid (show ∀ w', Below wb.heap.size wb w' → ((w'.cell? ⟨gx, 0, none⟩ = some (.int .i64 x1) ∧ w'.cell? ⟨gx, 1, none⟩ = some (.int .i64 x2) ∧ w'.cell? ⟨gx, 2, none⟩ = some (.int .i64 x3)) ∧ w'.cell? ⟨gx + 1, 0, none⟩ = some (.int .i64 y1) ∧ w'.cell? ⟨gx + 1, 1, none⟩ = some (.int .i64 y2) ∧ w'.cell? ⟨gx + 1, 2, none⟩ = some (.int .i64 y3)) from fun w' h => ⟨⟨below_ents h (by omega) s1, below_ents h (by omega) s2, below_ents h (by omega) s3⟩, below_ents h hsz s4, below_ents h hsz s5, below_ents h hsz s6⟩)
  clear s1 s2 s3 s4 s5 s6 hsz
  rcases hway with ⟨⟨rfl, rfl⟩ | ⟨rfl, rfl⟩, t1 | ⟨t1, t2 | ⟨t2, t3⟩⟩⟩ | ⟨⟨rfl, rfl⟩, t1, t2, t3⟩
  all_goals (
    refine (c1 _).mono ?_
    rintro e wc ⟨rfl, hbc⟩
    obtain ⟨⟨s1, s2, s3⟩, s4, s5, s6⟩ := HKS.out _ hbc
    go_wp2_with fail
    refine (c2 _).mono ?_
    rintro e wd ⟨rfl, hbd⟩
    have hbd2 : Below wb.heap.size wb wd := hbc.trans (hbd.mono hbc.size)
    clear s1 s2 s3 s4 s5 s6 hbc hbd
    obtain ⟨⟨s1, s2, s3⟩, s4, s5, s6⟩ := HKS.out _ hbd2
    have HBD := Lib.hid (show Below w.heap.size w wd from HB1.out.trans (hbd2.mono HB1.out.size))
    have HKD := Lib.hid (show ∀ w', Below wd.heap.size wd w' → ((w'.cell? ⟨gx, 0, none⟩ = some (.int .i64 x1) ∧ w'.cell? ⟨gx, 1, none⟩ = some (.int .i64 x2) ∧ w'.cell? ⟨gx, 2, none⟩ = some (.int .i64 x3)) ∧ w'.cell? ⟨gx + 1, 0, none⟩ = some (.int .i64 y1) ∧ w'.cell? ⟨gx + 1, 1, none⟩ = some (.int .i64 y2) ∧ w'.cell? ⟨gx + 1, 2, none⟩ = some (.int .i64 y3)) from fun w' h => HKS.out w' (hbd2.trans (h.mono hbd2.size)))
    clear hbd2
    go_wp2
    go_region_held3 (fun w' => ((w'.cell? ⟨gx, 0, none⟩ = some (.int .i64 x1) ∧ w'.cell? ⟨gx, 1, none⟩ = some (.int .i64 x2) ∧ w'.cell? ⟨gx, 2, none⟩ = some (.int .i64 x3)) ∧ w'.cell? ⟨gx + 1, 0, none⟩ = some (.int .i64 y1) ∧ w'.cell? ⟨gx + 1, 1, none⟩ = some (.int .i64 y2) ∧ w'.cell? ⟨gx + 1, 2, none⟩ = some (.int .i64 y3))) (first | go_keep | exact HKD.out _ hc6)
      ((first
        | (go_at_call 17; refine (alive_any _).mono ?_; rintro r w7 ⟨rfl, rfl⟩)
        | (go_at_call 16; refine (c3 _).mono ?_; rintro r w6 ⟨rfl, hb5⟩; have hc6 : Below wd.heap.size wd w6 := below_goJ (by repeat (first | exact Below.refl _ _ | assumption | refine Below.drew ?_ | refine below_drewN' ?_ _)) hb5 (Nat.le_refl _); clear hb5)
        | (go_at_call 15; refine (implLess_dec _ _ _ _ _ _ _ _ (by first | exact D4.out | exact D1.out)).mono ?_; rintro r w6 ⟨rfl, hb5⟩; have hc6 : Below wd.heap.size wd w6 := below_goJ (by repeat (first | exact Below.refl _ _ | assumption | refine Below.drew ?_ | refine below_drewN' ?_ _)) hb5 (Nat.le_refl _); clear hb5)))
    go_wp2
    go_ret
    exact ⟨rfl, HBD.out.trans (Below.mono (by repeat (first | exact Below.refl _ _ | assumption | refine Below.drew ?_ | refine below_drewN' ?_ _)) HBD.out.size)⟩)

end Go.Proofs.Yteieolkpmjoohaa
