/-
  What is told of slices of entries and of marks that came in: their cells, as lists of numbers. No conditions.
-/
import Derived.Test.YtclblnkeakkdeaaOpen
import Derived.Test.YtclblnkeakkdeaaTri
import Derived.Test.YtclblnkeakkdeaaPair
import Derived.Test.YtclblnkeakkdeaaProg
namespace Go.Proofs.Ytclblnkeakkdeaa
open Go.RowKit Go.ChangeShapes

theorem Try.ulOpEntry : Try.prog.underlying 23 = some (.slice 31) := by kernel_rfl
theorem Try.ulOpMark : Try.prog.underlying 39 = some (.slice 46) := by kernel_rfl

theorem openEntrys {H : Type} {enc : TypeId × Value → H} {w : World} {spare : Nat → Bool} {held : Bool} {a : Option Addr} {n c : Nat} {d : DataW H} {p : List MemPlace}
    (h : DataW.Trod enc Try.prog w 0 spare held 23 (.slice a n c) d p) : ∃ l : List (En), n = l.length ∧ n ≤ c ∧ c ≤ maxLen ∧ (∀ x ∈ l, (Lit.int .i64 x.1).wf = true ∧ (Lit.int .i64 x.2.1).wf = true ∧ (Lit.int .i64 x.2.2).wf = true) ∧ CellsAt w a (entsC l) := by
  refine open_elems (α := En) entC 3 (fun x => (Lit.int .i64 x.1).wf = true ∧ (Lit.int .i64 x.2.1).wf = true ∧ (Lit.int .i64 x.2.2).wf = true) (by decide) entC_len Try.ulOpEntry (by kernel_rfl) (fun fuel cs x hcl hx => ?_) h
  match cs, hcl with
  | [c0, c1, c2], hcl =>
    obtain ⟨v0, y0, n0, hv0, ht0⟩ := open_fields (P := Try.prog) Try.underlying31 (by kernel_rfl) hcl hx 0 _ rfl
    obtain ⟨s0, hs0, _, hw0⟩ := DataW.trod_int (k := .i64) (by kernel_rfl) ht0
    obtain ⟨v1, y1, n1, hv1, ht1⟩ := open_fields (P := Try.prog) Try.underlying31 (by kernel_rfl) hcl hx 1 _ rfl
    obtain ⟨s1, hs1, _, hw1⟩ := DataW.trod_int (k := .i64) (by kernel_rfl) ht1
    obtain ⟨v2, y2, n2, hv2, ht2⟩ := open_fields (P := Try.prog) Try.underlying31 (by kernel_rfl) hcl hx 2 _ rfl
    obtain ⟨s2, hs2, _, hw2⟩ := DataW.trod_int (k := .i64) (by kernel_rfl) ht2
    simp only [List.cons.injEq, and_true] at hs0 hs1 hs2
    simp at hv0 hv1 hv2
    subst hs0 hs1 hs2
    exact ⟨⟨s0, s1, s2⟩, by simp [entC, hv0, hv1, hv2], ⟨hw0, hw1, hw2⟩⟩

theorem openMarks {H : Type} {enc : TypeId × Value → H} {w : World} {spare : Nat → Bool} {held : Bool} {a : Option Addr} {n c : Nat} {d : DataW H} {p : List MemPlace}
    (h : DataW.Trod enc Try.prog w 0 spare held 39 (.slice a n c) d p) : ∃ l : List (Int × Int), n = l.length ∧ n ≤ c ∧ c ≤ maxLen ∧ (∀ x ∈ l, (Lit.int .i64 x.1).wf = true ∧ (Lit.int .i64 x.2).wf = true) ∧ CellsAt w a (pairsC l) := by
  refine open_elems (α := Int × Int) pairC 2 (fun x => (Lit.int .i64 x.1).wf = true ∧ (Lit.int .i64 x.2).wf = true) (by decide) pairC_len Try.ulOpMark (by kernel_rfl) (fun fuel cs x hcl hx => ?_) h
  match cs, hcl with
  | [c0, c1], hcl =>
    obtain ⟨v0, y0, n0, hv0, ht0⟩ := open_fields (P := Try.prog) Try.underlying46 (by kernel_rfl) hcl hx 0 _ rfl
    obtain ⟨s0, hs0, _, hw0⟩ := DataW.trod_int (k := .i64) (by kernel_rfl) ht0
    obtain ⟨v1, y1, n1, hv1, ht1⟩ := open_fields (P := Try.prog) Try.underlying46 (by kernel_rfl) hcl hx 1 _ rfl
    obtain ⟨s1, hs1, _, hw1⟩ := DataW.trod_int (k := .i64) (by kernel_rfl) ht1
    simp only [List.cons.injEq, and_true] at hs0 hs1
    simp at hv0 hv1
    subst hs0 hs1
    exact ⟨⟨s0, s1⟩, by simp [pairC, hv0, hv1], ⟨hw0, hw1⟩⟩

end Go.Proofs.Ytclblnkeakkdeaa
