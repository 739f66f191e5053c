/-
  Slices of states that came in, opened: each with its edges. No conditions.
-/
import Derived.Test.YtnjiooljoekhmaaHelpSt3
namespace Go.Proofs.Ytnjiooljoekhmaa
open Go.RowKit Go.ChangeShapes Go.WideShapes Go.Deep

/-- A state as it came in: its numbers, where its edges lie, its edges. -/
abbrev Si := Int × Int × Sm × List (Int × Int)
def siC (y : Si) : List Value := [.int .i64 y.1, .int .i64 y.2.1, smV y.2.2.1]
theorem siC_len (y : Si) : (siC y).length = 3 := rfl
def siD (y : Si) : Dt := (y.1, y.2.1, y.2.2.2)
theorem Try.ulLaState : Try.prog.underlying 27 = some (.slice 52) := by kernel_rfl
theorem siC_st (l : List Si) : l.flatMap siC = stC (l.map siD).length (fun i => ((dtA (l.map siD) i).1, (dtA (l.map siD) i).2.1)) (fun i => (l.getD i (0, 0, (none, 0, 0), [])).2.2.1) := by
  rw [List.length_map]
  apply List.ext_getElem?
  intro k
  by_cases hk : k < l.length * 3
  · obtain ⟨e, f, he, hf, rfl⟩ : ∃ e f, e < l.length ∧ f < 3 ∧ k = e * 3 + f := ⟨k / 3, k % 3, by omega, by omega, by omega⟩
    rw [stC_get he hf, flat_get siC 3 siC_len l e f he hf]
    simp only [dtA, List.getD_eq_getElem?_getD, List.getElem?_map, List.getElem?_eq_getElem he, Option.map_some, Option.getD_some]
    rfl
  · rw [List.getElem?_eq_none (by rw [flat_len siC 3 siC_len]; omega), List.getElem?_eq_none (by rw [stC_len]; omega)]

theorem openStates {H : Type} {enc : TypeId × Value → H} {w : World} {spare : Nat → Bool} {held : Bool} {a : Option Addr} {n c : Nat} {d : DataW H} {p : List MemPlace}
    (h : DataW.Trod enc Try.prog w 0 spare held 27 (.slice a n c) d p) : ∃ (L : List Dt) (A : Nat → Sm), n = L.length ∧ n ≤ c ∧ c ≤ maxLen ∧ (∀ i, i < L.length → (A i).2.1 ≤ maxLen) ∧ StAt w a L A := by
  obtain ⟨l, h1, h2, h3, h4, h5⟩ := open_elems (α := Si) siC 3 (fun y => y.2.2.1.2.1 = y.2.2.2.length ∧ y.2.2.1.2.1 ≤ maxLen ∧ CellsAt w y.2.2.1.1 (pairsC y.2.2.2)) (by decide) siC_len Try.ulLaState (by kernel_rfl) (fun fuel cs x hcl hx => by
    match cs, hcl with
    | [c0, c1, c2], hcl =>
      obtain ⟨v0, y0, n0, hv0, ht0⟩ := open_fields (P := Try.prog) Try.underlying52 (by kernel_rfl) hcl hx 0 _ rfl
      obtain ⟨s0, hs0, _, hw0⟩ := DataW.trod_int (k := .i64) (by kernel_rfl) ht0
      obtain ⟨v1, y1, n1, hv1, ht1⟩ := open_fields (P := Try.prog) Try.underlying52 (by kernel_rfl) hcl hx 1 _ rfl
      obtain ⟨s1, hs1, _, hw1⟩ := DataW.trod_int (k := .i64) (by kernel_rfl) ht1
      obtain ⟨v2, y2, n2, hv2, ht2⟩ := open_fields (P := Try.prog) Try.underlying52 (by kernel_rfl) hcl hx 2 _ rfl
      have hsl : ∃ a2 m2 q2, v2 = .slice a2 m2 q2 := by
        rcases open_slice Try.ulLaEdge ht2 with ⟨hcs, _⟩ | ⟨x, len, cap, m, nn, D, Pl, hcs, _⟩
        · simp at hcs; exact ⟨_, _, _, hcs⟩
        · simp at hcs; exact ⟨_, _, _, hcs⟩
      obtain ⟨a2, m2, q2, rfl⟩ := hsl
      obtain ⟨F, e1, e2, e3, _, e5⟩ := openEdges (w := w) (a := a2) (n := m2) (c := q2) (d := y2.1) (p := y2.2) ⟨n2, ht2⟩
      simp only [List.cons.injEq, and_true] at hs0 hs1
      simp at hv0 hv1 hv2
      subst hs0 hs1
      exact ⟨(s0, s1, (a2, m2, q2), F), by simp [siC, smV, hv0, hv1, hv2], e1, Nat.le_trans e2 e3, e5⟩) h
  refine ⟨l.map siD, fun i => (l.getD i (0, 0, (none, 0, 0), [])).2.2.1, by rw [List.length_map]; exact h1, h2, h3, fun i hi => ?_, ⟨by rw [← siC_st]; exact h5, fun i hi => ?_⟩⟩
  · rw [List.length_map] at hi
    have h := h4 l[i] (List.getElem_mem hi)
    simp only [List.getD_eq_getElem?_getD, List.getElem?_eq_getElem hi, Option.getD_some]
    exact h.2.1
  · rw [List.length_map] at hi
    have h := h4 l[i] (List.getElem_mem hi)
    simp only [dtA, List.getD_eq_getElem?_getD, List.getElem?_map, List.getElem?_eq_getElem hi, Option.map_some, Option.getD_some]
    exact ⟨h.1, h.2.2⟩

end Go.Proofs.Ytnjiooljoekhmaa
