/-
  Words for rows of records of three numbers. No program is read here. No conditions.
-/
import Derived.Test.YtehppjilnacjlaaApart
import Derived.Test.YtehppjilnacjlaaMathShelf
namespace Go.Proofs.Ytehppjilnacjlaa
open Go.RowKit

/-- Such rows as the model holds them. -/
def entC (x : En) : List Value := [.int .i64 x.1, .int .i64 x.2.1, .int .i64 x.2.2]
def entsC (l : List En) : List Value := l.flatMap entC
theorem entC_len (x : En) : (entC x).length = 3 := rfl
theorem entsC_len (l : List En) : (entsC l).length = l.length * 3 := flat_len entC 3 entC_len l
theorem entsC_append (l m : List En) : entsC (l ++ m) = entsC l ++ entsC m := by simp [entsC]
theorem entsC_one (l : List En) : ∀ u ∈ entsC l, u.oneCell' = true := by
  intro u hu
  simp only [entsC, List.mem_flatMap, entC] at hu
  obtain ⟨x, _, hx⟩ := hu
  simp only [List.mem_cons, List.not_mem_nil, or_false] at hx
  rcases hx with rfl | rfl | rfl <;> rfl
theorem entsC_snoc (l : List En) (x : En) : entsC (l ++ [x]) = entsC l ++ [.int .i64 x.1, .int .i64 x.2.1, .int .i64 x.2.2] := by rw [entsC_append]; rfl
theorem entsC_take (l : List En) (k : Nat) : (entsC l).take (k * 3) = entsC (l.take k) := by
  induction l generalizing k with
  | nil => simp [entsC]
  | cons x l ih =>
    cases k with
    | zero => simp [entsC]
    | succ k =>
      rw [List.take_succ_cons]
      show (entC x ++ entsC l).take ((k + 1) * 3) = entC x ++ entsC (l.take k)
      rw [List.take_append, entC_len, show (k + 1) * 3 - 3 = k * 3 by omega, ih, List.take_of_length_le (by rw [entC_len]; omega)]
theorem entsC_drop (l : List En) (k : Nat) : (entsC l).drop (k * 3) = entsC (l.drop k) := by
  induction l generalizing k with
  | nil => simp [entsC]
  | cons x l ih =>
    cases k with
    | zero => simp
    | succ k =>
      rw [List.drop_succ_cons]
      show (entC x ++ entsC l).drop ((k + 1) * 3) = entsC (l.drop k)
      rw [List.drop_append, entC_len, show (k + 1) * 3 - 3 = k * 3 by omega, ih, List.drop_of_length_le (by rw [entC_len]; omega)]
      rfl

theorem CellsAt.ent {w : World} {a : Option Addr} {l : List En} (h : CellsAt w a (entsC l)) (hne : l ≠ []) : ∃ b o, a = some ⟨b, o, none⟩ ∧ b < w.heap.size ∧
    ∀ k (hk : k < l.length), w.cell? ⟨b, o + k * 3, none⟩ = some (.int .i64 l[k].1) ∧ w.cell? ⟨b, o + k * 3 + 1, none⟩ = some (.int .i64 l[k].2.1) ∧ w.cell? ⟨b, o + k * 3 + 2, none⟩ = some (.int .i64 l[k].2.2) := by
  obtain ⟨b, o, ha, hb, hc⟩ := h.spot (fun e => by have := congrArg List.length e; rw [entsC_len] at this; simp at this; exact hne (List.length_eq_zero_iff.1 (by omega)))
  refine ⟨b, o, ha, hb, fun k hk => ⟨?_, ?_, ?_⟩⟩
  · have := hc (k * 3 + 0) (.int .i64 l[k].1) (by rw [entsC, flat_get entC 3 entC_len l k 0 hk (by omega)]; rfl)
    simpa using this
  · have := hc (k * 3 + 1) (.int .i64 l[k].2.1) (by rw [entsC, flat_get entC 3 entC_len l k 1 hk (by omega)]; rfl)
    rwa [← Nat.add_assoc] at this
  · have := hc (k * 3 + 2) (.int .i64 l[k].2.2) (by rw [entsC, flat_get entC 3 entC_len l k 2 hk (by omega)]; rfl)
    rwa [← Nat.add_assoc] at this
theorem ent_cells {w : World} {a : Option Addr} {l : List En} (h : CellsAt w a (entsC l)) {i : Nat} {x y z : Int} (hi : i < l.length) (hm : l[i] = (x, y, z)) :
    ∃ b o, a = some ⟨b, o, none⟩ ∧ b < w.heap.size ∧ w.cell? ⟨b, o + i * 3, none⟩ = some (.int .i64 x) ∧ w.cell? ⟨b, o + i * 3 + 1, none⟩ = some (.int .i64 y) ∧ w.cell? ⟨b, o + i * 3 + 2, none⟩ = some (.int .i64 z) := by
  obtain ⟨b, o, ha, hb, hc⟩ := h.ent (fun e => by rw [e] at hi; simp at hi)
  have h1 := hc i hi
  rw [hm] at h1
  exact ⟨b, o, ha, hb, h1.1, h1.2.1, h1.2.2⟩

theorem ents_len {w : World} {B : Nat} {e : TypeId} {a : Option Addr} {n c : Nat} {l : List En} (h : w.ownsRow B e 3 (.slice a n c) n (entsC l)) : n = l.length := by
  have := h.1
  rw [entsC_len] at this; omega

end Go.Proofs.Ytehppjilnacjlaa
