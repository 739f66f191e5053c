/-
  Words for rows of records of two numbers. No conditions.
-/
import Derived.Test.YtehppjilnacjlaaMem
namespace Go.Proofs.Ytehppjilnacjlaa
open Go.RowKit

/-- The cells of a record of two numbers, and of a row of them. -/
def pairC (x : Int × Int) : List Value := [.int .i64 x.1, .int .i64 x.2]
def pairsC (l : List (Int × Int)) : List Value := l.flatMap pairC
theorem pairC_len (x : Int × Int) : (pairC x).length = 2 := rfl
theorem pairsC_len (l : List (Int × Int)) : (pairsC l).length = l.length * 2 := flat_len pairC 2 pairC_len l
theorem pairsC_append (l m : List (Int × Int)) : pairsC (l ++ m) = pairsC l ++ pairsC m := by simp [pairsC]
theorem pairsC_one (l : List (Int × Int)) : ∀ u ∈ pairsC l, u.oneCell' = true := by
  intro u hu
  simp only [pairsC, List.mem_flatMap, pairC] at hu
  obtain ⟨x, _, hx⟩ := hu
  simp only [List.mem_cons, List.not_mem_nil, or_false] at hx
  rcases hx with rfl | rfl <;> simp [Value.oneCell']
theorem CellsAt.pair {w : World} {a : Option Addr} {l : List (Int × Int)} (h : CellsAt w a (pairsC l)) (hne : l ≠ []) : ∃ b o, a = some ⟨b, o, none⟩ ∧ b < w.heap.size ∧
    ∀ k (hk : k < l.length), w.cell? ⟨b, o + k * 2, none⟩ = some (.int .i64 l[k].1) ∧ w.cell? ⟨b, o + k * 2 + 1, none⟩ = some (.int .i64 l[k].2) := by
  obtain ⟨b, o, ha, hb, hc⟩ := h.spot (fun e => by have := congrArg List.length e; rw [pairsC_len] at this; simp at this; exact hne (List.length_eq_zero_iff.1 (by omega)))
  refine ⟨b, o, ha, hb, fun k hk => ⟨?_, ?_⟩⟩
  · have := hc (k * 2 + 0) (.int .i64 l[k].1) (by rw [pairsC, flat_get pairC 2 pairC_len l k 0 hk (by omega)]; rfl)
    simpa using this
  · have := hc (k * 2 + 1) (.int .i64 l[k].2) (by rw [pairsC, flat_get pairC 2 pairC_len l k 1 hk (by omega)]; rfl)
    rwa [← Nat.add_assoc] at this
theorem pairs_len {w : World} {B : Nat} {e : TypeId} {a : Option Addr} {n c : Nat} {l : List (Int × Int)} (h : w.ownsRow B e 2 (.slice a n c) n (pairsC l)) : n = l.length := by
  have := h.1
  rw [pairsC_len] at this; omega

end Go.Proofs.Ytehppjilnacjlaa
