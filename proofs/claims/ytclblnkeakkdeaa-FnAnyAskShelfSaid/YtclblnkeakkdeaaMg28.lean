/-
  Words for rows of records of four numbers: what is found. No program is read here. No conditions.
-/
import Derived.Test.YtclblnkeakkdeaaMg11
import Derived.Test.YtclblnkeakkdeaaMg4
namespace Go.Proofs.Ytclblnkeakkdeaa
open Go.RowKit

/-- Such rows as the model holds them. -/
def fdC (x : Fd) : List Value := [.int .i64 x.1, .int .i64 x.2.1, .int .i64 x.2.2.1, .int .i64 x.2.2.2]
def fdsC (l : List Fd) : List Value := l.flatMap fdC
theorem fdC_len (x : Fd) : (fdC x).length = 4 := rfl
theorem fdsC_len (l : List Fd) : (fdsC l).length = l.length * 4 := flat_len fdC 4 fdC_len l
theorem fdsC_append (l m : List Fd) : fdsC (l ++ m) = fdsC l ++ fdsC m := by simp [fdsC]
theorem fdsC_one (l : List Fd) : ∀ u ∈ fdsC l, u.oneCell' = true := by
  intro u hu
  simp only [fdsC, List.mem_flatMap, fdC] at hu
  obtain ⟨x, _, hx⟩ := hu
  simp only [List.mem_cons, List.not_mem_nil, or_false] at hx
  rcases hx with rfl | rfl | rfl | rfl <;> rfl
theorem fdsC_snoc (l : List Fd) (x : Fd) : fdsC (l ++ [x]) = fdsC l ++ [.int .i64 x.1, .int .i64 x.2.1, .int .i64 x.2.2.1, .int .i64 x.2.2.2] := by rw [fdsC_append]; rfl
theorem fdsC_take (l : List Fd) (k : Nat) : (fdsC l).take (k * 4) = fdsC (l.take k) := by
  induction l generalizing k with
  | nil => simp [fdsC]
  | cons x l ih =>
    cases k with
    | zero => simp [fdsC]
    | succ k =>
      rw [List.take_succ_cons]
      show (fdC x ++ fdsC l).take ((k + 1) * 4) = fdC x ++ fdsC (l.take k)
      rw [List.take_append, fdC_len, show (k + 1) * 4 - 4 = k * 4 by omega, ih, List.take_of_length_le (by rw [fdC_len]; omega)]
theorem fdsC_drop (l : List Fd) (k : Nat) : (fdsC l).drop (k * 4) = fdsC (l.drop k) := by
  induction l generalizing k with
  | nil => simp [fdsC]
  | cons x l ih =>
    cases k with
    | zero => simp
    | succ k =>
      rw [List.drop_succ_cons]
      show (fdC x ++ fdsC l).drop ((k + 1) * 4) = fdsC (l.drop k)
      rw [List.drop_append, fdC_len, show (k + 1) * 4 - 4 = k * 4 by omega, ih, List.drop_of_length_le (by rw [fdC_len]; omega)]
      rfl

theorem CellsAt.fd {w : World} {a : Option Addr} {l : List Fd} (h : CellsAt w a (fdsC l)) (hne : l ≠ []) : ∃ b o, a = some ⟨b, o, none⟩ ∧ b < w.heap.size ∧
    ∀ k (hk : k < l.length), w.cell? ⟨b, o + k * 4, none⟩ = some (.int .i64 l[k].1) ∧ w.cell? ⟨b, o + k * 4 + 1, none⟩ = some (.int .i64 l[k].2.1) ∧ w.cell? ⟨b, o + k * 4 + 2, none⟩ = some (.int .i64 l[k].2.2.1) ∧ w.cell? ⟨b, o + k * 4 + 3, none⟩ = some (.int .i64 l[k].2.2.2) := by
  obtain ⟨b, o, ha, hb, hc⟩ := h.spot (fun e => by have := congrArg List.length e; rw [fdsC_len] at this; simp at this; exact hne (List.length_eq_zero_iff.1 (by omega)))
  refine ⟨b, o, ha, hb, fun k hk => ⟨?_, ?_, ?_, ?_⟩⟩
  · have := hc (k * 4 + 0) (.int .i64 l[k].1) (by rw [fdsC, flat_get fdC 4 fdC_len l k 0 hk (by omega)]; rfl)
    simpa using this
  · have := hc (k * 4 + 1) (.int .i64 l[k].2.1) (by rw [fdsC, flat_get fdC 4 fdC_len l k 1 hk (by omega)]; rfl)
    rwa [← Nat.add_assoc] at this
  · have := hc (k * 4 + 2) (.int .i64 l[k].2.2.1) (by rw [fdsC, flat_get fdC 4 fdC_len l k 2 hk (by omega)]; rfl)
    rwa [← Nat.add_assoc] at this
  · have := hc (k * 4 + 3) (.int .i64 l[k].2.2.2) (by rw [fdsC, flat_get fdC 4 fdC_len l k 3 hk (by omega)]; rfl)
    rwa [← Nat.add_assoc] at this
theorem fd_cells {w : World} {a : Option Addr} {l : List Fd} (h : CellsAt w a (fdsC l)) {i : Nat} {d x y z : Int} (hi : i < l.length) (hm : l[i] = (d, x, y, z)) :
    ∃ b o, a = some ⟨b, o, none⟩ ∧ b < w.heap.size ∧ w.cell? ⟨b, o + i * 4, none⟩ = some (.int .i64 d) ∧ w.cell? ⟨b, o + i * 4 + 1, none⟩ = some (.int .i64 x) ∧ w.cell? ⟨b, o + i * 4 + 2, none⟩ = some (.int .i64 y) ∧ w.cell? ⟨b, o + i * 4 + 3, none⟩ = some (.int .i64 z) := by
  obtain ⟨b, o, ha, hb, hc⟩ := h.fd (fun e => by rw [e] at hi; simp at hi)
  have h1 := hc i hi
  rw [hm] at h1
  exact ⟨b, o, ha, hb, h1.1, h1.2.1, h1.2.2.1, h1.2.2.2⟩

theorem fds_len {w : World} {B : Nat} {e : TypeId} {a : Option Addr} {n c : Nat} {l : List Fd} (h : w.ownsRow B e 4 (.slice a n c) n (fdsC l)) : n = l.length := by
  have := h.1
  rw [fdsC_len] at this; omega

end Go.Proofs.Ytclblnkeakkdeaa
