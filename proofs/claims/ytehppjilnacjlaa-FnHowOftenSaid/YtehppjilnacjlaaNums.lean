/-
  The contracts of the program's functions joinedNumbers, ascendingNumbers and firstNumber. Condition: rows have at most 2^40 elements.
-/
import Derived.Test.YtehppjilnacjlaaMathSort
import Derived.Test.YtehppjilnacjlaaPrintRows
namespace Go.Proofs.Ytehppjilnacjlaa
open Go.RowKit

theorem half_of (lo hi g : Nat) (h : (hi - lo) / 2 = g) (hl : lo ≤ hi) : ((hi : Int) - (lo : Int)).tdiv 2 = (g : Int) := by
  have e : ((hi : Int) - (lo : Int)) = ((hi - lo : Nat) : Int) := by omega
  rw [e]
  have h2 := Int.ofNat_tdiv (hi - lo) 2
  rw [h] at h2
  rw [h2]; simp


theorem ints_lenN {w : World} {B : Nat} {e : TypeId} {a : Option Addr} {n c : Nat} {l : List Int} (h : w.ownsRow B e 1 (.slice a n c) n (intCells l)) : n = l.length := by
  have := h.1
  simp only [intCells, List.length_map] at this; omega

theorem Try.elI5 : Try.prog.underlying 41 = some (.slice (Try.prog.elem 41)) := by kernel_rfl
theorem Try.elemI5 : Try.prog.elem 41 = 3 := by kernel_rfl
theorem Try.sizeI5 (w : World) : (sizeOf (Try.prog.elem 41)).run Try.prog w = .ok 1 w := by
  obtain ⟨i, hi, hz, hsi, hby⟩ := info_parts Try.infoI3
  rw [Try.elemI5]
  simp [sizeOf, typeInfo, hi, hsi]

theorem intCells_len (l : List Int) : (intCells l).length = l.length := by simp [intCells]
theorem intCells_snoc (l : List Int) (x : Int) : intCells (l ++ [x]) = intCells l ++ [.int .i64 x] := by rw [intCells_append]; rfl
theorem int_cell {w : World} {a : Option Addr} {L : List Int} (h : CellsAt w a (intCells L)) {i : Nat} {x : Int} (hi : i < L.length) (hx : L[i] = x) : ∃ b o, a = some ⟨b, o, none⟩ ∧ b < w.heap.size ∧ w.cell? ⟨b, o + i, none⟩ = some (.int .i64 x) := by
  obtain ⟨b, o, ha, hb, hc⟩ := h.spot (fun e => by have := congrArg List.length e; rw [intCells_len] at this; simp at this; rw [this] at hi; simp at hi)
  exact ⟨b, o, ha, hb, hc i _ (by simp [intCells, hi, hx])⟩

/-- A slice of numbers from a place on, and up to one. -/
theorem ints_from (a : Option Addr) (n c i : Nat) (hi : i ≤ n) (hnc : n ≤ c) : ∃ a2 q f, q = n - i ∧ q ≤ f ∧ f ≤ c ∧ (∀ w, (Instr.slice 41 (.slice a n c) (some (.int .i64 i)) none none).run Try.prog w = .ok (.slice a2 q f) w) ∧
    ∀ (w : World) (l : List Int), n = l.length → CellsAt w a (intCells l) → CellsAt w a2 (intCells (l.drop i)) := by
  refine ⟨if c = i then a else a.map (·.add (i * 1)), n - i, c - i, rfl, by omega, by omega, fun w => ?_, fun w l hn h => ?_⟩
  · have h := run_slice_l (P := Try.prog) (w := w) 41 a n c Try.elI5 .i64 (i : Int) (by omega) (by omega)
    rw [h, Try.sizeI5]
    simp [Result.andThen, sliced]
  · have h2 := h.from_ n c i 1 (by decide) (by rw [intCells_len, hn, Nat.mul_one]) hnc
    simp only [Nat.mul_one] at h2 ⊢
    rwa [intCells_drop] at h2
theorem ints_upto (a : Option Addr) (n c i : Nat) (hi : i ≤ c) : ∃ a2, (∀ w, (Instr.slice 41 (.slice a n c) none (some (.int .i64 i)) none).run Try.prog w = .ok (.slice a2 i c) w) ∧
    ∀ (w : World) (l : List Int), CellsAt w a (intCells l) → CellsAt w a2 (intCells (l.take i)) := by
  refine ⟨if c = 0 then a else a.map (·.add (0 * 1)), fun w => ?_, fun w l h => ?_⟩
  · have h := run_slice_h (P := Try.prog) (w := w) 41 a n c Try.elI5 .i64 (i : Int) (by omega) (by omega)
    rw [h, Try.sizeI5]
    simp [Result.andThen, sliced]
  · have e : (if c = 0 then a else a.map (·.add (0 * 1))) = a := by
      split
      · rfl
      · cases a with
        | none => rfl
        | some p =>
          simp only [Option.map_some]
          congr 1
    rw [e, ← intCells_takeE]
    exact h.upTo i

/-- A new row of as many zeros as asked for. -/
theorem make_zeros (w : World) (n : Nat) (hn : n ≤ 1099511627776) :
    ∃ w', (Instr.makeSlice 41 (.int .i64 (n : Int)) (.int .i64 (n : Int))).run Try.prog w = .ok (.slice (some ⟨w.heap.size, 0, none⟩) n n) w' ∧
      One w w.heap.size w' 3 1 (some ⟨w.heap.size, 0, none⟩) n n (intCells (vecI n (fun _ => 0))) := by
  obtain ⟨i, hi, hz, hsi, hby⟩ := info_parts Try.infoI3
  obtain ⟨w', h1, h2, h3⟩ := run_make_full (P := Try.prog) w w.heap.size 41 3 i (.int .i64 0) 1 Try.ulI3 hi hz hsi .i64 .i64 n (by rw [hby]; omega) (by unfold maxLen; omega) (Nat.le_refl _)
  refine ⟨w', h1, ?_, h3.size, ⟨h3.os, h3.tape, h3.output, h3.size, fun k hk => h3.block k hk (by simp)⟩⟩
  have e : (madeCells (Value.cells (.int .i64 0)) (n * 1)).toList = intCells (vecI n (fun _ => 0)) := by
    rw [Nat.mul_one]
    apply List.ext_getElem
    · simp [madeCells, intCells_len, vecI_len]
    · intro k h1 h2
      have hk : k < n := by simpa [madeCells] using h1
      have hc : (Value.cells (.int .i64 0)) = #[.int .i64 0] := rfl
      simp [madeCells, intCells, vecI, hc, Nat.mod_one]
  rw [e] at h2
  exact h2

theorem vec_cell {W : World} {B : Nat} {w : World} {e : TypeId} {g n c : Nat} {f : Nat → Int} (h : One W B w e 1 (some ⟨g, 0, none⟩) n c (intCells (vecI n f))) {i : Nat} (hi : i < n) {v : Int} (hv : f i = v) : w.cell? ⟨g, i, none⟩ = some (.int .i64 v) := by
  rw [h.own.cellAt i (by omega)]
  have : i < (vecI n f).length := by rw [vecI_len]; exact hi
  simp [intCells, this, vecI_get n f i hi, hv]
theorem vec_stored {W : World} {B : Nat} {w : World} {e : TypeId} {g n c : Nat} {f f' : Nat → Int} (h : One W B w e 1 (some ⟨g, 0, none⟩) n c (intCells (vecI n f))) {i : Nat} {v : Int} (hv : f' i = v) (hs : ∀ j, j < n → j ≠ i → f' j = f j) :
    One W B (w.setCell ⟨g, i, none⟩ (.int .i64 v)) e 1 (some ⟨g, 0, none⟩) n c (intCells (vecI n f')) := by
  have h1 := h.stored i (.int .i64 v)
  have e1 : (intCells (vecI n f)).set i (.int .i64 v) = intCells (vecI n f') := by
    rw [← vecI_set hv hs, intCells, intCells, List.map_set]
  rwa [e1] at h1

/-- A new row without elements, with room for as many as asked for. -/
theorem make_room (w : World) (n : Nat) (hn : n ≤ 2199023255552) :
    ∃ w', (Instr.makeSlice 41 (.int .i64 0) (.int .i64 (n : Int))).run Try.prog w = .ok (.slice (some ⟨w.heap.size, 0, none⟩) 0 n) w' ∧
      One w w.heap.size w' 3 1 (some ⟨w.heap.size, 0, none⟩) 0 n (intCells []) := by
  obtain ⟨i, hi, hz, hsi, hby⟩ := info_parts Try.infoI3
  obtain ⟨w', h1, h2, h3⟩ := run_make_own (P := Try.prog) w w.heap.size 41 3 i (.int .i64 0) 1 Try.ulI3 hi hz hsi .i64 .i64 n (by rw [hby]; omega) (by unfold maxLen; omega) (Nat.le_refl _)
  exact ⟨w', h1, h2, h3.size, ⟨h3.os, h3.tape, h3.output, h3.size, fun k hk => h3.block k hk (by simp)⟩⟩





end Go.Proofs.Ytehppjilnacjlaa
