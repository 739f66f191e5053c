/-
  What is told of slices that came in: their cells, as a list of values. No program is read here. No conditions.
-/
import Derived.Test.YtnjiooljoekhmaaMem
import Derived.Deep.Slices
import Derived.Deep.Fields
import Derived.ChangeSame
namespace Go.Proofs.Ytnjiooljoekhmaa
open Go.RowKit Go.ChangeShapes Go.WideShapes Go.Deep

theorem list_choose {α : Type} {R : Nat → α → Prop} : ∀ n : Nat, (∀ i, i < n → ∃ x, R i x) → ∃ l : List α, l.length = n ∧ ∀ i (h : i < l.length), R i l[i]
  | 0, _ => ⟨[], rfl, fun i h => absurd h (by simp)⟩
  | n + 1, h => by
    obtain ⟨l, hl, hR⟩ := list_choose n (fun i hi => h i (by omega))
    obtain ⟨x, hx⟩ := h n (by omega)
    refine ⟨l ++ [x], by simp [hl], fun i hi => ?_⟩
    by_cases hin : i < l.length
    · rw [List.getElem_append_left hin]; exact hR i hin
    · have : i = n := by simp at hi; omega
      subst this
      rw [List.getElem_append_right (by omega)]
      simpa [hl] using hx

/-- The cells of a slice, element by element. -/
theorem cellsAt_elems {α : Type} {w : World} {a : Addr} (enc : α → List Value) (size : Nat) (hs : 0 < size) (hlen : ∀ x, (enc x).length = size) (l : List α)
    (h : ∀ i (hi : i < l.length) j, j < size → w.cell? (a.add (i * size + j)) = (enc l[i])[j]?) : CellsAt w (some a) (l.flatMap enc) := by
  refine ⟨fun hne => ?_⟩
  have hl0 : 0 < l.length := by
    cases l with
    | nil => exact absurd rfl hne
    | cons x l => simp
  obtain ⟨b, o, sp⟩ := a
  have c0 := h 0 hl0 0 hs
  rw [Nat.zero_mul, Nat.add_zero, List.getElem?_eq_getElem (by rw [hlen]; exact hs)] at c0
  have hsp : sp = none := by simpa [Addr.add] using World.cell?_spot c0
  subst hsp
  refine ⟨b, o, rfl, by simpa [Addr.add] using World.block_lt_of_cell? w _ c0, fun j v hj => ?_⟩
  have hjl : j < l.length * size := by
    have := (List.getElem?_eq_some_iff.1 hj).1
    rwa [flat_len enc size hlen] at this
  have hi : j / size < l.length := Nat.div_lt_of_lt_mul (by rw [Nat.mul_comm]; exact hjl)
  have hr : j % size < size := Nat.mod_lt _ hs
  have e : j / size * size + j % size = j := by rw [Nat.mul_comm]; exact Nat.div_add_mod j size
  have hc := h (j / size) hi (j % size) hr
  rw [e, Addr.add_lit] at hc
  rw [hc]
  have hf := flat_get enc size hlen l (j / size) (j % size) hi hr
  rw [e, hj] at hf
  exact hf.symm

theorem map_flat {α : Type} (f : α → Value) (l : List α) : l.map f = l.flatMap (fun s => [f s]) := by
  induction l with
  | nil => rfl
  | cons x l ih => simp [ih]

section
variable {H : Type} {enc : TypeId × Value → H} {P : Program} {w : World} {spare : Nat → Bool} {held : Bool}

/-- A slice that came in, with what each element reads as. -/
theorem open_elems {α : Type} {t e : TypeId} {a : Option Addr} {n c : Nat} {d : DataW H} {p : List MemPlace} (cellsOf : α → List Value) (size : Nat) (ok : α → Prop) (hs : 0 < size) (hlen : ∀ x, (cellsOf x).length = size)
    (ht : P.underlying t = some (.slice e)) (hC : P.cellsOf e = size)
    (hel : ∀ fuel cs x, cs.length = size → DataW.trod enc P w 0 spare held fuel e cs = some x → ∃ y, cs = cellsOf y ∧ ok y)
    (h : DataW.Trod enc P w 0 spare held t (.slice a n c) d p) : ∃ l : List α, n = l.length ∧ n ≤ c ∧ c ≤ maxLen ∧ (∀ x ∈ l, ok x) ∧ CellsAt w a (l.flatMap cellsOf) := by
  obtain ⟨fuel, hf⟩ := h
  rcases open_slice ht hf with ⟨hcs, _⟩ | ⟨x, len, cap, m, nn, D, Pl, hcs, _, hl, hm, hmm, _, hi⟩
  · simp [Value.cells] at hcs
    obtain ⟨rfl, rfl, rfl⟩ := hcs
    exact ⟨[], rfl, Nat.le_refl _, by decide, fun x hx => absurd hx (by simp), cellsAt_nil _ _⟩
  · simp [Value.cells] at hcs
    obtain ⟨rfl, rfl, rfl⟩ := hcs
    have hnm : n ≤ m := by rw [hmm]; split <;> omega
    obtain ⟨l, hll, hR⟩ := list_choose (R := fun i y => ok y ∧ ∀ j, j < size → w.cell? (x.add (i * size + j)) = (cellsOf y)[j]?) n (fun i hi' => by
      obtain ⟨cs', hc, ht'⟩ := hi i (by omega)
      rw [hC] at hc
      obtain ⟨_, hcl, hat⟩ := World.cells?_some hc
      obtain ⟨y, rfl, hy⟩ := hel nn cs' _ hcl ht'
      exact ⟨y, hy, fun j hj => by rw [← Go.Deep.add_add]; exact hat j hj⟩)
    refine ⟨l, hll.symm, hl, hm, fun y hy => ?_, cellsAt_elems cellsOf size hs hlen l (fun i hi' j hj => (hR i hi').2 j hj)⟩
    obtain ⟨i, hi', rfl⟩ := List.getElem_of_mem hy
    exact (hR i hi').1

/-- The one-cell fields of a record. -/
theorem open_fields {e : TypeId} {fs : Array Field} {fuel : Nat} {cs : List Value} {x : DataW H × List MemPlace} (he : P.underlying e = some (.struct fs)) (hone : oneCellFields P fs = true) (hl : cs.length = fs.size)
    (h : DataW.trod enc P w 0 spare held fuel e cs = some x) : ∀ (j : Nat) (f : Field), fs[j]? = some f → ∃ v y n, cs[j]? = some v ∧ DataW.trod enc P w 0 spare held n f.type [v] = some y := by
  obtain ⟨xs, n, _, _, _, hxl, hg⟩ := DataW.trod_struct he h
  intro j f hj
  obtain ⟨h1, h2⟩ := hone_of hone j f hj
  have hjl : j < fs.size := (Array.getElem?_eq_some_iff.1 hj).1
  have hgj := hg j f hj
  have hcj : j < cs.length := by omega
  rw [h1, h2, List.drop_eq_getElem_cons hcj, List.getElem?_eq_getElem (by omega)] at hgj
  exact ⟨cs[j], _, n, List.getElem?_eq_getElem hcj, hgj⟩

theorem open_strs {t e : TypeId} {a : Option Addr} {n c : Nat} {d : DataW H} {p : List MemPlace} (ht : P.underlying t = some (.slice e)) (he : P.underlying e = some .string) (hC : P.cellsOf e = 1)
    (h : DataW.Trod enc P w 0 spare held t (.slice a n c) d p) : ∃ l : List ByteArray, n = l.length ∧ n ≤ c ∧ c ≤ maxLen ∧ (∀ x ∈ l, x.size ≤ maxLen) ∧ CellsAt w a (strsC l) := by
  obtain ⟨l, h1, h2, h3, h4, h5⟩ := open_elems (fun s : ByteArray => [Value.string s]) 1 (fun s => s.size ≤ maxLen) (by decide) (fun _ => rfl) ht hC (fun fuel cs x _ hx => by
    obtain ⟨s, rfl, _, hw⟩ := DataW.trod_string he hx
    exact ⟨s, rfl, hw⟩) h
  refine ⟨l, h1, h2, h3, h4, ?_⟩
  rw [strsC, map_flat]; exact h5

theorem open_ints' {t e : TypeId} {a : Option Addr} {n c : Nat} {d : DataW H} {p : List MemPlace} (ht : P.underlying t = some (.slice e)) (he : P.underlying e = some (.int .i64)) (hC : P.cellsOf e = 1)
    (h : DataW.Trod enc P w 0 spare held t (.slice a n c) d p) : ∃ l : List Int, n = l.length ∧ n ≤ c ∧ c ≤ maxLen ∧ (∀ x ∈ l, (Lit.int .i64 x).wf = true) ∧ CellsAt w a (intCells l) := by
  obtain ⟨l, h1, h2, h3, h4, h5⟩ := open_elems (fun s : Int => [Value.int .i64 s]) 1 (fun s => (Lit.int .i64 s).wf = true) (by decide) (fun _ => rfl) ht hC (fun fuel cs x _ hx => by
    obtain ⟨s, rfl, _, hw⟩ := DataW.trod_int he hx
    exact ⟨s, rfl, hw⟩) h
  refine ⟨l, h1, h2, h3, h4, ?_⟩
  rw [intCells, map_flat]; exact h5
end

end Go.Proofs.Ytnjiooljoekhmaa
