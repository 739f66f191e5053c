/-
  The contracts of the laws' own helpers over texts: markText (a text for a number), eqStringS, markStringS, heldStringS, szStringS, toStringS. Conditions: fewer than 2^40 elements; what is marked is the call's own.
-/
import Derived.Test.YtnjiooljoekhmaaMem
import Derived.Test.YtnjiooljoekhmaaHelpI
import Derived.Deep.RegionHeld3
import Derived.Deep.DeepFit
import Derived.IntWalk
namespace Go.Proofs.Ytnjiooljoekhmaa
open Go.RowKit

theorem Try.uls' : Try.prog.underlying 9 = some .string := by kernel_rfl

/-- The decimal digits of a number ahead of what is there. -/
def digL (k : Nat) (out : List UInt8) : List UInt8 := if h : 0 < k then digL (k / 10) (UInt8.ofNat (48 + k % 10) :: out) else out
termination_by k
decreasing_by omega

theorem digL_pos {k : Nat} (h : 0 < k) (out : List UInt8) : digL k out = digL (k / 10) (UInt8.ofNat (48 + k % 10) :: out) := by rw [digL, dif_pos h]
theorem digL_zero (out : List UInt8) : digL 0 out = out := by rw [digL, dif_neg (by omega)]

/-- The text that marks a number. -/
def markB (k : Nat) : ByteArray := ⟨(109 :: digL k []).toArray⟩

theorem one_byte_string {P : Program} (w : World) (src dst e : TypeId) (v : Int) (hs : P.underlying src = some (.slice e)) (he : P.underlying e = some (.int .u8)) (hd : P.underlying dst = some .string) :
    (convert src dst (.slice (some ⟨w.heap.size, 0, none⟩) 1 1)).run P (w.alloc (.cells #[.int .u8 v] e)) = .ok (.string ⟨#[UInt8.ofNat v.toNat]⟩) (w.alloc (.cells #[.int .u8 v] e)) := by
  rw [run_convert_bytes_string _ src dst e _ 1 1 hs he hd]
  have hl := run_loadCells_list (P := P) (w.alloc (.cells #[.int .u8 v] e)) ⟨w.heap.size, 0, none⟩ [.int .u8 v] (fun j u hj => by
    rw [Addr.add_lit, cell_of_row _ w.heap.size (0 + j) _ e (0, 0) (heap_alloc_new w _)]
    simpa using hj)
  rw [run_bytesToString _ ⟨w.heap.size, 0, none⟩ 1 1 [v] hl]
  rfl

theorem dig_cat (u : UInt8) (out : List UInt8) : (⟨#[u]⟩ : ByteArray) ++ ⟨out.toArray⟩ = ⟨(u :: out).toArray⟩ := by
  apply ByteArray.ext
  simp
theorem ret_strM {a b : ByteArray} (h : a = b) : Ending.returned (.string a) = .returned (.string b) := by rw [h]



theorem grown_below {w w' : World} (h : Below w.heap.size w w') (row : Option Nat) : w.grownBy w' row := ⟨h.os, h.tape, h.output, h.size, fun k hk _ => h.block k hk⟩

/-! ### Slices of texts -/
theorem strs_len {w : World} {B : Nat} {e : TypeId} {a : Option Addr} {n c : Nat} {l : List ByteArray} (h : w.ownsRow B e 1 (.slice a n c) n (strsC l)) : n = l.length := by
  have := h.1
  rw [strsC_len] at this; omega


/-- Texts that mark ascending numbers. -/
def marksT (m : Nat) (n : Nat) : List ByteArray := (List.range n).map fun i => markB (m + i)
theorem marksT_len (m n : Nat) : (marksT m n).length = n := by simp [marksT]
theorem marksT_get (m n k : Nat) (h : k < n) : (marksT m n)[k]'(by rw [marksT_len]; exact h) = markB (m + k) := by simp [marksT]
theorem marksT_step (m : Nat) (l : List ByteArray) (k : Nat) (h : k < l.length) {t : ByteArray} (ht : markB (m + k) = t) : (strsC (marksT m k ++ l.drop k)).set k (.string t) = strsC (marksT m (k + 1) ++ l.drop (k + 1)) := by
  have e : l.drop k = l[k] :: l.drop (k + 1) := (List.drop_eq_getElem_cons h)
  have e2 : (marksT m k ++ l.drop k).set k t = marksT m (k + 1) ++ l.drop (k + 1) := by
    rw [List.set_append, if_neg (by rw [marksT_len]; omega), marksT_len, Nat.sub_self, e, List.set_cons_zero, marksT, marksT, List.range_succ, List.map_append, List.append_assoc, ← ht]
    rfl
  rw [← e2, strsC, strsC, List.map_set]







end Go.Proofs.Ytnjiooljoekhmaa
