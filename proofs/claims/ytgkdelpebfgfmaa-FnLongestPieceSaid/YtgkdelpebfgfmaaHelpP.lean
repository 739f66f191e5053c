/-
  What the laws of the table ask of pieces: the contracts in the form of the laws' calls, and plain facts on rows of pieces. No conditions. (Written by wip/tools/ch7_laws.py.)
-/
import Derived.Test.YtgkdelpebfgfmaaPieceE
import Derived.Test.YtgkdelpebfgfmaaPieceL
import Derived.Test.YtgkdelpebfgfmaaHelpA
namespace Go.Proofs.Ytgkdelpebfgfmaa
open Go.RowKit

theorem own_cap7 {w : World} {B : Nat} {e : TypeId} {s : Nat} {a : Option Addr} {n c : Nat} {xs : List Value} (h : w.ownsRow B e s (.slice a n c) n xs) : n ≤ c := by
  rcases h.2 with ⟨hv, h0⟩ | ⟨g, cap', cur, hv, h1, h2, h3, h4, h5⟩
  · simp only [Value.slice.injEq] at hv
    omega
  · simp only [Value.slice.injEq] at hv
    omega
/-- A row of pieces that can be read. -/
structure EnAt (w : World) (a : Option Addr) (n c : Nat) (L : List En) : Prop where
  len : n = L.length
  cap : n ≤ c
  at_ : CellsAt w a (entsC L)
theorem enAt_of {w : World} {B : Nat} {a : Option Addr} {n c : Nat} {L : List En} (h : w.ownsRow B 29 3 (.slice a n c) n (entsC L)) : EnAt w a n c L := ⟨ents_len7 h, own_cap7 h, cellsAt_own h⟩
theorem EnAt.later {w w' : World} {a : Option Addr} {n c : Nat} {L : List En} (h : EnAt w a n c L) (hb : Below w.heap.size w w') : EnAt w' a n c L := ⟨h.len, h.cap, h.at_.below hb⟩
theorem below_draws {w w' : World} (h : ∃ q, w' = w.drewN q) : Below w.heap.size w w' := by obtain ⟨q, rfl⟩ := h; exact below_drewN' (Below.refl _ _) q

theorem implPcs_w (s t : ByteArray) (n : Int) (R : List En) (w : World) (h : piecesT s t n = R) (hn9 : n ≤ 9223372036854775807) (hs : s.size ≤ 1048576) (ht : t.size ≤ 1048576) :
    Calls Try.prog 11 #[.string s, .string t, .int .i64 n] w fun e w' => ∃ a m c, e = .returned (.slice a m c) ∧ EnAt w' a m c R ∧ Below w.heap.size w w' := by
  refine (implPieces_any s t n R w h hn9 hs ht).mono ?_
  rintro e w2 ⟨a, m, c, he, ho⟩
  exact ⟨a, m, c, he, enAt_of ho.own, ho.below⟩
theorem specPcs_w (s t : ByteArray) (n : Int) (R : List En) (w : World) (h : piecesT s t n = R) (hs : s.size ≤ 1048576) (ht : t.size ≤ 1048576) :
    Calls Try.prog 13 #[.string s, .string t, .int .i64 n] w fun e w' => ∃ a m c, e = .returned (.slice a m c) ∧ EnAt w' a m c R ∧ Below w.heap.size w w' := by
  refine (specPieces_any s t n R w h hs ht).mono ?_
  rintro e w2 ⟨g, m, c, he, ho⟩
  exact ⟨_, m, c, he, enAt_of ho.own, ho.below⟩

set_option maxHeartbeats 1000000 in
theorem samePcs_w (l : List En) (a : Option Addr) (n c : Nat) (b : Option Addr) (m d : Nat) (w : World) (ha : EnAt w a n c l) (hb : EnAt w b m d l) (hl : l.length ≤ 1099511627776) :
    Calls Try.prog 12 #[.slice a n c, .slice b m d] w fun e w' => e = .returned (.bool true) ∧ Below w.heap.size w w' := by
  have hn := ha.len
  have hm := hb.len
  have hn9 : n ≤ 1099511627776 := by omega
  obtain rfl : m = n := by omega
  have HN := Lib.hid hn
  have HA := Lib.hid ha.at_
  have HB := Lib.hid hb.at_
  clear hn hm hl ha hb
  go_enter Try.func12, Try.ntmps12
  go_wp2
  go_loopw [5] (fun i wr => ∃ k : Nat, k ≤ m ∧ i = .int .i64 k ∧ ∃ q, wr = w.drewN q) (fun i _ => m - (intOf i).toNat)
  case atStart => exact ⟨0, Nat.zero_le _, rfl, 0, rfl⟩
  case round =>
    obtain ⟨k, hk, rfl, q, rfl⟩ := hrel
    by_cases hlt : k < m
    · have hkl : k < l.length := by have := HN.out; omega
      obtain ⟨x, hx⟩ : ∃ x, l[k].1 = x := ⟨_, rfl⟩
      obtain ⟨y, hy⟩ : ∃ y, l[k].2.1 = y := ⟨_, rfl⟩
      obtain ⟨z, hz⟩ : ∃ z, l[k].2.2 = z := ⟨_, rfl⟩
      have hmm : l[k] = (x, y, z) := by rw [← hx, ← hy, ← hz]
      obtain ⟨b1, o1, rfl, _, g1, g2, g3⟩ := ent_cells HA.out hkl hmm
      obtain ⟨b2, o2, rfl, _, g4, g5, g6⟩ := ent_cells HB.out hkl hmm
      clear hx hy hz hmm
      go_wp2
      go_quiet (fail)
      go_wp2
      go_roundw
      case rel => exact ⟨k + 1, by omega, by go_num, _, rfl⟩
      case measure => simp [intOf]; omega
    · go_wp2
      go_ret
      exact ⟨rfl, below_draws ⟨q, rfl⟩⟩

theorem some_bool7 (P : Prop) : ∃ r : Bool, r = true ↔ P := by
  by_cases h : P
  · exact ⟨true, fun _ => h, fun _ => rfl⟩
  · exact ⟨false, (fun e => absurd e (by decide)), (fun e => absurd e h)⟩
theorem wf_bounds7 {n : Int} (h : (Lit.int .i64 n).wf = true) : -9223372036854775808 ≤ n ∧ n ≤ 9223372036854775807 := by
  simp [Lit.wf, IntKind.min, IntKind.max, IntKind.signed, IntKind.bits] at h
  omega
/-- Each piece grows from its own places, and has bytes enough. -/
theorem piece_facts {s t : ByteArray} {N : Nat} (hN : 1 ≤ N) {x y z : Int} (h : (x, y, z) ∈ piecesT s t (N : Int)) :
    growT s t x y = ((x, y, z), true) ∧ (N : Int) ≤ z ∧ 0 ≤ x ∧ x < s.size ∧ 0 ≤ y ∧ y < t.size ∧ z ≤ s.size := by
  obtain ⟨i, j, ⟨h1, h2, h3⟩, h4⟩ := (pieces_mem hN).1 h
  have hr := runP_room s t i j (Nat.le_of_lt h1.1) (Nat.le_of_lt h1.2.1)
  simp only [pieceN, Prod.mk.injEq] at h4
  obtain ⟨rfl, rfl, rfl⟩ := h4
  have := h1.1
  have := h1.2.1
  refine ⟨?_, by omega, by omega, by omega, by omega, by omega, by omega⟩
  rw [growT_yes h1, growN, h2]
  rfl
/-- Of two pieces side by side the first one comes ahead by its places. -/
theorem piece_order {s t : ByteArray} {N : Nat} (hN : 1 ≤ N) {k : Nat} {x y z x' y' z' : Int} (hk : k + 1 < (piecesT s t (N : Int)).length) (h1 : (piecesT s t (N : Int))[k] = (x', y', z')) (h2 : (piecesT s t (N : Int))[k + 1] = (x, y, z)) :
    x' < x ∨ x' = x ∧ y' < y := by
  have hlt := List.pairwise_iff_getElem.1 (pieces_up s t (N : Int)) k (k + 1) (by omega) hk (by omega)
  rw [h1, h2] at hlt
  have m1 : (x', y', z') ∈ piecesT s t (N : Int) := by rw [← h1]; exact List.getElem_mem _
  have m2 : (x, y, z) ∈ piecesT s t (N : Int) := by rw [← h2]; exact List.getElem_mem _
  rcases hlt with h | ⟨hx, h | ⟨h, h9⟩⟩
  · exact .inl h
  · exact .inr ⟨hx, h⟩
  · exfalso
    have g1 := (piece_facts hN m1).1
    have g2 := (piece_facts hN m2).1
    simp only at hx h h9
    rw [hx, h, g2] at g1
    simp only [Prod.mk.injEq] at g1
    omega
/-- How many of the first k pieces have given bytes. -/
def cntP (L : List En) (k : Nat) (i j n : Int) : Nat := ((L.take k).filter fun p => decide (hasP p i j n)).length
theorem cntP_zero (L : List En) (i j n : Int) : cntP L 0 i j n = 0 := rfl
theorem cntP_yes {L : List En} {k : Nat} {i j n : Int} (hk : k < L.length) (h : hasP L[k] i j n) : cntP L (k + 1) i j n = cntP L k i j n + 1 := by
  rw [cntP, List.take_succ_eq_append_getElem hk, List.filter_append, List.length_append, List.filter_cons_of_pos (by simpa using h)]
  rfl
theorem cntP_no {L : List En} {k : Nat} {i j n : Int} (hk : k < L.length) (h : ¬ hasP L[k] i j n) : cntP L (k + 1) i j n = cntP L k i j n := by
  rw [cntP, List.take_succ_eq_append_getElem hk, List.filter_append, List.length_append, List.filter_cons_of_neg (by simpa using h)]
  rfl
theorem cntP_le (L : List En) (k : Nat) (i j n : Int) : cntP L k i j n ≤ k := by
  have h1 := List.length_filter_le (fun p => decide (hasP p i j n)) (L.take k)
  rw [List.length_take] at h1
  unfold cntP
  omega
theorem cntP_one {s t : ByteArray} {N i j : Nat} {L : List En} (hL : piecesT s t (N : Int) = L) (hN : 1 ≤ N) (h : N ≤ runP s t i j) {k : Nat} (hk : L.length ≤ k) : cntP L k i j N = 1 := by
  rw [cntP, List.take_of_length_le hk, ← hL]
  exact many_one hN h
theorem cntP_none {s t : ByteArray} {N i j : Nat} {L : List En} (hL : piecesT s t (N : Int) = L) (hN : 1 ≤ N) (h : ¬ N ≤ runP s t i j) {k : Nat} (hk : L.length ≤ k) : cntP L k i j N = 0 := by
  rw [cntP, List.take_of_length_le hk, ← hL]
  exact many_none hN h

end Go.Proofs.Ytgkdelpebfgfmaa
