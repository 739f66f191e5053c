/-
  The contracts of chapter 5's functions and of the laws' own helpers of entries, as the laws of the table call them: rows that can be read, and nothing that was there is written. Condition: rows have at most 2^20 entries.
-/
import Derived.Test.YtapombdkkcjodaaDrawF
import Derived.Test.YtapombdkkcjodaaShelfI
import Derived.Test.YtapombdkkcjodaaHelpA
namespace Go.Proofs.Ytapombdkkcjodaa
open Go.RowKit

theorem implOk_w (r : Bool) (L : List En) (a : Option Addr) (n c : Nat) (w : World) (hr : r = true ↔ shOk L) (h : EnAt w a n c L) (h9 : L.length ≤ 1048576) :
    Calls Try.prog 20 #[.slice a n c] w fun e w' => e = .returned (.bool r) ∧ Below w.heap.size w w' := implShelfOk_is r L a n c w hr h.len (by have := h.len; omega) h.at_
theorem specOk_w (r : Bool) (L : List En) (a : Option Addr) (n c : Nat) (w : World) (hr : r = true ↔ shOk L) (h : EnAt w a n c L) (h9 : L.length ≤ 1048576) :
    Calls Try.prog 32 #[.slice a n c] w fun e w' => e = .returned (.bool r) ∧ Below w.heap.size w w' := specShelfOk_is r L a n c w hr h.len (by have := h.len; omega) h.at_

theorem specJoin_w (A B : List En) (R : List En) (a : Option Addr) (n c : Nat) (b : Option Addr) (m d : Nat) (w : World) (hR : joinL5 A B = R) (ha : EnAt w a n c A) (hb : EnAt w b m d B) (hA : A.length ≤ 1048576) (hB : B.length ≤ 1048576) :
    Calls Try.prog 40 #[.slice a n c, .slice b m d] w fun e w' => ∃ a' n' c', e = .returned (.slice a' n' c') ∧ EnAt w' a' n' c' R ∧ Below w.heap.size w w' := by
  subst hR
  refine (specJoin5_any A B a b n c m d w ha.len hb.len (by have := ha.len; omega) (by have := hb.len; omega) ha.at_ hb.at_).mono ?_
  rintro e w2 ⟨a', n', c', he, ho⟩
  exact ⟨a', n', c', he, enAt_of ho.own, ho.below⟩



/-- A row of numbers that can be read. -/
structure InAt (w : World) (a : Option Addr) (n c : Nat) (L : List Int) : Prop where
  len : n = L.length
  cap : n ≤ c
  at_ : CellsAt w a (intCells L)
theorem inAt_of {w : World} {B : Nat} {a : Option Addr} {n c : Nat} {L : List Int} (h : w.ownsRow B 3 1 (.slice a n c) n (intCells L)) : InAt w a n c L := ⟨ints_len5 h, (own_cap h).1, cellsAt_own h⟩
theorem InAt.later {w w' : World} {a : Option Addr} {n c : Nat} {L : List Int} (h : InAt w a n c L) (hb : Below w.heap.size w w') : InAt w' a n c L := ⟨h.len, h.cap, h.at_.below hb⟩
theorem InAt.ints {w : World} {a : Option Addr} {n c : Nat} {L : List Int} (h : InAt w a n c L) : IntsAt w a L := ⟨fun hne => by
  obtain ⟨b, o, ha, _, hc⟩ := h.at_.spot (fun e => hne (by cases L with | nil => rfl | cons x L => simp [intCells] at e))
  exact ⟨b, o, ha, fun j hj => hc j _ (by simp [intCells, hj])⟩⟩


theorem below_draws {w w' : World} (h : ∃ q, w' = w.drewN q) : Below w.heap.size w w' := by obtain ⟨q, rfl⟩ := h; exact below_drewN' (Below.refl _ _) q


set_option maxHeartbeats 1000000 in
theorem sameEnts_w (l : List En) (a : Option Addr) (n c : Nat) (b : Option Addr) (m d : Nat) (w : World) (ha : EnAt w a n c l) (hb : EnAt w b m d l) (hl : l.length ≤ 1048576) :
    Calls Try.prog 22 #[.slice a n c, .slice b m d] w fun e w' => e = .returned (.bool true) ∧ Below w.heap.size w w' := by
  have hn := ha.len
  have hm := hb.len
  have hn9 : n ≤ 1048576 := by omega
  obtain rfl : m = n := by omega
  have HN := Lib.hid hn
  have HA := Lib.hid ha.at_
  have HB := Lib.hid hb.at_
  clear hn hm hl ha hb
  go_enter Try.func22, Try.ntmps22
  go_wp2
  go_loopw [5] (fun i wr => ∃ k : Nat, k ≤ m ∧ i = .int .i64 k ∧ ∃ q, wr = w.drewN q) (fun i _ => m - (intOf i).toNat)
  case atStart => exact ⟨0, Nat.zero_le _, rfl, 0, rfl⟩
  case round =>
    obtain ⟨k, hk, rfl, q, rfl⟩ := hrel
    by_cases hlt : k < m
    · have hkl : k < l.length := by have := HN.out; omega
      obtain ⟨x, hx⟩ : ∃ x, l[k].1 = x := ⟨_, rfl⟩
      obtain ⟨y, hy⟩ : ∃ y, l[k].2.1 = y := ⟨_, rfl⟩
      obtain ⟨z, hz⟩ : ∃ z, l[k].2.2 = z := ⟨_, rfl⟩
      have hmm : l[k] = (x, y, z) := by rw [← hx, ← hy, ← hz]
      obtain ⟨b1, o1, rfl, _, g1, g2, g3⟩ := ent_cells HA.out hkl hmm
      obtain ⟨b2, o2, rfl, _, g4, g5, g6⟩ := ent_cells HB.out hkl hmm
      clear hx hy hz hmm
      go_wp2
      go_quiet (fail)
      go_wp2
      go_roundw
      case rel => exact ⟨k + 1, by omega, by go_num, _, rfl⟩
      case measure => simp [intOf]; omega
    · go_wp2
      go_ret
      exact ⟨rfl, below_draws ⟨q, rfl⟩⟩




end Go.Proofs.Ytapombdkkcjodaa
