/-
  The contracts of the laws' helpers over slices of ints and of texts, in one form for all laws (numbers as Nat, worlds by Below); and the laws' copy of a slice of ints, and its room. Conditions: fewer than 2^38 elements.
-/
import Derived.Test.YtmegfebgfhiigaaHelpM
namespace Go.Proofs.Ytmegfebgfhiigaa
open Go.RowKit

theorem below_same {w w' : World} (h : w = w') : Below w.heap.size w w' := by subst h; exact Below.refl _ _
theorem below_drawn {w w' : World} (h : ∃ q, w' = w.drewN q) : Below w.heap.size w w' := by obtain ⟨q, rfl⟩ := h; exact below_drewN' (Below.refl _ _) q




/-- A slice of ints that reads as these numbers, in the words of the elder texts. -/
theorem CellsAt.ints {w : World} {a : Option Addr} {l : List Int} (h : CellsAt w a (intCells l)) : IntsAt w a l :=
  ⟨fun hne => by
    obtain ⟨b, o, ha, _, hc⟩ := h.spot (by simpa [intCells] using hne)
    refine ⟨b, o, ha, fun j hj => hc j _ ?_⟩
    simp [intCells, List.getD, List.getElem?_eq_getElem hj]⟩

theorem ints_len {w : World} {B : Nat} {e : TypeId} {a : Option Addr} {n c : Nat} {l : List Int} (h : w.ownsRow B e 1 (.slice a n c) n (intCells l)) : n = l.length := by
  have := h.1
  simp only [intCells, List.length_map] at this; omega

theorem eqIntS_b (a b : Option Addr) (n c d : Nat) (l : List Int) (w : World) (hn : n = l.length) (hl : n < 274877906944) (h1 : CellsAt w a (intCells l)) (h2 : CellsAt w b (intCells l)) :
    Calls Try.prog 11 #[.slice a n c, .slice b n d] w fun e w' => e = .returned (.bool true) ∧ Below w.heap.size w w' := by
  subst hn
  exact (eqIntS_same a b c d l w (by omega) h1.ints h2.ints).mono fun _ _ h => ⟨h.1, below_drawn h.2⟩

theorem markIntS_z (B : Nat) (a : Option Addr) (n c : Nat) (l : List Int) (z : Int) (m : Nat) (w : World) (hown : w.ownsRow B 3 1 (.slice a n c) n (intCells l)) (hz : z = m) (hn : n < 68719476736) (_h0 : 0 < m) (hm : m < 274877906944) :
    Calls Try.prog 12 #[.slice a n c, .int .i64 z] w fun e w' => e = .returned (.int .i64 ((m + n * 1 : Nat) : Int)) ∧ w'.ownsRow B 3 1 (.slice a n c) n (intCells (marks m n)) ∧ w.grownBy w' (Value.ownBlock (.slice a n c)) := by
  subst hz
  refine (markIntS_any B a n c l m w hown (by omega) (by omega) (by omega)).mono fun _ _ h => ⟨h.1.trans (ret_int (by omega)), h.2⟩

theorem heldIntS_z (a : Option Addr) (n c : Nat) (z : Int) (m : Nat) (w : World) (hat : CellsAt w a (intCells (marks m n))) (hz : z = m) (hn : n < 68719476736) (_h0 : 0 < m) (hm : m < 274877906944) :
    Calls Try.prog 13 #[.slice a n c, .int .i64 z] w fun e w' => e = .returned (.int .i64 ((m + n * 1 : Nat) : Int)) ∧ Below w.heap.size w w' := by
  subst hz
  refine (heldIntS_any a n c m w hat.ints (by omega) (by omega) (by omega)).mono fun _ _ h => ⟨h.1.trans (ret_int (by omega)), below_same h.2⟩


theorem Try.ulIN : Try.prog.underlying 22 = some (.slice 3) := by kernel_rfl
theorem Try.infoIN : (Try.prog.info? 3).map (fun i => (i.zero, i.size, i.bytes)) = some (some (.int .i64 0), 1, 8) := by kernel_rfl
theorem intCells_next (l : List Int) (k : Nat) (h : k < l.length) : intCells (l.take (k + 1)) = intCells (l.take k) ++ [.int .i64 l[k]] := by
  rw [List.take_succ_eq_append_getElem h, intCells_append]; rfl

/-- The laws' copy of a row of ints. -/
theorem toIntS_any (l : List Int) (a : Option Addr) (n c : Nat) (w : World) (hn : n = l.length) (hm : n ≤ 1048576) (hat : CellsAt w a (intCells l)) :
    Calls Try.prog 9 #[.slice a n c] w fun e w' => ∃ a', e = .returned (.slice a' n n) ∧ One w w.heap.size w' 3 1 a' n n (intCells l) := by
  obtain ⟨zs, w1, hmk, hzl, hone⟩ := make_own (P := Try.prog) 22 3 Try.ulIN Try.infoIN n (by omega) (by unfold maxLen; omega) w
  have HN := Lib.hid hn
  have HZ := Lib.hid hzl
  clear hn hzl
  go_enter Try.func9, Try.ntmps9
  go_wp2
  clear hmk
  go_loopw [4] (fun i wr => ∃ k : Nat, k ≤ n ∧ i = .int .i64 k ∧ One w w.heap.size wr 3 1 (some ⟨w.heap.size, 0, none⟩) n n (intCells (l.take k) ++ zs.drop k)) (fun i _ => n - (intOf i).toNat)
  case atStart => exact ⟨0, Nat.zero_le _, rfl, by simpa [intCells] using hone⟩
  case round =>
    clear hone
    obtain ⟨k, hk, rfl, hone⟩ := hrel
    by_cases hlt : k < n
    · have hkl : k < l.length := by rw [← HN.out]; exact hlt
      obtain ⟨b, o, rfl, _, hc⟩ := (hat.below hone.below).spot (fun e => by have := congrArg List.length e; simp [intCells] at this; rw [this] at hkl; simp at hkl)
      have g1 := hc k (.int .i64 l[k]) (by simp [intCells, hkl])
      obtain ⟨t, ht⟩ : ∃ t, l[k] = t := ⟨_, rfl⟩
      rw [ht] at g1
      have hst := hone.stored k (.int .i64 t)
      rw [set_next (by simp [intCells]; omega) (by rw [HZ.out]; omega), ← ht, ← intCells_next l k hkl] at hst
      rw [ht] at hst
      obtain ⟨z, hz⟩ := hone.cell k (by omega)
      have hfz := hone.frozen k
      clear hc hone ht
      go_wp2
      go_roundw
      case rel => exact ⟨k + 1, by omega, by go_num, hst⟩
      case measure => simp [intOf]; omega
    · obtain rfl : k = n := by omega
      have hE : intCells (l.take k) ++ zs.drop k = intCells l := by
        rw [List.take_of_length_le (by rw [HN.out]; exact Nat.le_refl _), List.drop_of_length_le (by rw [HZ.out]; omega), List.append_nil]
      rw [hE] at hone
      clear hE
      go_wp2
      go_ret
      exact ⟨_, rfl, hone⟩

end Go.Proofs.Ytmegfebgfhiigaa
