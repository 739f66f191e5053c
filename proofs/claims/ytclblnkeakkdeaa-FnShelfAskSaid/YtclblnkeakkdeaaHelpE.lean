/-
  The contracts of chapter 5's functions and of the laws' own helpers of entries, as the laws of the table call them: rows that can be read, and nothing that was there is written. Condition: rows have at most 2^20 entries.
-/
import Derived.Test.YtclblnkeakkdeaaDrawF
import Derived.Test.YtclblnkeakkdeaaShelfO
import Derived.Test.YtclblnkeakkdeaaShelfK
import Derived.Test.YtclblnkeakkdeaaShelfI
import Derived.Test.YtclblnkeakkdeaaHelpA
import Derived.Test.YtclblnkeakkdeaaHelpS
namespace Go.Proofs.Ytclblnkeakkdeaa
open Go.RowKit

theorem implOk_w (r : Bool) (L : List En) (a : Option Addr) (n c : Nat) (w : World) (hr : r = true ↔ shOk L) (h : EnAt w a n c L) (h9 : L.length ≤ 1048576) :
    Calls Try.prog 20 #[.slice a n c] w fun e w' => e = .returned (.bool r) ∧ Below w.heap.size w w' := implShelfOk_is r L a n c w hr h.len (by have := h.len; omega) h.at_
theorem specOk_w (r : Bool) (L : List En) (a : Option Addr) (n c : Nat) (w : World) (hr : r = true ↔ shOk L) (h : EnAt w a n c L) (h9 : L.length ≤ 1048576) :
    Calls Try.prog 67 #[.slice a n c] w fun e w' => e = .returned (.bool r) ∧ Below w.heap.size w w' := specShelfOk_is r L a n c w hr h.len (by have := h.len; omega) h.at_

theorem specJoin_w (A B : List En) (R : List En) (a : Option Addr) (n c : Nat) (b : Option Addr) (m d : Nat) (w : World) (hR : joinL5 A B = R) (ha : EnAt w a n c A) (hb : EnAt w b m d B) (hA : A.length ≤ 1048576) (hB : B.length ≤ 1048576) :
    Calls Try.prog 93 #[.slice a n c, .slice b m d] w fun e w' => ∃ a' n' c', e = .returned (.slice a' n' c') ∧ EnAt w' a' n' c' R ∧ Below w.heap.size w w' := by
  subst hR
  refine (specJoin5_any A B a b n c m d w ha.len hb.len (by have := ha.len; omega) (by have := hb.len; omega) ha.at_ hb.at_).mono ?_
  rintro e w2 ⟨a', n', c', he, ho⟩
  exact ⟨a', n', c', he, enAt_of ho.own, ho.below⟩

theorem implLose_w (A : List En) (x : Int) (R : List En) (a : Option Addr) (n c : Nat) (w : World) (hR : loseL A x = R) (ha : EnAt w a n c A) (hA : A.length ≤ 1048576) :
    Calls Try.prog 17 #[.slice a n c, .int .i64 x] w fun e w' => ∃ a' n' c', e = .returned (.slice a' n' c') ∧ EnAt w' a' n' c' R ∧ Below w.heap.size w w' := by
  subst hR
  refine (implLose_any A x a n c w ha.len (by have := ha.len; omega) ha.at_).mono ?_
  rintro e w2 ⟨a', n', c', he, ho⟩
  exact ⟨a', n', c', he, enAt_of ho.own, ho.below⟩
theorem specLose_w (A : List En) (x : Int) (R : List En) (a : Option Addr) (n c : Nat) (w : World) (hR : loseL A x = R) (ha : EnAt w a n c A) (hA : A.length ≤ 1048576) :
    Calls Try.prog 19 #[.slice a n c, .int .i64 x] w fun e w' => ∃ a' n' c', e = .returned (.slice a' n' c') ∧ EnAt w' a' n' c' R ∧ Below w.heap.size w w' := by
  subst hR
  refine (specLose_any A x a n c w ha.len (by have := ha.len; omega) ha.at_).mono ?_
  rintro e w2 ⟨a', n', c', he, ho⟩
  exact ⟨a', n', c', he, enAt_of ho.own, ho.below⟩

theorem implFind_w (A : List En) (x : Int) (R : List En) (a : Option Addr) (n c : Nat) (w : World) (hR : findL5 A x = R) (ha : EnAt w a n c A) (hA : A.length ≤ 1048576) :
    Calls Try.prog 25 #[.slice a n c, .int .i64 x] w fun e w' => ∃ a' n' c', e = .returned (.slice a' n' c') ∧ EnAt w' a' n' c' R ∧ Below w.heap.size w w' := by
  subst hR
  refine (implFind5_any A x a n c w ha.len (by have := ha.len; omega) ha.cap ha.at_).mono ?_
  rintro e w2 ⟨a', n', c', he, ho⟩
  exact ⟨a', n', c', he, enAt_of ho.own, ho.below⟩
theorem specFind_w (A : List En) (x : Int) (R : List En) (a : Option Addr) (n c : Nat) (w : World) (hR : findL5 A x = R) (ha : EnAt w a n c A) (hA : A.length ≤ 1048576) (hc9 : c ≤ maxLen) :
    Calls Try.prog 26 #[.slice a n c, .int .i64 x] w fun e w' => ∃ a' n' c', e = .returned (.slice a' n' c') ∧ EnAt w' a' n' c' R ∧ Below w.heap.size w w' := by
  subst hR
  refine (specFind5_any A x a n c w ha.len (by have := ha.len; omega) ha.cap hc9 ha.at_).mono ?_
  rintro e w2 ⟨a', n', c', he, ho⟩
  exact ⟨a', n', c', he, enAt_of ho.own, ho.below⟩

/-- A row of numbers that can be read. -/
structure InAt (w : World) (a : Option Addr) (n c : Nat) (L : List Int) : Prop where
  len : n = L.length
  cap : n ≤ c
  at_ : CellsAt w a (intCells L)
theorem inAt_of {w : World} {B : Nat} {a : Option Addr} {n c : Nat} {L : List Int} (h : w.ownsRow B 3 1 (.slice a n c) n (intCells L)) : InAt w a n c L := ⟨ints_len5 h, (own_cap h).1, cellsAt_own h⟩
theorem InAt.later {w w' : World} {a : Option Addr} {n c : Nat} {L : List Int} (h : InAt w a n c L) (hb : Below w.heap.size w w') : InAt w' a n c L := ⟨h.len, h.cap, h.at_.below hb⟩
theorem InAt.ints {w : World} {a : Option Addr} {n c : Nat} {L : List Int} (h : InAt w a n c L) : IntsAt w a L := ⟨fun hne => by
  obtain ⟨b, o, ha, _, hc⟩ := h.at_.spot (fun e => hne (by cases L with | nil => rfl | cons x L => simp [intCells] at e))
  exact ⟨b, o, ha, fun j hj => hc j _ (by simp [intCells, hj])⟩⟩

theorem implDocs_w (A : List En) (R : List Int) (a : Option Addr) (n c : Nat) (w : World) (hR : docsL5 A = R) (ha : EnAt w a n c A) (hA : A.length ≤ 1048576) :
    Calls Try.prog 23 #[.slice a n c] w fun e w' => ∃ a' n' c', e = .returned (.slice a' n' c') ∧ InAt w' a' n' c' R ∧ Below w.heap.size w w' := by
  subst hR
  refine (implDocs5_any A a n c w ha.len (by have := ha.len; omega) ha.at_).mono ?_
  rintro e w2 ⟨a', n', c', he, ho⟩
  exact ⟨a', n', c', he, inAt_of ho.own, ho.below⟩
theorem specDocs_w (A : List En) (R : List Int) (a : Option Addr) (n c : Nat) (w : World) (hR : docsL5 A = R) (ha : EnAt w a n c A) (hA : A.length ≤ 1048576) :
    Calls Try.prog 29 #[.slice a n c] w fun e w' => ∃ a' n' c', e = .returned (.slice a' n' c') ∧ InAt w' a' n' c' R ∧ Below w.heap.size w w' := by
  subst hR
  refine (specDocs5_any A a n c w ha.len (by have := ha.len; omega) ha.at_).mono ?_
  rintro e w2 ⟨g', n', c', he, ho⟩
  exact ⟨_, n', c', he, inAt_of ho.own, ho.below⟩

theorem below_draws {w w' : World} (h : ∃ q, w' = w.drewN q) : Below w.heap.size w w' := by obtain ⟨q, rfl⟩ := h; exact below_drewN' (Below.refl _ _) q

theorem sameInts_w (L : List Int) (a : Option Addr) (n c : Nat) (b : Option Addr) (m d : Nat) (w : World) (ha : InAt w a n c L) (hb : InAt w b m d L) (hL : L.length ≤ 1048576) :
    Calls Try.prog 28 #[.slice a n c, .slice b m d] w fun e w' => e = .returned (.bool true) ∧ Below w.heap.size w w' := by
  have e1 := ha.len
  have e2 := hb.len
  have i1 := ha.ints
  have i2 := hb.ints
  subst e1 e2
  exact (sameInts_same a b c d L w (by omega) i1 i2).mono fun e w' h => ⟨h.1, below_draws h.2⟩
theorem rising_w (L : List Int) (a : Option Addr) (n c : Nat) (w : World) (ha : InAt w a n c L) (hL : L.length ≤ 1048576) (hu : L.Pairwise ltI) :
    Calls Try.prog 30 #[.slice a n c] w fun e w' => e = .returned (.bool true) ∧ Below w.heap.size w w' := by
  have e1 := ha.len
  have i1 := ha.ints
  subst e1
  refine (rising_yes a c L w (by omega) i1 (fun j hj => ?_)).mono fun e w' h => ⟨h.1, below_draws h.2⟩
  rw [getD_at L j (by omega), getD_at L (j + 1) hj]
  exact gup_at hu (by omega) hj

set_option maxHeartbeats 1000000 in
theorem sameEnts_w (l : List En) (a : Option Addr) (n c : Nat) (b : Option Addr) (m d : Nat) (w : World) (ha : EnAt w a n c l) (hb : EnAt w b m d l) (hl : l.length ≤ 1048576) :
    Calls Try.prog 18 #[.slice a n c, .slice b m d] w fun e w' => e = .returned (.bool true) ∧ Below w.heap.size w w' := by
  have hn := ha.len
  have hm := hb.len
  have hn9 : n ≤ 1048576 := by omega
  obtain rfl : m = n := by omega
  have HN := Lib.hid hn
  have HA := Lib.hid ha.at_
  have HB := Lib.hid hb.at_
  clear hn hm hl ha hb
  go_enter Try.func18, Try.ntmps18
  go_wp2
  go_loopw [5] (fun i wr => ∃ k : Nat, k ≤ m ∧ i = .int .i64 k ∧ ∃ q, wr = w.drewN q) (fun i _ => m - (intOf i).toNat)
  case atStart => exact ⟨0, Nat.zero_le _, rfl, 0, rfl⟩
  case round =>
    obtain ⟨k, hk, rfl, q, rfl⟩ := hrel
    by_cases hlt : k < m
    · have hkl : k < l.length := by have := HN.out; omega
      obtain ⟨x, hx⟩ : ∃ x, l[k].1 = x := ⟨_, rfl⟩
      obtain ⟨y, hy⟩ : ∃ y, l[k].2.1 = y := ⟨_, rfl⟩
      obtain ⟨z, hz⟩ : ∃ z, l[k].2.2 = z := ⟨_, rfl⟩
      have hmm : l[k] = (x, y, z) := by rw [← hx, ← hy, ← hz]
      obtain ⟨b1, o1, rfl, _, g1, g2, g3⟩ := ent_cells HA.out hkl hmm
      obtain ⟨b2, o2, rfl, _, g4, g5, g6⟩ := ent_cells HB.out hkl hmm
      clear hx hy hz hmm
      go_wp2
      go_quiet (fail)
      go_wp2
      go_roundw
      case rel => exact ⟨k + 1, by omega, by go_num, _, rfl⟩
      case measure => simp [intOf]; omega
    · go_wp2
      go_ret
      exact ⟨rfl, below_draws ⟨q, rfl⟩⟩

set_option maxHeartbeats 1000000 in
theorem sameShares_w (l : List (Int × Int)) (a : Option Addr) (n c : Nat) (b : Option Addr) (m d : Nat) (w : World) (hn : n = l.length) (hm : m = l.length) (ha : CellsAt w a (pairsC l)) (hb : CellsAt w b (pairsC l)) (hl : l.length ≤ 1048576) :
    Calls Try.prog 33 #[.slice a n c, .slice b m d] w fun e w' => e = .returned (.bool true) ∧ Below w.heap.size w w' := by
  have hn9 : n ≤ 1048576 := by omega
  obtain rfl : m = n := by omega
  have HN := Lib.hid hn
  have HA := Lib.hid ha
  have HB := Lib.hid hb
  clear hn hm hl ha hb
  go_enter Try.func33, Try.ntmps33
  go_wp2
  go_loopw [5] (fun i wr => ∃ k : Nat, k ≤ m ∧ i = .int .i64 k ∧ ∃ q, wr = w.drewN q) (fun i _ => m - (intOf i).toNat)
  case atStart => exact ⟨0, Nat.zero_le _, rfl, 0, rfl⟩
  case round =>
    obtain ⟨k, hk, rfl, q, rfl⟩ := hrel
    by_cases hlt : k < m
    · have hkl : k < l.length := by have := HN.out; omega
      obtain ⟨x, hx⟩ : ∃ x, l[k].1 = x := ⟨_, rfl⟩
      obtain ⟨y, hy⟩ : ∃ y, l[k].2 = y := ⟨_, rfl⟩
      have hmm : l[k] = (x, y) := by rw [← hx, ← hy]
      obtain ⟨b1, o1, rfl, _, g1, g2⟩ := pair_at5 HA.out hkl hmm
      obtain ⟨b2, o2, rfl, _, g4, g5⟩ := pair_at5 HB.out hkl hmm
      clear hx hy hmm
      go_wp2
      go_quiet (fail)
      go_wp2
      go_roundw
      case rel => exact ⟨k + 1, by omega, by go_num, _, rfl⟩
      case measure => simp [intOf]; omega
    · go_wp2
      go_ret
      exact ⟨rfl, below_draws ⟨q, rfl⟩⟩

theorem hasInt_w (r : Bool) (l : List Int) (x : Int) (a : Option Addr) (n c : Nat) (w : World) (hr : r = true ↔ x ∈ l) (ha : InAt w a n c l) (hl : l.length ≤ 1048576) :
    Calls Try.prog 22 #[.slice a n c, .int .i64 x] w fun e w' => e = .returned (.bool r) ∧ Below w.heap.size w w' := by
  have hn := ha.len
  have hn9 : n ≤ 1048576 := by omega
  have HN := Lib.hid hn
  have HA := Lib.hid ha.at_
  have HRr := Lib.hid hr
  clear hn hl ha hr
  go_enter Try.func22, Try.ntmps22
  go_wp2
  go_loopw [5] (fun i wr => ∃ k : Nat, k ≤ n ∧ i = .int .i64 k ∧ Hid (∀ j (h : j < l.length), j < k → l[j] ≠ x) ∧ Hid (wr = w)) (fun i _ => n - (intOf i).toNat)
  case atStart => exact ⟨0, Nat.zero_le _, rfl, Lib.hid (fun j h h2 => absurd h2 (Nat.not_lt_zero _)), Lib.hid rfl⟩
  case round =>
    obtain ⟨k, hk, rfl, HK, HW⟩ := hrel
    obtain rfl := HW.out
    by_cases hlt : k < n
    · have hkl : k < l.length := by have := HN.out; omega
      obtain ⟨y, hy⟩ : ∃ y, l[k] = y := ⟨_, rfl⟩
      obtain ⟨b1, o1, rfl, _, g1⟩ := int_cell HA.out hkl hy
      by_cases hyx : y = x
      · have t1 : (y == x) = true := by rw [hyx]; exact beq_self_eq_true _
        have hrt : r = true := HRr.out.2 (by rw [← hyx, ← hy]; exact List.getElem_mem hkl)
        subst hrt
        clear hyx hy
        go_wp2
        go_ret
        exact ⟨rfl, Below.refl _ _⟩
      · have t1 : (y == x) = false := by simpa using hyx
        have HK2 := Lib.hid (show ∀ j (h : j < l.length), j < k + 1 → l[j] ≠ x from fun j h h2 => by
          by_cases e : j = k
          · subst e; rw [hy]; exact hyx
          · exact HK.out j h (by omega))
        clear hyx hy HK
        go_wp2
        go_roundw
        case rel => exact ⟨k + 1, by omega, by go_num, HK2, Lib.hid (by trivial)⟩
        case measure => simp [intOf]; omega
    · have hrf : r = false := by
        rw [Bool.eq_false_iff]
        intro e
        obtain ⟨j, hj, he⟩ := List.getElem_of_mem (HRr.out.1 e)
        exact HK.out j hj (by have := HN.out; omega) he
      subst hrf
      go_wp2
      go_ret
      exact ⟨rfl, Below.refl _ _⟩

theorem bigEnts_w (r : Bool) (a : Option Addr) (n c : Nat) (m : Int) (w : World) (h : decide (m < (n : Int)) = r) :
    Calls Try.prog 36 #[.slice a n c, .int .i64 m] w fun e w' => e = .returned (.bool r) ∧ w = w' := by
  subst h
  go_enter Try.func36, Try.ntmps36
  go_wp2
  go_ret
  exact ⟨rfl, rfl⟩
theorem bigMarks_w (r : Bool) (a : Option Addr) (n c : Nat) (m : Int) (w : World) (h : decide (m < (n : Int)) = r) :
    Calls Try.prog 37 #[.slice a n c, .int .i64 m] w fun e w' => e = .returned (.bool r) ∧ w = w' := by
  subst h
  go_enter Try.func37, Try.ntmps37
  go_wp2
  go_ret
  exact ⟨rfl, rfl⟩

end Go.Proofs.Ytclblnkeakkdeaa
