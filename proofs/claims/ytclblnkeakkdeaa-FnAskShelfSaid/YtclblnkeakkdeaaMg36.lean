/-
  Plain mathematics of chapter 1 (what a byte becomes); nothing of the program is read here. No conditions.
  The contracts of the functions SignOf (the program's and the model's): at every number they return what 'signOf' says, and leave the world alone. No conditions.
  The contracts of the laws' own helpers alive and bigText. No conditions.
  What the laws of chapter 8's table ask: rows of pieces, entries and of what is found, read; the laws' own helpers. No conditions. (Written by a program of chapter 8.)
-/
import Derived.WalkKit
import Derived.Test.YtclblnkeakkdeaaProg
import Derived.Lib.Hide
import Derived.Test.YtclblnkeakkdeaaMg28
import Derived.Test.YtclblnkeakkdeaaMg11
import Derived.Test.YtclblnkeakkdeaaMg18
import Derived.Test.YtclblnkeakkdeaaMg5
import Derived.Deep.QuietTactic
namespace Go.Proofs.Ytclblnkeakkdeaa

/-- What a byte becomes in a text that is made alike. -/
def signOf (b : Int) : Int :=
  if b < 0 ∨ 255 < b then -1
  else if 65 ≤ b ∧ b ≤ 90 then b + 32
  else if (97 ≤ b ∧ b ≤ 122) ∨ (48 ≤ b ∧ b ≤ 57) ∨ 128 ≤ b then b
  else 32

theorem signOf_none {b : Int} (h : b < 0 ∨ 255 < b) : signOf b = -1 := by unfold signOf; rw [if_pos h]
theorem signOf_great {b : Int} (h1 : 65 ≤ b) (h2 : b ≤ 90) : signOf b = b + 32 := by
  unfold signOf; rw [if_neg (by omega), if_pos ⟨h1, h2⟩]
theorem signOf_same {b : Int} (h0 : 0 ≤ b) (h9 : b ≤ 255) (h : (97 ≤ b ∧ b ≤ 122) ∨ (48 ≤ b ∧ b ≤ 57) ∨ 128 ≤ b) : signOf b = b := by
  unfold signOf; rw [if_neg (by omega), if_neg (by omega), if_pos h]
theorem signOf_gap {b : Int} (h0 : 0 ≤ b) (h9 : b < 128) (h1 : b < 65 ∨ 90 < b) (h2 : b < 97 ∨ 122 < b) (h3 : b < 48 ∨ 57 < b) : signOf b = 32 := by
  unfold signOf; rw [if_neg (by omega), if_neg (by omega), if_neg (by omega)]

/-- The ways on which a number goes: each is one row of tests. -/
theorem signOf_ways (b : Int) : b < 0 ∨ 255 < b ∨ (0 ≤ b ∧ b < 48) ∨ (48 ≤ b ∧ b ≤ 57) ∨ (57 < b ∧ b < 65) ∨ (65 ≤ b ∧ b ≤ 90) ∨ (90 < b ∧ b < 97) ∨ (97 ≤ b ∧ b ≤ 122) ∨ (122 < b ∧ b < 128) ∨ (128 ≤ b ∧ b ≤ 255) := by omega

end Go.Proofs.Ytclblnkeakkdeaa

namespace Go.Proofs.Ytclblnkeakkdeaa
open Go.RowKit

theorem ret_int {k : IntKind} {a b : Int} (h : a = b) : Ending.returned (.int k a) = .returned (.int k b) := by rw [h]


set_option maxHeartbeats 2000000 in
theorem implSignOf_any (b : Int) (w : World) :
    Calls Try.prog 70 #[.int .i64 b] w fun e w' => e = .returned (.int .i64 (signOf b)) ∧ w = w' := by
  rcases signOf_ways b with h | h | h | h | h | h | h | h | h | h
  all_goals first
    | rw [signOf_none (by omega)]
    | (have hg := signOf_great (b := b) (by omega) (by omega); rw [hg]; clear hg)
    | rw [signOf_same (by omega) (by omega) (by omega)]
    | rw [signOf_gap (by omega) (by omega) (by omega) (by omega) (by omega)]
  all_goals
    go_enter Try.func70, Try.ntmps70
    go_wp2
    go_ret
    first | exact ⟨rfl, rfl⟩ | exact ⟨ret_int (by omega), rfl⟩

theorem implSignOf_is (b g : Int) (w : World) (h : signOf b = g) :
    Calls Try.prog 70 #[.int .i64 b] w fun e w' => e = .returned (.int .i64 g) ∧ w = w' := by subst h; exact implSignOf_any b w

end Go.Proofs.Ytclblnkeakkdeaa

namespace Go.Proofs.Ytclblnkeakkdeaa
open Go.RowKit

theorem alive_any (w : World) : Calls Try.prog 21 #[] w fun e w' => e = .returned (.bool true) ∧ w = w' := by
  go_enter Try.func21, Try.ntmps21
  go_wp2_with fail
  refine (implSignOf_is 65 97 _ (by decide)).mono ?_
  rintro e w' ⟨rfl, rfl⟩
  go_wp2_with fail
  refine (implSignOf_is 300 (-1) _ (by decide)).mono ?_
  rintro e w' ⟨rfl, rfl⟩
  go_wp2_with fail
  refine (implSignOf_is 10 32 _ (by decide)).mono ?_
  rintro e w' ⟨rfl, rfl⟩
  go_wp2
  go_ret
  exact ⟨rfl, rfl⟩

theorem bigText_any (s : ByteArray) (n : Int) (w : World) : Calls Try.prog 62 #[.string s, .int .i64 n] w fun e w' => e = .returned (.bool (decide (n < s.size))) ∧ w = w' := by
  go_enter Try.func62, Try.ntmps62
  go_wp2
  go_ret
  exact ⟨rfl, rfl⟩
theorem bigText_is (b : Bool) (s : ByteArray) (n : Int) (w : World) (h : decide (n < s.size) = b) : Calls Try.prog 62 #[.string s, .int .i64 n] w fun e w' => e = .returned (.bool b) ∧ w = w' := by subst h; exact bigText_any s n w

end Go.Proofs.Ytclblnkeakkdeaa

namespace Go.Proofs.Ytclblnkeakkdeaa
open Go.RowKit

theorem Try.ulE8 : Try.prog.underlying 23 = some (.slice 31) := by kernel_rfl
theorem Try.infoE8 : (Try.prog.info? 31).map (fun i => (i.zero, i.size, i.bytes)) = some (some (.agg #[.int .i64 0, .int .i64 0, .int .i64 0]), 3, 24) := by kernel_rfl
theorem own_cap8 {w : World} {B : Nat} {e : TypeId} {s : Nat} {a : Option Addr} {n c : Nat} {xs : List Value} (h : w.ownsRow B e s (.slice a n c) n xs) : n ≤ c ∧ c ≤ maxLen := by
  rcases h.2 with ⟨hv, h0⟩ | ⟨g, cap', cur, hv, _, _, hc, hm, _⟩
  · obtain ⟨rfl, rfl, rfl⟩ := (by simpa using hv : a = none ∧ n = 0 ∧ c = 0)
    exact ⟨Nat.le_refl _, by decide⟩
  · obtain ⟨rfl, rfl⟩ := (by simpa using hv : a = some ⟨g, 0, none⟩ ∧ c = cap')
    exact ⟨hc, hm⟩
/-- A row of entries or pieces that can be read. -/
structure EnAt (w : World) (a : Option Addr) (n c : Nat) (L : List En) : Prop where
  len : n = L.length
  cap : n ≤ c
  max : c ≤ maxLen
  at_ : CellsAt w a (entsC L)
theorem enAt_of {w : World} {B : Nat} {e : TypeId} {a : Option Addr} {n c : Nat} {L : List En} (h : w.ownsRow B e 3 (.slice a n c) n (entsC L)) : EnAt w a n c L := ⟨ents_len h, (own_cap8 h).1, (own_cap8 h).2, cellsAt_own h⟩
theorem EnAt.later {w w' : World} {a : Option Addr} {n c : Nat} {L : List En} (h : EnAt w a n c L) (hb : Below w.heap.size w w') : EnAt w' a n c L := ⟨h.len, h.cap, h.max, h.at_.below hb⟩
/-- A row of what is found that can be read. -/
structure FdAt (w : World) (a : Option Addr) (n c : Nat) (L : List Fd) : Prop where
  len : n = L.length
  cap : n ≤ c
  max : c ≤ maxLen
  at_ : CellsAt w a (fdsC L)
theorem fdAt_of {w : World} {B : Nat} {e : TypeId} {a : Option Addr} {n c : Nat} {L : List Fd} (h : w.ownsRow B e 4 (.slice a n c) n (fdsC L)) : FdAt w a n c L := ⟨fds_len h, (own_cap8 h).1, (own_cap8 h).2, cellsAt_own h⟩
theorem FdAt.later {w w' : World} {a : Option Addr} {n c : Nat} {L : List Fd} (h : FdAt w a n c L) (hb : Below w.heap.size w w') : FdAt w' a n c L := ⟨h.len, h.cap, h.max, h.at_.below hb⟩
/-- A row of texts that can be read. -/
structure TxAt (w : World) (a : Option Addr) (n c : Nat) (D : List ByteArray) : Prop where
  len : n = D.length
  cap : n ≤ c
  max : c ≤ maxLen
  at_ : CellsAt w a (strsC D)
theorem txAt_of {w : World} {B : Nat} {e : TypeId} {a : Option Addr} {n c : Nat} {D : List ByteArray} (h : w.ownsRow B e 1 (.slice a n c) n (strsC D)) : TxAt w a n c D := ⟨by have h1 := h.1; rw [strsC_len] at h1; omega, (own_cap8 h).1, (own_cap8 h).2, cellsAt_own h⟩
theorem TxAt.later {w w' : World} {a : Option Addr} {n c : Nat} {D : List ByteArray} (h : TxAt w a n c D) (hb : Below w.heap.size w w') : TxAt w' a n c D := ⟨h.len, h.cap, h.max, h.at_.below hb⟩
theorem below_draws {w w' : World} (h : ∃ q, w' = w.drewN q) : Below w.heap.size w w' := by obtain ⟨q, rfl⟩ := h; exact below_drewN' (Below.refl _ _) q

set_option maxHeartbeats 1000000 in
theorem samePcs_w (l : List En) (a : Option Addr) (n c : Nat) (b : Option Addr) (m d : Nat) (w : World) (ha : EnAt w a n c l) (hb : EnAt w b m d l) (hl : l.length ≤ 1099511627776) :
    Calls Try.prog 40 #[.slice a n c, .slice b m d] w fun e w' => e = .returned (.bool true) ∧ Below w.heap.size w w' := by
  have hn := ha.len
  have hm := hb.len
  have hn9 : n ≤ 1099511627776 := by omega
  obtain rfl : m = n := by omega
  have HN := Lib.hid hn
  have HA := Lib.hid ha.at_
  have HB := Lib.hid hb.at_
  clear hn hm hl ha hb
  go_enter Try.func40, Try.ntmps40
  go_wp2
  go_loopw [5] (fun i wr => ∃ k : Nat, k ≤ m ∧ i = .int .i64 k ∧ ∃ q, wr = w.drewN q) (fun i _ => m - (intOf i).toNat)
  case atStart => exact ⟨0, Nat.zero_le _, rfl, 0, rfl⟩
  case round =>
    obtain ⟨k, hk, rfl, q, rfl⟩ := hrel
    by_cases hlt : k < m
    · have hkl : k < l.length := by have := HN.out; omega
      obtain ⟨x, hx⟩ : ∃ x, l[k].1 = x := ⟨_, rfl⟩
      obtain ⟨y, hy⟩ : ∃ y, l[k].2.1 = y := ⟨_, rfl⟩
      obtain ⟨z, hz⟩ : ∃ z, l[k].2.2 = z := ⟨_, rfl⟩
      have hmm : l[k] = (x, y, z) := by rw [← hx, ← hy, ← hz]
      obtain ⟨b1, o1, rfl, _, g1, g2, g3⟩ := ent_cells HA.out hkl hmm
      obtain ⟨b2, o2, rfl, _, g4, g5, g6⟩ := ent_cells HB.out hkl hmm
      clear hx hy hz hmm
      go_wp2
      go_quiet (fail)
      go_wp2
      go_roundw
      case rel => exact ⟨k + 1, by omega, by go_num, _, rfl⟩
      case measure => simp [intOf]; omega
    · go_wp2
      go_ret
      exact ⟨rfl, below_draws ⟨q, rfl⟩⟩

set_option maxHeartbeats 1000000 in
theorem sameEnts_w (l : List En) (a : Option Addr) (n c : Nat) (b : Option Addr) (m d : Nat) (w : World) (ha : EnAt w a n c l) (hb : EnAt w b m d l) (hl : l.length ≤ 1099511627776) :
    Calls Try.prog 18 #[.slice a n c, .slice b m d] w fun e w' => e = .returned (.bool true) ∧ Below w.heap.size w w' := by
  have hn := ha.len
  have hm := hb.len
  have hn9 : n ≤ 1099511627776 := by omega
  obtain rfl : m = n := by omega
  have HN := Lib.hid hn
  have HA := Lib.hid ha.at_
  have HB := Lib.hid hb.at_
  clear hn hm hl ha hb
  go_enter Try.func18, Try.ntmps18
  go_wp2
  go_loopw [5] (fun i wr => ∃ k : Nat, k ≤ m ∧ i = .int .i64 k ∧ ∃ q, wr = w.drewN q) (fun i _ => m - (intOf i).toNat)
  case atStart => exact ⟨0, Nat.zero_le _, rfl, 0, rfl⟩
  case round =>
    obtain ⟨k, hk, rfl, q, rfl⟩ := hrel
    by_cases hlt : k < m
    · have hkl : k < l.length := by have := HN.out; omega
      obtain ⟨x, hx⟩ : ∃ x, l[k].1 = x := ⟨_, rfl⟩
      obtain ⟨y, hy⟩ : ∃ y, l[k].2.1 = y := ⟨_, rfl⟩
      obtain ⟨z, hz⟩ : ∃ z, l[k].2.2 = z := ⟨_, rfl⟩
      have hmm : l[k] = (x, y, z) := by rw [← hx, ← hy, ← hz]
      obtain ⟨b1, o1, rfl, _, g1, g2, g3⟩ := ent_cells HA.out hkl hmm
      obtain ⟨b2, o2, rfl, _, g4, g5, g6⟩ := ent_cells HB.out hkl hmm
      clear hx hy hz hmm
      go_wp2
      go_quiet (fail)
      go_wp2
      go_roundw
      case rel => exact ⟨k + 1, by omega, by go_num, _, rfl⟩
      case measure => simp [intOf]; omega
    · go_wp2
      go_ret
      exact ⟨rfl, below_draws ⟨q, rfl⟩⟩

set_option maxHeartbeats 1000000 in
theorem sameFds_w (l : List Fd) (a : Option Addr) (n c : Nat) (b : Option Addr) (m d : Nat) (w : World) (ha : FdAt w a n c l) (hb : FdAt w b m d l) (hl : l.length ≤ 1099511627776) :
    Calls Try.prog 56 #[.slice a n c, .slice b m d] w fun e w' => e = .returned (.bool true) ∧ Below w.heap.size w w' := by
  have hn := ha.len
  have hm := hb.len
  have hn9 : n ≤ 1099511627776 := by omega
  obtain rfl : m = n := by omega
  have HN := Lib.hid hn
  have HA := Lib.hid ha.at_
  have HB := Lib.hid hb.at_
  clear hn hm hl ha hb
  go_enter Try.func56, Try.ntmps56
  go_wp2
  go_loopw [5] (fun i wr => ∃ k : Nat, k ≤ m ∧ i = .int .i64 k ∧ ∃ q, wr = w.drewN q) (fun i _ => m - (intOf i).toNat)
  case atStart => exact ⟨0, Nat.zero_le _, rfl, 0, rfl⟩
  case round =>
    obtain ⟨k, hk, rfl, q, rfl⟩ := hrel
    by_cases hlt : k < m
    · have hkl : k < l.length := by have := HN.out; omega
      obtain ⟨x, hx⟩ : ∃ x, l[k].1 = x := ⟨_, rfl⟩
      obtain ⟨y, hy⟩ : ∃ y, l[k].2.1 = y := ⟨_, rfl⟩
      obtain ⟨z, hz⟩ : ∃ z, l[k].2.2.1 = z := ⟨_, rfl⟩
      obtain ⟨u, hu⟩ : ∃ z, l[k].2.2.2 = z := ⟨_, rfl⟩
      have hmm : l[k] = (x, y, z, u) := by rw [← hx, ← hy, ← hz, ← hu]
      obtain ⟨b1, o1, rfl, _, g1, g2, g3, g31⟩ := fd_cells HA.out hkl hmm
      obtain ⟨b2, o2, rfl, _, g4, g5, g6, g61⟩ := fd_cells HB.out hkl hmm
      clear hx hy hz hu hmm
      go_wp2
      go_quiet (fail)
      go_wp2
      go_roundw
      case rel => exact ⟨k + 1, by omega, by go_num, _, rfl⟩
      case measure => simp [intOf]; omega
    · go_wp2
      go_ret
      exact ⟨rfl, below_draws ⟨q, rfl⟩⟩

/-- The entries of one text. -/
def onlyL (l : List En) (d : Int) : List En := l.filter fun x => x.2.1 == d
theorem only_yes {l : List En} {d : Int} {k : Nat} (hk : k < l.length) (h : (l[k].2.1 == d) = true) : onlyL (l.take (k + 1)) d = onlyL (l.take k) d ++ [l[k]] := by
  rw [onlyL, List.take_succ_eq_append_getElem hk, List.filter_append, List.filter_cons_of_pos (p := fun x : En => x.2.1 == d) h]; rfl
theorem only_no {l : List En} {d : Int} {k : Nat} (hk : k < l.length) (h : (l[k].2.1 == d) = false) : onlyL (l.take (k + 1)) d = onlyL (l.take k) d := by
  rw [onlyL, List.take_succ_eq_append_getElem hk, List.filter_append, List.filter_cons_of_neg (p := fun x : En => x.2.1 == d) (by simp only [h]; decide)]; simp [onlyL]

set_option maxHeartbeats 2000000 in
theorem only_w (l : List En) (d : Int) (R : List En) (a : Option Addr) (n c : Nat) (w : World) (hR : onlyL l d = R) (ha : EnAt w a n c l) (hl : l.length ≤ 4194304) :
    Calls Try.prog 53 #[.slice a n c, .int .i64 d] w fun e w' => ∃ a' n' c', e = .returned (.slice a' n' c') ∧ EnAt w' a' n' c' R ∧ Below w.heap.size w w' := by
  subst hR
  have hn := ha.len
  have HN := Lib.hid hn
  have hn9 : n ≤ 4194304 := by omega
  have HAT := Lib.hid ha.at_
  have hone0 : One w w.heap.size (w.alloc (.cells #[] 31)) 31 3 (some ⟨w.heap.size, 0, none⟩) 0 0 (entsC (onlyL (l.take 0) d)) :=
    ⟨World.ownsRow_lit (e := 31) (size := 3) w #[] 0 (Nat.le_refl _) (Nat.zero_le _) (by simp), by simp, (Below.refl _ _).alloc (Nat.le_refl _) _⟩
  clear hn ha hl
  go_enter Try.func53, Try.ntmps53
  go_wp2
  go_loopw [5, 6] (fun o_ k_ wr => ∃ k : Nat, k ≤ n ∧ k_ = .int .i64 k ∧ ∃ a' n' c', o_ = .slice a' n' c' ∧ n' ≤ k ∧ One w w.heap.size wr 31 3 a' n' c' (entsC (onlyL (l.take k) d))) (fun _ k_ _ => n - (intOf k_).toNat)
  case atStart => exact ⟨0, Nat.zero_le _, rfl, _, _, _, rfl, Nat.le_refl _, hone0⟩
  case round =>
    clear hone0
    obtain ⟨k, hk, rfl, a', n', c', rfl, hn', hone⟩ := hrel
    by_cases hlt : k < n
    · have hkl : k < l.length := by have := HN.out; omega
      obtain ⟨x, hx⟩ : ∃ x, l[k].1 = x := ⟨_, rfl⟩
      obtain ⟨y, hy⟩ : ∃ y, l[k].2.1 = y := ⟨_, rfl⟩
      obtain ⟨z, hz⟩ : ∃ z, l[k].2.2 = z := ⟨_, rfl⟩
      have hm : l[k] = (x, y, z) := by rw [← hx, ← hy, ← hz]
      obtain ⟨b, o, rfl, hb9, g1, g2, g3⟩ := ent_cells (HAT.out.below hone.below) hkl hm
      have hyes := only_yes (d := d) hkl
      have hno := only_no (d := d) hkl
      rw [hm] at hyes hno
      have z1 : (k : Int) < (n : Int) := by omega
      clear hx hy hz hm
      by_cases hd : y = d
      · have t1 : (y == d) = true := by rw [hd]; exact beq_self_eq_true _
        have HS := Lib.hid (show entsC (onlyL (l.take (k + 1)) d) = entsC (onlyL (l.take k) d) ++ [.int .i64 x, .int .i64 y, .int .i64 z] by rw [hyes t1, entsC_snoc])
        clear hyes hno hd
        go_wp2_with (at_builtin; refine wpList_append_row rfl (.tmp 21) (.tmp 26) 23 rfl Try.ulE8 Try.infoE8 rfl (by decide) hone rfl #[.int .i64 x, .int .i64 y, .int .i64 z] rfl rfl (by simp [Value.oneCell']) (by unfold maxLen; omega) (by omega) ?_; intro a5 c5 w5 h5)
        go_roundw
        case rel => exact ⟨k + 1, by omega, by go_num, a5, n' + 1, c5, rfl, by omega, by rw [HS.out]; exact h5⟩
        case measure => simp [intOf]; omega
      · have t1 : (y == d) = false := by simpa using hd
        have HS := Lib.hid (hno t1)
        clear hyes hno hd
        go_wp2
        go_roundw
        case rel => exact ⟨k + 1, by omega, by go_num, a', n', c', rfl, by omega, by rw [HS.out]; exact hone⟩
        case measure => simp [intOf]; omega
    · have HO := Lib.hid (show One w w.heap.size wr 31 3 a' n' c' (entsC (onlyL l d)) by
        have h := hone
        rwa [List.take_of_length_le (by have := HN.out; omega)] at h)
      clear hone
      go_wp2
      go_ret
      exact ⟨_, _, _, rfl, enAt_of HO.out.own, HO.out.below⟩

set_option maxHeartbeats 2000000 in
theorem bigTexts_w (D : List ByteArray) (m : Nat) (a : Option Addr) (n c : Nat) (w : World) (hn : n = D.length) (hn9 : n ≤ maxLen) (_hm : m ≤ 1000000) (hat : CellsAt w a (strsC D)) :
    Calls Try.prog 63 #[.slice a n c, .int .i64 m] w fun e w' => (e = .returned (.bool true) ∨ e = .returned (.bool false) ∧ D.length ≤ m ∧ ∀ x ∈ D, x.size ≤ m) ∧ Below w.heap.size w w' := by
  unfold maxLen at hn9
  have HN := Lib.hid hn
  have HAT := Lib.hid hat
  clear hn hat
  go_enter Try.func63, Try.ntmps63
  go_wp2
  go_loopw [5] (fun k_ wr => ∃ k : Nat, k ≤ n ∧ k ≤ m + 1 ∧ k_ = .int .i64 k ∧ Hid (∀ x ∈ D.take k, x.size ≤ m) ∧ wr = w) (fun k_ _ => n - (intOf k_).toNat)
  case atStart => exact ⟨0, Nat.zero_le _, Nat.zero_le _, rfl, Lib.hid (by simp), rfl⟩
  case round =>
    obtain ⟨k, hk, hkm, rfl, HS, rfl⟩ := hrel
    by_cases hlt : k < n
    · have z1 : (k : Int) < (n : Int) := by omega
      by_cases hle : k ≤ m
      · have z2 : (k : Int) ≤ (m : Int) := by omega
        have hkl : k < D.length := by have := HN.out; omega
        obtain ⟨b1, o1, rfl, _, hc1⟩ := HAT.out.str (fun e => by rw [e] at hkl; simp at hkl)
        have kc := hc1 k hkl
        obtain ⟨x, hx⟩ : ∃ x, D[k] = x := ⟨_, rfl⟩
        rw [hx] at kc
        have HX := Lib.hid hx
        clear hc1 hx
        obtain ⟨b, hb⟩ : ∃ b, decide ((m : Int) < (x.size : Int)) = b := ⟨_, rfl⟩
        have HB := Lib.hid hb
        have cb := fun w => bigText_is b x m w hb
        clear hb
        go_wp2_with fail
        refine (cb _).mono ?_
        rintro e wq ⟨rfl, rfl⟩
        cases b with
        | true =>
          go_wp2
          go_ret
          exact ⟨.inl rfl, Below.refl _ _⟩
        | false =>
          go_wp2
          go_roundw
          case rel => exact ⟨k + 1, by omega, by omega, by go_num, Lib.hid (fun y hy => by
              rw [List.take_succ_eq_append_getElem hkl] at hy
              rcases List.mem_append.1 hy with hy | hy
              · exact HS.out y hy
              · have h1 := of_decide_eq_false HB.out
                simp only [List.mem_singleton] at hy
                rw [hy, HX.out]; omega), by trivial⟩
          case measure => simp [intOf]; omega
      · have z2 : ¬ (k : Int) ≤ (m : Int) := by omega
        have z3 : (m : Int) < (n : Int) := by omega
        go_wp2
        go_ret
        exact ⟨.inl rfl, Below.refl _ _⟩
    · have z1 : ¬ (k : Int) < (n : Int) := by omega
      obtain ⟨b, hb⟩ : ∃ b, decide ((m : Int) < (n : Int)) = b := ⟨_, rfl⟩
      have HB := Lib.hid hb
      cases b with
      | true =>
        have z3 := of_decide_eq_true hb
        clear hb
        go_wp2
        go_ret
        exact ⟨.inl rfl, Below.refl _ _⟩
      | false =>
        have z3 := of_decide_eq_false hb
        clear hb
        go_wp2
        go_ret
        exact ⟨.inr ⟨rfl, by have := HN.out; omega, fun x hx => HS.out x (by rw [List.take_of_length_le (by have := HN.out; omega)]; exact hx)⟩, Below.refl _ _⟩

end Go.Proofs.Ytclblnkeakkdeaa
