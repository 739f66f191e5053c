/-
  The contracts of the laws' own helpers over records of the type Share and slices of them (written by wip/tools/gen_help.py). Conditions: fewer than 2^38 elements; what is marked is the call's own.
-/
import Derived.Test.YtbnagmjhdnnheaaHelpM
import Derived.Test.YtbnagmjhdnnheaaPair
import Derived.Test.YtbnagmjhdnnheaaOpen
namespace Go.Proofs.Ytbnagmjhdnnheaa
open Go.RowKit Go.ChangeShapes

theorem Try.ulSlShare : Try.prog.underlying 37 = some (.slice 76) := by kernel_rfl
theorem Try.infoSlShare : (Try.prog.info? 76).map (fun i => (i.zero, i.size, i.bytes)) = some (some (.agg #[.int .i64 0, .int .i64 0]), 2, 16) := by kernel_rfl
theorem lenShare (x : Int × Int) : (pairC x).length = 2 := rfl

/-- The cells of a slice of such records. -/
theorem CellsAt.atShare {w : World} {a : Option Addr} {l : List (Int × Int)} (h : CellsAt w a (pairsC l)) (hne : l ≠ []) : ∃ b o, a = some ⟨b, o, none⟩ ∧ b < w.heap.size ∧
    ∀ k (hk : k < l.length), w.cell? ⟨b, o + k * 2, none⟩ = some (.int .i64 l[k].1) ∧ w.cell? ⟨b, o + k * 2 + 1, none⟩ = some (.int .i64 l[k].2) := by
  have hne2 : pairsC l ≠ [] := by
    cases l with
    | nil => exact absurd rfl hne
    | cons x l => simp [pairsC, pairC]
  obtain ⟨b, o, ha, hb, hc⟩ := h.spot hne2
  refine ⟨b, o, ha, hb, fun k hk => ⟨?_, ?_⟩⟩
  · exact hc (k * 2) _ (by rw [pairsC, show k * 2 = k * 2 + 0 from rfl, flat_get pairC 2 lenShare l k 0 hk (by decide)]; rfl)
  · rw [Nat.add_assoc]; exact hc (k * 2 + 1) _ (by rw [pairsC, flat_get pairC 2 lenShare l k 1 hk (by decide)]; rfl)

theorem eqShare_same (x0 : Int) (x1 : Int) (w : World) :
    Calls Try.prog 61 #[.agg #[.int .i64 x0, .int .i64 x1], .agg #[.int .i64 x0, .int .i64 x1]] w fun e w' => e = .returned (.bool true) ∧ Below w.heap.size w w' := by
  go_enter Try.func61, Try.ntmps61
  go_wp2
  go_ret
  exact ⟨rfl, below_alloc2 _ _ _⟩

set_option maxHeartbeats 4000000 in
theorem eqShareS_same (a a' : Option Addr) (n c d : Nat) (l : List (Int × Int)) (w : World) (hn : n = l.length) (hl : n < 274877906944) (h1 : CellsAt w a (pairsC l)) (h2 : CellsAt w a' (pairsC l)) :
    Calls Try.prog 27 #[.slice a n c, .slice a' n d] w fun e w' => e = .returned (.bool true) ∧ Below w.heap.size w w' := by
  have HN := Lib.hid hn
  clear hn
  go_enter Try.func27, Try.ntmps27
  go_wp2
  go_loopw [5] (fun i wr => ∃ k : Nat, k ≤ n ∧ i = .int .i64 k ∧ Below w.heap.size w wr) (fun i _ => n - (intOf i).toNat)
  case atStart => exact ⟨0, Nat.zero_le _, rfl, Below.refl _ _⟩
  case round =>
    obtain ⟨k, hk, rfl, hb⟩ := hrel
    by_cases hlt : k < n
    · have hkl : k < l.length := by rw [← HN.out]; exact hlt
      have hne : l ≠ [] := fun e => by rw [e] at hkl; simp at hkl
      obtain ⟨b1, o1, rfl, hb1, hc1⟩ := h1.atShare hne
      obtain ⟨b2, o2, rfl, hb2, hc2⟩ := h2.atShare hne
      obtain ⟨x0, hx0⟩ : ∃ x, l[k].1 = x := ⟨_, rfl⟩
      obtain ⟨x1, hx1⟩ : ∃ x, l[k].2 = x := ⟨_, rfl⟩
      have HC := Lib.hid (show ∀ w', Below w.heap.size w w' → (w'.cell? ⟨b1, o1 + k * 2, none⟩ = some (.int .i64 x0) ∧ w'.cell? ⟨b1, o1 + k * 2 + 1, none⟩ = some (.int .i64 x1)) ∧ (w'.cell? ⟨b2, o2 + k * 2, none⟩ = some (.int .i64 x0) ∧ w'.cell? ⟨b2, o2 + k * 2 + 1, none⟩ = some (.int .i64 x1)) from fun w' hb => ⟨by
        have h := hc1 k hkl
        rw [hx0, hx1] at h
        exact ⟨(hb.cell (p := ⟨b1, o1 + k * 2, none⟩) hb1).trans h.1, (hb.cell (p := ⟨b1, o1 + k * 2 + 1, none⟩) hb1).trans h.2⟩, by
        have h := hc2 k hkl
        rw [hx0, hx1] at h
        exact ⟨(hb.cell (p := ⟨b2, o2 + k * 2, none⟩) hb2).trans h.1, (hb.cell (p := ⟨b2, o2 + k * 2 + 1, none⟩) hb2).trans h.2⟩⟩)
      clear hx0 hx1 hc1 hc2 hne
      go_wp2
      go_region_held3 (fun w' => (w'.cell? ⟨b1, o1 + k * 2, none⟩ = some (.int .i64 x0) ∧ w'.cell? ⟨b1, o1 + k * 2 + 1, none⟩ = some (.int .i64 x1)) ∧ (w'.cell? ⟨b2, o2 + k * 2, none⟩ = some (.int .i64 x0) ∧ w'.cell? ⟨b2, o2 + k * 2 + 1, none⟩ = some (.int .i64 x1))) (first | exact HC.out _ hb | exact HC.out _ hb.drew | exact HC.out _ (hb.drew.trans (hbm.mono hb.size)))
        (first | (go_at_call 61; refine (eqShare_same _ _ _).mono ?_; rintro e w1 ⟨rfl, hbm⟩))
      go_wp2
      go_roundw
      case rel => exact ⟨k + 1, by omega, by go_num, hb.drew.trans (hbm.mono hb.size)⟩
      case measure => simp [intOf]; omega
    · go_wp2
      go_ret
      exact ⟨rfl, hb⟩

/-- Records that bear ascending marks. -/
def markShare (m i : Nat) : Int × Int := ⟨((m + i * 2 : Nat) : Int), ((m + i * 2 + 1 : Nat) : Int)⟩
def marksShare (m n : Nat) : List (Int × Int) := (List.range n).map (markShare m)
theorem marksShare_len (m n : Nat) : (marksShare m n).length = n := by simp [marksShare]
theorem marksShare_get (m n k : Nat) (h : k < n) : (marksShare m n)[k]'(by rw [marksShare_len]; exact h) = markShare m k := by simp [marksShare]
theorem marksShare_next (m k : Nat) : pairsC (marksShare m (k + 1)) = pairsC (marksShare m k) ++ pairC (markShare m k) := by
  rw [marksShare, List.range_succ, List.map_append, pairsC, List.flatMap_append, marksShare, pairsC]; simp
theorem marksShare_cells (m n : Nat) : (pairsC (marksShare m n)).length = n * 2 := by rw [pairsC, flat_len pairC 2 lenShare, marksShare_len]

set_option maxHeartbeats 8000000 in
theorem markShareS_any (B : Nat) (a : Option Addr) (n c : Nat) (l : List (Int × Int)) (m : Nat) (w : World) (hown : w.ownsRow B 76 2 (.slice a n c) n (pairsC l)) (hn : n < 68719476736) (h0 : 0 < m) (hm : m < 274877906944) :
    Calls Try.prog 30 #[.slice a n c, .int .i64 m] w fun e w' => e = .returned (.int .i64 ((m + n * 2 : Nat) : Int)) ∧ w'.ownsRow B 76 2 (.slice a n c) n (pairsC (marksShare m n)) ∧ w.grownBy w' (Value.ownBlock (.slice a n c)) := by
  have hlen : (pairsC l).length = n * 2 := hown.1
  have HL := Lib.hid hlen
  clear hlen
  go_enter Try.func30, Try.ntmps30
  go_wp2
  go_loopw [1, 5] (fun q i wr => ∃ k : Nat, k ≤ n ∧ i = .int .i64 k ∧ (∃ z : Nat, q = .int .i64 z ∧ z = m + k * 2) ∧ wr.ownsRow B 76 2 (.slice a n c) n (pairsC (marksShare m k) ++ (pairsC l).drop (k * 2)) ∧ w.grownBy wr (Value.ownBlock (.slice a n c))) (fun _ i _ => n - (intOf i).toNat)
  case atStart => exact ⟨0, Nat.zero_le _, rfl, ⟨m, rfl, by omega⟩, by simpa [marksShare, pairsC] using hown, World.grownBy.refl _ _⟩
  case round =>
    clear hown
    obtain ⟨k, hk, rfl, ⟨z, rfl, hz⟩, hown0, hg0⟩ := hrel
    by_cases hlt : k < n
    · obtain ⟨g, rfl⟩ : ∃ g, a = some ⟨g, 0, none⟩ := by
        rcases hown0.2 with ⟨hv, h0⟩ | ⟨g, cap', cur, hv, _⟩
        · omega
        · exact ⟨g, (by simpa using hv : a = some ⟨g, 0, none⟩ ∧ c = cap').1⟩
      have HZ := Lib.hid hz
      have hz9 : z + 2 < 1099511627776 := by omega
      have hz0 : 0 < z := by omega
      clear hz
      have hw0 := hown0
      have hg0' := hg0
      have hf0 := hw0.frozenAt (k * 2)
      obtain ⟨y0, hy0⟩ := own_cell hw0 (k * 2) (by omega)
      obtain ⟨hown1, hg1s'⟩ := hw0.stored (k * 2) (Value.int .i64 (z : Int))
      rw [set_next (A := pairsC (marksShare m k)) (by simp [marksShare_cells] <;> omega) (by rw [HL.out]; omega)] at hown1
      have hg1 := grownBy_trans hg0' hg1s'

      have hw1 := hown1
      have hg1' := hg1
      have hf1 := hw1.frozenAt (k * 2 + 1)
      obtain ⟨y1, hy1⟩ := own_cell hw1 (k * 2 + 1) (by omega)
      obtain ⟨hown2, hg2s'⟩ := hw1.stored (k * 2 + 1) (Value.int .i64 ((z : Int) + 1))
      rw [set_next (A := pairsC (marksShare m k) ++ [Value.int .i64 (z : Int)]) (by simp [marksShare_cells] <;> omega) (by rw [HL.out]; omega)] at hown2
      have hg2 := grownBy_trans hg1' hg2s'

      have hE : pairsC (marksShare m k) ++ [Value.int .i64 (z : Int)] ++ [Value.int .i64 ((z : Int) + 1)] = pairsC (marksShare m (k + 1)) := by
        have hzz := HZ.out
        rw [marksShare_next, markShare]
        simp only [List.append_assoc, pairC, List.cons_append, List.nil_append, ← hzz]
        rfl
      rw [hE] at hown2
      clear hE hown0 hg0 hown1 hg1
      go_wp2
      go_roundw
      case rel => exact ⟨k + 1, by omega, by go_num, ⟨z + 2, by go_num, by have := HZ.out; omega⟩, by rw [show (k + 1) * 2 = k * 2 + 2 by omega]; exact hown2, hg2⟩
      case measure => simp [intOf]; omega

    · obtain rfl : k = n := by omega
      rw [show pairsC (marksShare m k) ++ (pairsC l).drop (k * 2) = pairsC (marksShare m k) from by rw [List.drop_of_length_le (by rw [HL.out]; exact Nat.le_refl _), List.append_nil]] at hown0
      have HZ := Lib.hid hz
      clear hz
      go_wp2
      go_ret
      exact ⟨ret_int (by rw [HZ.out]), hown0, hg0⟩

set_option maxHeartbeats 4000000 in
theorem heldShareS_any (a : Option Addr) (n c m : Nat) (w : World) (hat : CellsAt w a (pairsC (marksShare m n))) (hn : n < 68719476736) (h0 : 0 < m) (hm : m < 274877906944) :
    Calls Try.prog 31 #[.slice a n c, .int .i64 m] w fun e w' => e = .returned (.int .i64 ((m + n * 2 : Nat) : Int)) ∧ Below w.heap.size w w' := by
  go_enter Try.func31, Try.ntmps31
  go_wp2
  go_loopw [1, 5] (fun q i wr => ∃ k : Nat, k ≤ n ∧ i = .int .i64 k ∧ (∃ z : Nat, q = .int .i64 z ∧ z = m + k * 2) ∧ Below w.heap.size w wr) (fun _ i _ => n - (intOf i).toNat)
  case atStart => exact ⟨0, Nat.zero_le _, rfl, ⟨m, rfl, by omega⟩, Below.refl _ _⟩
  case round =>
    obtain ⟨k, hk, rfl, ⟨z, rfl, hz⟩, hb0⟩ := hrel
    by_cases hlt : k < n
    · have hlen := marksShare_len m n
      have hne : marksShare m n ≠ [] := fun e => by rw [e] at hlen; simp at hlen; omega
      obtain ⟨b, o, rfl, hbl, hc⟩ := hat.atShare hne
      have hz9 : z + 2 < 1099511627776 := by omega
      have hz0 : 0 < z := by omega
      have HC := Lib.hid (show ∀ w', Below w.heap.size w w' → (w'.cell? ⟨b, o + k * 2, none⟩ = some (Value.int .i64 (z : Int)) ∧ w'.cell? ⟨b, o + k * 2 + 1, none⟩ = some (Value.int .i64 ((z : Int) + 1))) from fun w' hb => by
        have h := hc k (by omega)
        rw [marksShare_get m n k hlt, markShare, ← hz] at h
        push_cast at h
        exact ⟨(hb.cell (p := ⟨b, o + k * 2, none⟩) hbl).trans h.1, (hb.cell (p := ⟨b, o + k * 2 + 1, none⟩) hbl).trans h.2⟩)
      have HZ := Lib.hid hz
      clear hz hc hne hlen
      obtain ⟨g0_0, g0_1⟩ := HC.out _ hb0
      go_wp2
      go_roundw
      case rel => exact ⟨k + 1, by omega, by go_num, ⟨z + 2, by go_num, by have := HZ.out; omega⟩, hb0⟩
      case measure => simp [intOf]; omega
    · obtain rfl : k = n := by omega
      have HZ := Lib.hid hz
      clear hz
      go_wp2
      go_ret
      exact ⟨ret_int (by rw [HZ.out]), hb0⟩





theorem markShareS_z (B : Nat) (a : Option Addr) (n c : Nat) (l : List (Int × Int)) (z : Int) (m : Nat) (w : World) (hown : w.ownsRow B 76 2 (.slice a n c) n (pairsC l)) (hz : z = m) (hn : n < 68719476736) (h0 : 0 < m) (hm : m < 274877906944) :
    Calls Try.prog 30 #[.slice a n c, .int .i64 z] w fun e w' => e = .returned (.int .i64 ((m + n * 2 : Nat) : Int)) ∧ w'.ownsRow B 76 2 (.slice a n c) n (pairsC (marksShare m n)) ∧ w.grownBy w' (Value.ownBlock (.slice a n c)) := by
  subst hz; exact markShareS_any B a n c l m w hown hn h0 hm

theorem heldShareS_z (a : Option Addr) (n c : Nat) (z : Int) (m : Nat) (w : World) (hat : CellsAt w a (pairsC (marksShare m n))) (hz : z = m) (hn : n < 68719476736) (h0 : 0 < m) (hm : m < 274877906944) :
    Calls Try.prog 31 #[.slice a n c, .int .i64 z] w fun e w' => e = .returned (.int .i64 ((m + n * 2 : Nat) : Int)) ∧ Below w.heap.size w w' := by
  subst hz; exact heldShareS_any a n c m w hat hn h0 hm

end Go.Proofs.Ytbnagmjhdnnheaa
