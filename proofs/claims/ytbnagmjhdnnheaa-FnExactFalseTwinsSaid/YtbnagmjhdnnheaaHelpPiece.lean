/-
  The contracts of the laws' own helpers over records of the type Piece and slices of them (written by wip/tools/gen_help.py). Conditions: fewer than 2^42 elements; what is marked is the call's own.
-/
import Derived.Test.YtbnagmjhdnnheaaHelpM
import Derived.Test.YtbnagmjhdnnheaaTri
import Derived.Test.YtbnagmjhdnnheaaOpen
namespace Go.Proofs.Ytbnagmjhdnnheaa
open Go.RowKit Go.ChangeShapes

theorem Try.ulSlPiece : Try.prog.underlying 46 = some (.slice 88) := by kernel_rfl
theorem Try.infoSlPiece : (Try.prog.info? 88).map (fun i => (i.zero, i.size, i.bytes)) = some (some (.agg #[.int .i64 0, .int .i64 0, .int .i64 0]), 3, 24) := by kernel_rfl
theorem lenPiece (x : En) : (entC x).length = 3 := rfl

/-- The cells of a slice of such records. -/
theorem CellsAt.atPiece {w : World} {a : Option Addr} {l : List (En)} (h : CellsAt w a (entsC l)) (hne : l ≠ []) : ∃ b o, a = some ⟨b, o, none⟩ ∧ b < w.heap.size ∧
    ∀ k (hk : k < l.length), w.cell? ⟨b, o + k * 3, none⟩ = some (.int .i64 l[k].1) ∧ w.cell? ⟨b, o + k * 3 + 1, none⟩ = some (.int .i64 l[k].2.1) ∧ w.cell? ⟨b, o + k * 3 + 2, none⟩ = some (.int .i64 l[k].2.2) := by
  have hne2 : entsC l ≠ [] := by
    cases l with
    | nil => exact absurd rfl hne
    | cons x l => simp [entsC, entC]
  obtain ⟨b, o, ha, hb, hc⟩ := h.spot hne2
  refine ⟨b, o, ha, hb, fun k hk => ⟨?_, ?_, ?_⟩⟩
  · exact hc (k * 3) _ (by rw [entsC, show k * 3 = k * 3 + 0 from rfl, flat_get entC 3 lenPiece l k 0 hk (by decide)]; rfl)
  · rw [Nat.add_assoc]; exact hc (k * 3 + 1) _ (by rw [entsC, flat_get entC 3 lenPiece l k 1 hk (by decide)]; rfl)
  · rw [Nat.add_assoc]; exact hc (k * 3 + 2) _ (by rw [entsC, flat_get entC 3 lenPiece l k 2 hk (by decide)]; rfl)

theorem eqPiece_same (x0 : Int) (x1 : Int) (x2 : Int) (w : World) :
    Calls Try.prog 70 #[.agg #[.int .i64 x0, .int .i64 x1, .int .i64 x2], .agg #[.int .i64 x0, .int .i64 x1, .int .i64 x2]] w fun e w' => e = .returned (.bool true) ∧ Below w.heap.size w w' := by
  go_enter Try.func70, Try.ntmps70
  go_wp2
  go_ret
  exact ⟨rfl, below_alloc2 _ _ _⟩

set_option maxHeartbeats 4000000 in
theorem eqPieceS_same (a a' : Option Addr) (n c d : Nat) (l : List (En)) (w : World) (hn : n = l.length) (hl : n < 4398046511104) (h1 : CellsAt w a (entsC l)) (h2 : CellsAt w a' (entsC l)) :
    Calls Try.prog 34 #[.slice a n c, .slice a' n d] w fun e w' => e = .returned (.bool true) ∧ Below w.heap.size w w' := by
  have HN := Lib.hid hn
  clear hn
  go_enter Try.func34, Try.ntmps34
  go_wp2
  go_loopw [5] (fun i wr => ∃ k : Nat, k ≤ n ∧ i = .int .i64 k ∧ Below w.heap.size w wr) (fun i _ => n - (intOf i).toNat)
  case atStart => exact ⟨0, Nat.zero_le _, rfl, Below.refl _ _⟩
  case round =>
    obtain ⟨k, hk, rfl, hb⟩ := hrel
    by_cases hlt : k < n
    · have hkl : k < l.length := by rw [← HN.out]; exact hlt
      have hne : l ≠ [] := fun e => by rw [e] at hkl; simp at hkl
      obtain ⟨b1, o1, rfl, hb1, hc1⟩ := h1.atPiece hne
      obtain ⟨b2, o2, rfl, hb2, hc2⟩ := h2.atPiece hne
      obtain ⟨x0, hx0⟩ : ∃ x, l[k].1 = x := ⟨_, rfl⟩
      obtain ⟨x1, hx1⟩ : ∃ x, l[k].2.1 = x := ⟨_, rfl⟩
      obtain ⟨x2, hx2⟩ : ∃ x, l[k].2.2 = x := ⟨_, rfl⟩
      have HC := Lib.hid (show ∀ w', Below w.heap.size w w' → (w'.cell? ⟨b1, o1 + k * 3, none⟩ = some (.int .i64 x0) ∧ w'.cell? ⟨b1, o1 + k * 3 + 1, none⟩ = some (.int .i64 x1) ∧ w'.cell? ⟨b1, o1 + k * 3 + 2, none⟩ = some (.int .i64 x2)) ∧ (w'.cell? ⟨b2, o2 + k * 3, none⟩ = some (.int .i64 x0) ∧ w'.cell? ⟨b2, o2 + k * 3 + 1, none⟩ = some (.int .i64 x1) ∧ w'.cell? ⟨b2, o2 + k * 3 + 2, none⟩ = some (.int .i64 x2)) from fun w' hb => ⟨by
        have h := hc1 k hkl
        rw [hx0, hx1, hx2] at h
        exact ⟨(hb.cell (p := ⟨b1, o1 + k * 3, none⟩) hb1).trans h.1, (hb.cell (p := ⟨b1, o1 + k * 3 + 1, none⟩) hb1).trans h.2.1, (hb.cell (p := ⟨b1, o1 + k * 3 + 2, none⟩) hb1).trans h.2.2⟩, by
        have h := hc2 k hkl
        rw [hx0, hx1, hx2] at h
        exact ⟨(hb.cell (p := ⟨b2, o2 + k * 3, none⟩) hb2).trans h.1, (hb.cell (p := ⟨b2, o2 + k * 3 + 1, none⟩) hb2).trans h.2.1, (hb.cell (p := ⟨b2, o2 + k * 3 + 2, none⟩) hb2).trans h.2.2⟩⟩)
      clear hx0 hx1 hx2 hc1 hc2 hne
      go_wp2
      go_region_held3 (fun w' => (w'.cell? ⟨b1, o1 + k * 3, none⟩ = some (.int .i64 x0) ∧ w'.cell? ⟨b1, o1 + k * 3 + 1, none⟩ = some (.int .i64 x1) ∧ w'.cell? ⟨b1, o1 + k * 3 + 2, none⟩ = some (.int .i64 x2)) ∧ (w'.cell? ⟨b2, o2 + k * 3, none⟩ = some (.int .i64 x0) ∧ w'.cell? ⟨b2, o2 + k * 3 + 1, none⟩ = some (.int .i64 x1) ∧ w'.cell? ⟨b2, o2 + k * 3 + 2, none⟩ = some (.int .i64 x2))) (first | exact HC.out _ hb | exact HC.out _ hb.drew | exact HC.out _ (hb.drew.trans (hbm.mono hb.size)))
        (first | (go_at_call 70; refine (eqPiece_same _ _ _ _).mono ?_; rintro e w1 ⟨rfl, hbm⟩))
      go_wp2
      go_roundw
      case rel => exact ⟨k + 1, by omega, by go_num, hb.drew.trans (hbm.mono hb.size)⟩
      case measure => simp [intOf]; omega
    · go_wp2
      go_ret
      exact ⟨rfl, hb⟩

/-- Records that bear ascending marks. -/
def markPiece (m i : Nat) : En := ⟨((m + i * 3 : Nat) : Int), ((m + i * 3 + 1 : Nat) : Int), ((m + i * 3 + 2 : Nat) : Int)⟩
def marksPiece (m n : Nat) : List (En) := (List.range n).map (markPiece m)
theorem marksPiece_len (m n : Nat) : (marksPiece m n).length = n := by simp [marksPiece]
theorem marksPiece_get (m n k : Nat) (h : k < n) : (marksPiece m n)[k]'(by rw [marksPiece_len]; exact h) = markPiece m k := by simp [marksPiece]
theorem marksPiece_next (m k : Nat) : entsC (marksPiece m (k + 1)) = entsC (marksPiece m k) ++ entC (markPiece m k) := by
  rw [marksPiece, List.range_succ, List.map_append, entsC, List.flatMap_append, marksPiece, entsC]; simp
theorem marksPiece_cells (m n : Nat) : (entsC (marksPiece m n)).length = n * 3 := by rw [entsC, flat_len entC 3 lenPiece, marksPiece_len]

set_option maxHeartbeats 8000000 in
theorem markPieceS_any (B : Nat) (a : Option Addr) (n c : Nat) (l : List (En)) (m : Nat) (w : World) (hown : w.ownsRow B 88 3 (.slice a n c) n (entsC l)) (hn : n < 2199023255552) (h0 : 0 < m) (hm : m < 4398046511104) :
    Calls Try.prog 35 #[.slice a n c, .int .i64 m] w fun e w' => e = .returned (.int .i64 ((m + n * 3 : Nat) : Int)) ∧ w'.ownsRow B 88 3 (.slice a n c) n (entsC (marksPiece m n)) ∧ w.grownBy w' (Value.ownBlock (.slice a n c)) := by
  have hlen : (entsC l).length = n * 3 := hown.1
  have HL := Lib.hid hlen
  clear hlen
  go_enter Try.func35, Try.ntmps35
  go_wp2
  go_loopw [1, 5] (fun q i wr => ∃ k : Nat, k ≤ n ∧ i = .int .i64 k ∧ (∃ z : Nat, q = .int .i64 z ∧ z = m + k * 3) ∧ wr.ownsRow B 88 3 (.slice a n c) n (entsC (marksPiece m k) ++ (entsC l).drop (k * 3)) ∧ w.grownBy wr (Value.ownBlock (.slice a n c))) (fun _ i _ => n - (intOf i).toNat)
  case atStart => exact ⟨0, Nat.zero_le _, rfl, ⟨m, rfl, by omega⟩, by simpa [marksPiece, entsC] using hown, World.grownBy.refl _ _⟩
  case round =>
    clear hown
    obtain ⟨k, hk, rfl, ⟨z, rfl, hz⟩, hown0, hg0⟩ := hrel
    by_cases hlt : k < n
    · obtain ⟨g, rfl⟩ : ∃ g, a = some ⟨g, 0, none⟩ := by
        rcases hown0.2 with ⟨hv, h0⟩ | ⟨g, cap', cur, hv, _⟩
        · omega
        · exact ⟨g, (by simpa using hv : a = some ⟨g, 0, none⟩ ∧ c = cap').1⟩
      have HZ := Lib.hid hz
      have hz9 : z + 3 < 70368744177664 := by omega
      have hz0 : 0 < z := by omega
      clear hz
      have hw0 := hown0
      have hg0' := hg0
      have hf0 := hw0.frozenAt (k * 3)
      obtain ⟨y0, hy0⟩ := own_cell hw0 (k * 3) (by omega)
      obtain ⟨hown1, hg1s'⟩ := hw0.stored (k * 3) (Value.int .i64 (z : Int))
      rw [set_next (A := entsC (marksPiece m k)) (by simp [marksPiece_cells] <;> omega) (by rw [HL.out]; omega)] at hown1
      have hg1 := grownBy_trans hg0' hg1s'

      have hw1 := hown1
      have hg1' := hg1
      have hf1 := hw1.frozenAt (k * 3 + 1)
      obtain ⟨y1, hy1⟩ := own_cell hw1 (k * 3 + 1) (by omega)
      obtain ⟨hown2, hg2s'⟩ := hw1.stored (k * 3 + 1) (Value.int .i64 ((z : Int) + 1))
      rw [set_next (A := entsC (marksPiece m k) ++ [Value.int .i64 (z : Int)]) (by simp [marksPiece_cells] <;> omega) (by rw [HL.out]; omega)] at hown2
      have hg2 := grownBy_trans hg1' hg2s'

      have hw2 := hown2
      have hg2' := hg2
      have hf2 := hw2.frozenAt (k * 3 + 2)
      obtain ⟨y2, hy2⟩ := own_cell hw2 (k * 3 + 2) (by omega)
      obtain ⟨hown3, hg3s'⟩ := hw2.stored (k * 3 + 2) (Value.int .i64 ((z : Int) + 2))
      rw [set_next (A := entsC (marksPiece m k) ++ [Value.int .i64 (z : Int)] ++ [Value.int .i64 ((z : Int) + 1)]) (by simp [marksPiece_cells] <;> omega) (by rw [HL.out]; omega)] at hown3
      have hg3 := grownBy_trans hg2' hg3s'

      have hE : entsC (marksPiece m k) ++ [Value.int .i64 (z : Int)] ++ [Value.int .i64 ((z : Int) + 1)] ++ [Value.int .i64 ((z : Int) + 2)] = entsC (marksPiece m (k + 1)) := by
        have hzz := HZ.out
        rw [marksPiece_next, markPiece]
        simp only [List.append_assoc, entC, List.cons_append, List.nil_append, ← hzz]
        rfl
      rw [hE] at hown3
      clear hE hown0 hg0 hown1 hg1 hown2 hg2
      go_wp2
      go_roundw
      case rel => exact ⟨k + 1, by omega, by go_num, ⟨z + 3, by go_num, by have := HZ.out; omega⟩, by rw [show (k + 1) * 3 = k * 3 + 3 by omega]; exact hown3, hg3⟩
      case measure => simp [intOf]; omega

    · obtain rfl : k = n := by omega
      rw [show entsC (marksPiece m k) ++ (entsC l).drop (k * 3) = entsC (marksPiece m k) from by rw [List.drop_of_length_le (by rw [HL.out]; exact Nat.le_refl _), List.append_nil]] at hown0
      have HZ := Lib.hid hz
      clear hz
      go_wp2
      go_ret
      exact ⟨ret_int (by rw [HZ.out]), hown0, hg0⟩

set_option maxHeartbeats 4000000 in
theorem heldPieceS_any (a : Option Addr) (n c m : Nat) (w : World) (hat : CellsAt w a (entsC (marksPiece m n))) (hn : n < 2199023255552) (h0 : 0 < m) (hm : m < 4398046511104) :
    Calls Try.prog 36 #[.slice a n c, .int .i64 m] w fun e w' => e = .returned (.int .i64 ((m + n * 3 : Nat) : Int)) ∧ Below w.heap.size w w' := by
  go_enter Try.func36, Try.ntmps36
  go_wp2
  go_loopw [1, 5] (fun q i wr => ∃ k : Nat, k ≤ n ∧ i = .int .i64 k ∧ (∃ z : Nat, q = .int .i64 z ∧ z = m + k * 3) ∧ Below w.heap.size w wr) (fun _ i _ => n - (intOf i).toNat)
  case atStart => exact ⟨0, Nat.zero_le _, rfl, ⟨m, rfl, by omega⟩, Below.refl _ _⟩
  case round =>
    obtain ⟨k, hk, rfl, ⟨z, rfl, hz⟩, hb0⟩ := hrel
    by_cases hlt : k < n
    · have hlen := marksPiece_len m n
      have hne : marksPiece m n ≠ [] := fun e => by rw [e] at hlen; simp at hlen; omega
      obtain ⟨b, o, rfl, hbl, hc⟩ := hat.atPiece hne
      have hz9 : z + 3 < 70368744177664 := by omega
      have hz0 : 0 < z := by omega
      have HC := Lib.hid (show ∀ w', Below w.heap.size w w' → (w'.cell? ⟨b, o + k * 3, none⟩ = some (Value.int .i64 (z : Int)) ∧ w'.cell? ⟨b, o + k * 3 + 1, none⟩ = some (Value.int .i64 ((z : Int) + 1)) ∧ w'.cell? ⟨b, o + k * 3 + 2, none⟩ = some (Value.int .i64 ((z : Int) + 2))) from fun w' hb => by
        have h := hc k (by omega)
        rw [marksPiece_get m n k hlt, markPiece, ← hz] at h
        push_cast at h
        exact ⟨(hb.cell (p := ⟨b, o + k * 3, none⟩) hbl).trans h.1, (hb.cell (p := ⟨b, o + k * 3 + 1, none⟩) hbl).trans h.2.1, (hb.cell (p := ⟨b, o + k * 3 + 2, none⟩) hbl).trans h.2.2⟩)
      have HZ := Lib.hid hz
      clear hz hc hne hlen
      obtain ⟨g0_0, g0_1, g0_2⟩ := HC.out _ hb0
      go_wp2
      go_roundw
      case rel => exact ⟨k + 1, by omega, by go_num, ⟨z + 3, by go_num, by have := HZ.out; omega⟩, hb0⟩
      case measure => simp [intOf]; omega
    · obtain rfl : k = n := by omega
      have HZ := Lib.hid hz
      clear hz
      go_wp2
      go_ret
      exact ⟨ret_int (by rw [HZ.out]), hb0⟩





theorem markPieceS_z (B : Nat) (a : Option Addr) (n c : Nat) (l : List (En)) (z : Int) (m : Nat) (w : World) (hown : w.ownsRow B 88 3 (.slice a n c) n (entsC l)) (hz : z = m) (hn : n < 2199023255552) (h0 : 0 < m) (hm : m < 4398046511104) :
    Calls Try.prog 35 #[.slice a n c, .int .i64 z] w fun e w' => e = .returned (.int .i64 ((m + n * 3 : Nat) : Int)) ∧ w'.ownsRow B 88 3 (.slice a n c) n (entsC (marksPiece m n)) ∧ w.grownBy w' (Value.ownBlock (.slice a n c)) := by
  subst hz; exact markPieceS_any B a n c l m w hown hn h0 hm

theorem heldPieceS_z (a : Option Addr) (n c : Nat) (z : Int) (m : Nat) (w : World) (hat : CellsAt w a (entsC (marksPiece m n))) (hz : z = m) (hn : n < 2199023255552) (h0 : 0 < m) (hm : m < 4398046511104) :
    Calls Try.prog 36 #[.slice a n c, .int .i64 z] w fun e w' => e = .returned (.int .i64 ((m + n * 3 : Nat) : Int)) ∧ Below w.heap.size w w' := by
  subst hz; exact heldPieceS_any a n c m w hat hn h0 hm

end Go.Proofs.Ytbnagmjhdnnheaa
