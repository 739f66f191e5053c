/-
  The contracts of the laws' own helpers over records of the type Entry and slices of them (written by wip/tools/gen_help.py). Conditions: fewer than 2^38 elements; what is marked is the call's own.
  The contracts of the laws' own helpers over records of the type Piece and slices of them (written by wip/tools/gen_help.py). Conditions: fewer than 2^42 elements; what is marked is the call's own.
  The contracts of the laws' own helpers over records of the type Found and slices of them (written by wip/tools/gen_help.py). Conditions: fewer than 2^42 elements; what is marked is the call's own.
-/
import Derived.Test.YtbnagmjhdnnheaaMg8
import Derived.Test.YtbnagmjhdnnheaaMg2
import Derived.Test.YtbnagmjhdnnheaaMg4
namespace Go.Proofs.Ytbnagmjhdnnheaa
open Go.RowKit Go.ChangeShapes

theorem Try.ulSlEntry : Try.prog.underlying 24 = some (.slice 68) := by kernel_rfl
theorem Try.infoSlEntry : (Try.prog.info? 68).map (fun i => (i.zero, i.size, i.bytes)) = some (some (.agg #[.int .i64 0, .int .i64 0, .int .i64 0]), 3, 24) := by kernel_rfl
theorem lenEntry (x : En) : (entC x).length = 3 := rfl

/-- The cells of a slice of such records. -/
theorem CellsAt.atEntry {w : World} {a : Option Addr} {l : List (En)} (h : CellsAt w a (entsC l)) (hne : l ≠ []) : ∃ b o, a = some ⟨b, o, none⟩ ∧ b < w.heap.size ∧
    ∀ k (hk : k < l.length), w.cell? ⟨b, o + k * 3, none⟩ = some (.int .i64 l[k].1) ∧ w.cell? ⟨b, o + k * 3 + 1, none⟩ = some (.int .i64 l[k].2.1) ∧ w.cell? ⟨b, o + k * 3 + 2, none⟩ = some (.int .i64 l[k].2.2) := by
  have hne2 : entsC l ≠ [] := by
    cases l with
    | nil => exact absurd rfl hne
    | cons x l => simp [entsC, entC]
  obtain ⟨b, o, ha, hb, hc⟩ := h.spot hne2
  refine ⟨b, o, ha, hb, fun k hk => ⟨?_, ?_, ?_⟩⟩
  · exact hc (k * 3) _ (by rw [entsC, show k * 3 = k * 3 + 0 from rfl, flat_get entC 3 lenEntry l k 0 hk (by decide)]; rfl)
  · rw [Nat.add_assoc]; exact hc (k * 3 + 1) _ (by rw [entsC, flat_get entC 3 lenEntry l k 1 hk (by decide)]; rfl)
  · rw [Nat.add_assoc]; exact hc (k * 3 + 2) _ (by rw [entsC, flat_get entC 3 lenEntry l k 2 hk (by decide)]; rfl)

theorem eqEntry_same (x0 : Int) (x1 : Int) (x2 : Int) (w : World) :
    Calls Try.prog 56 #[.agg #[.int .i64 x0, .int .i64 x1, .int .i64 x2], .agg #[.int .i64 x0, .int .i64 x1, .int .i64 x2]] w fun e w' => e = .returned (.bool true) ∧ Below w.heap.size w w' := by
  go_enter Try.func56, Try.ntmps56
  go_wp2
  go_ret
  exact ⟨rfl, below_alloc2 _ _ _⟩

set_option maxHeartbeats 4000000 in
theorem eqEntryS_same (a a' : Option Addr) (n c d : Nat) (l : List (En)) (w : World) (hn : n = l.length) (hl : n < 274877906944) (h1 : CellsAt w a (entsC l)) (h2 : CellsAt w a' (entsC l)) :
    Calls Try.prog 15 #[.slice a n c, .slice a' n d] w fun e w' => e = .returned (.bool true) ∧ Below w.heap.size w w' := by
  have HN := Lib.hid hn
  clear hn
  go_enter Try.func15, Try.ntmps15
  go_wp2
  go_loopw [5] (fun i wr => ∃ k : Nat, k ≤ n ∧ i = .int .i64 k ∧ Below w.heap.size w wr) (fun i _ => n - (intOf i).toNat)
  case atStart => exact ⟨0, Nat.zero_le _, rfl, Below.refl _ _⟩
  case round =>
    obtain ⟨k, hk, rfl, hb⟩ := hrel
    by_cases hlt : k < n
    · have hkl : k < l.length := by rw [← HN.out]; exact hlt
      have hne : l ≠ [] := fun e => by rw [e] at hkl; simp at hkl
      obtain ⟨b1, o1, rfl, hb1, hc1⟩ := h1.atEntry hne
      obtain ⟨b2, o2, rfl, hb2, hc2⟩ := h2.atEntry hne
      obtain ⟨x0, hx0⟩ : ∃ x, l[k].1 = x := ⟨_, rfl⟩
      obtain ⟨x1, hx1⟩ : ∃ x, l[k].2.1 = x := ⟨_, rfl⟩
      obtain ⟨x2, hx2⟩ : ∃ x, l[k].2.2 = x := ⟨_, rfl⟩
      have HC := Lib.hid (show ∀ w', Below w.heap.size w w' → (w'.cell? ⟨b1, o1 + k * 3, none⟩ = some (.int .i64 x0) ∧ w'.cell? ⟨b1, o1 + k * 3 + 1, none⟩ = some (.int .i64 x1) ∧ w'.cell? ⟨b1, o1 + k * 3 + 2, none⟩ = some (.int .i64 x2)) ∧ (w'.cell? ⟨b2, o2 + k * 3, none⟩ = some (.int .i64 x0) ∧ w'.cell? ⟨b2, o2 + k * 3 + 1, none⟩ = some (.int .i64 x1) ∧ w'.cell? ⟨b2, o2 + k * 3 + 2, none⟩ = some (.int .i64 x2)) from fun w' hb => ⟨by
        have h := hc1 k hkl
        rw [hx0, hx1, hx2] at h
        exact ⟨(hb.cell (p := ⟨b1, o1 + k * 3, none⟩) hb1).trans h.1, (hb.cell (p := ⟨b1, o1 + k * 3 + 1, none⟩) hb1).trans h.2.1, (hb.cell (p := ⟨b1, o1 + k * 3 + 2, none⟩) hb1).trans h.2.2⟩, by
        have h := hc2 k hkl
        rw [hx0, hx1, hx2] at h
        exact ⟨(hb.cell (p := ⟨b2, o2 + k * 3, none⟩) hb2).trans h.1, (hb.cell (p := ⟨b2, o2 + k * 3 + 1, none⟩) hb2).trans h.2.1, (hb.cell (p := ⟨b2, o2 + k * 3 + 2, none⟩) hb2).trans h.2.2⟩⟩)
      clear hx0 hx1 hx2 hc1 hc2 hne
      go_wp2
      go_region_held3 (fun w' => (w'.cell? ⟨b1, o1 + k * 3, none⟩ = some (.int .i64 x0) ∧ w'.cell? ⟨b1, o1 + k * 3 + 1, none⟩ = some (.int .i64 x1) ∧ w'.cell? ⟨b1, o1 + k * 3 + 2, none⟩ = some (.int .i64 x2)) ∧ (w'.cell? ⟨b2, o2 + k * 3, none⟩ = some (.int .i64 x0) ∧ w'.cell? ⟨b2, o2 + k * 3 + 1, none⟩ = some (.int .i64 x1) ∧ w'.cell? ⟨b2, o2 + k * 3 + 2, none⟩ = some (.int .i64 x2))) (first | exact HC.out _ hb | exact HC.out _ hb.drew | exact HC.out _ (hb.drew.trans (hbm.mono hb.size)))
        (first | (go_at_call 56; refine (eqEntry_same _ _ _ _).mono ?_; rintro e w1 ⟨rfl, hbm⟩))
      go_wp2
      go_roundw
      case rel => exact ⟨k + 1, by omega, by go_num, hb.drew.trans (hbm.mono hb.size)⟩
      case measure => simp [intOf]; omega
    · go_wp2
      go_ret
      exact ⟨rfl, hb⟩

/-- Records that bear ascending marks. -/
def markEntry (m i : Nat) : En := ⟨((m + i * 3 : Nat) : Int), ((m + i * 3 + 1 : Nat) : Int), ((m + i * 3 + 2 : Nat) : Int)⟩
def marksEntry (m n : Nat) : List (En) := (List.range n).map (markEntry m)
theorem marksEntry_len (m n : Nat) : (marksEntry m n).length = n := by simp [marksEntry]
theorem marksEntry_get (m n k : Nat) (h : k < n) : (marksEntry m n)[k]'(by rw [marksEntry_len]; exact h) = markEntry m k := by simp [marksEntry]
theorem marksEntry_next (m k : Nat) : entsC (marksEntry m (k + 1)) = entsC (marksEntry m k) ++ entC (markEntry m k) := by
  rw [marksEntry, List.range_succ, List.map_append, entsC, List.flatMap_append, marksEntry, entsC]; simp
theorem marksEntry_cells (m n : Nat) : (entsC (marksEntry m n)).length = n * 3 := by rw [entsC, flat_len entC 3 lenEntry, marksEntry_len]

set_option maxHeartbeats 8000000 in
theorem markEntryS_any (B : Nat) (a : Option Addr) (n c : Nat) (l : List (En)) (m : Nat) (w : World) (hown : w.ownsRow B 68 3 (.slice a n c) n (entsC l)) (hn : n < 68719476736) (h0 : 0 < m) (hm : m < 274877906944) :
    Calls Try.prog 16 #[.slice a n c, .int .i64 m] w fun e w' => e = .returned (.int .i64 ((m + n * 3 : Nat) : Int)) ∧ w'.ownsRow B 68 3 (.slice a n c) n (entsC (marksEntry m n)) ∧ w.grownBy w' (Value.ownBlock (.slice a n c)) := by
  have hlen : (entsC l).length = n * 3 := hown.1
  have HL := Lib.hid hlen
  clear hlen
  go_enter Try.func16, Try.ntmps16
  go_wp2
  go_loopw [1, 5] (fun q i wr => ∃ k : Nat, k ≤ n ∧ i = .int .i64 k ∧ (∃ z : Nat, q = .int .i64 z ∧ z = m + k * 3) ∧ wr.ownsRow B 68 3 (.slice a n c) n (entsC (marksEntry m k) ++ (entsC l).drop (k * 3)) ∧ w.grownBy wr (Value.ownBlock (.slice a n c))) (fun _ i _ => n - (intOf i).toNat)
  case atStart => exact ⟨0, Nat.zero_le _, rfl, ⟨m, rfl, by omega⟩, by simpa [marksEntry, entsC] using hown, World.grownBy.refl _ _⟩
  case round =>
    clear hown
    obtain ⟨k, hk, rfl, ⟨z, rfl, hz⟩, hown0, hg0⟩ := hrel
    by_cases hlt : k < n
    · obtain ⟨g, rfl⟩ : ∃ g, a = some ⟨g, 0, none⟩ := by
        rcases hown0.2 with ⟨hv, h0⟩ | ⟨g, cap', cur, hv, _⟩
        · omega
        · exact ⟨g, (by simpa using hv : a = some ⟨g, 0, none⟩ ∧ c = cap').1⟩
      have HZ := Lib.hid hz
      have hz9 : z + 3 < 1099511627776 := by omega
      have hz0 : 0 < z := by omega
      clear hz
      have hw0 := hown0
      have hg0' := hg0
      have hf0 := hw0.frozenAt (k * 3)
      obtain ⟨y0, hy0⟩ := own_cell hw0 (k * 3) (by omega)
      obtain ⟨hown1, hg1s'⟩ := hw0.stored (k * 3) (Value.int .i64 (z : Int))
      rw [set_next (A := entsC (marksEntry m k)) (by simp [marksEntry_cells] <;> omega) (by rw [HL.out]; omega)] at hown1
      have hg1 := grownBy_trans hg0' hg1s'

      have hw1 := hown1
      have hg1' := hg1
      have hf1 := hw1.frozenAt (k * 3 + 1)
      obtain ⟨y1, hy1⟩ := own_cell hw1 (k * 3 + 1) (by omega)
      obtain ⟨hown2, hg2s'⟩ := hw1.stored (k * 3 + 1) (Value.int .i64 ((z : Int) + 1))
      rw [set_next (A := entsC (marksEntry m k) ++ [Value.int .i64 (z : Int)]) (by simp [marksEntry_cells] <;> omega) (by rw [HL.out]; omega)] at hown2
      have hg2 := grownBy_trans hg1' hg2s'

      have hw2 := hown2
      have hg2' := hg2
      have hf2 := hw2.frozenAt (k * 3 + 2)
      obtain ⟨y2, hy2⟩ := own_cell hw2 (k * 3 + 2) (by omega)
      obtain ⟨hown3, hg3s'⟩ := hw2.stored (k * 3 + 2) (Value.int .i64 ((z : Int) + 2))
      rw [set_next (A := entsC (marksEntry m k) ++ [Value.int .i64 (z : Int)] ++ [Value.int .i64 ((z : Int) + 1)]) (by simp [marksEntry_cells] <;> omega) (by rw [HL.out]; omega)] at hown3
      have hg3 := grownBy_trans hg2' hg3s'

      have hE : entsC (marksEntry m k) ++ [Value.int .i64 (z : Int)] ++ [Value.int .i64 ((z : Int) + 1)] ++ [Value.int .i64 ((z : Int) + 2)] = entsC (marksEntry m (k + 1)) := by
        have hzz := HZ.out
        rw [marksEntry_next, markEntry]
        simp only [List.append_assoc, entC, List.cons_append, List.nil_append, ← hzz]
        rfl
      rw [hE] at hown3
      clear hE hown0 hg0 hown1 hg1 hown2 hg2
      go_wp2
      go_roundw
      case rel => exact ⟨k + 1, by omega, by go_num, ⟨z + 3, by go_num, by have := HZ.out; omega⟩, by rw [show (k + 1) * 3 = k * 3 + 3 by omega]; exact hown3, hg3⟩
      case measure => simp [intOf]; omega

    · obtain rfl : k = n := by omega
      rw [show entsC (marksEntry m k) ++ (entsC l).drop (k * 3) = entsC (marksEntry m k) from by rw [List.drop_of_length_le (by rw [HL.out]; exact Nat.le_refl _), List.append_nil]] at hown0
      have HZ := Lib.hid hz
      clear hz
      go_wp2
      go_ret
      exact ⟨ret_int (by rw [HZ.out]), hown0, hg0⟩

set_option maxHeartbeats 4000000 in
theorem heldEntryS_any (a : Option Addr) (n c m : Nat) (w : World) (hat : CellsAt w a (entsC (marksEntry m n))) (hn : n < 68719476736) (h0 : 0 < m) (hm : m < 274877906944) :
    Calls Try.prog 17 #[.slice a n c, .int .i64 m] w fun e w' => e = .returned (.int .i64 ((m + n * 3 : Nat) : Int)) ∧ Below w.heap.size w w' := by
  go_enter Try.func17, Try.ntmps17
  go_wp2
  go_loopw [1, 5] (fun q i wr => ∃ k : Nat, k ≤ n ∧ i = .int .i64 k ∧ (∃ z : Nat, q = .int .i64 z ∧ z = m + k * 3) ∧ Below w.heap.size w wr) (fun _ i _ => n - (intOf i).toNat)
  case atStart => exact ⟨0, Nat.zero_le _, rfl, ⟨m, rfl, by omega⟩, Below.refl _ _⟩
  case round =>
    obtain ⟨k, hk, rfl, ⟨z, rfl, hz⟩, hb0⟩ := hrel
    by_cases hlt : k < n
    · have hlen := marksEntry_len m n
      have hne : marksEntry m n ≠ [] := fun e => by rw [e] at hlen; simp at hlen; omega
      obtain ⟨b, o, rfl, hbl, hc⟩ := hat.atEntry hne
      have hz9 : z + 3 < 1099511627776 := by omega
      have hz0 : 0 < z := by omega
      have HC := Lib.hid (show ∀ w', Below w.heap.size w w' → (w'.cell? ⟨b, o + k * 3, none⟩ = some (Value.int .i64 (z : Int)) ∧ w'.cell? ⟨b, o + k * 3 + 1, none⟩ = some (Value.int .i64 ((z : Int) + 1)) ∧ w'.cell? ⟨b, o + k * 3 + 2, none⟩ = some (Value.int .i64 ((z : Int) + 2))) from fun w' hb => by
        have h := hc k (by omega)
        rw [marksEntry_get m n k hlt, markEntry, ← hz] at h
        push_cast at h
        exact ⟨(hb.cell (p := ⟨b, o + k * 3, none⟩) hbl).trans h.1, (hb.cell (p := ⟨b, o + k * 3 + 1, none⟩) hbl).trans h.2.1, (hb.cell (p := ⟨b, o + k * 3 + 2, none⟩) hbl).trans h.2.2⟩)
      have HZ := Lib.hid hz
      clear hz hc hne hlen
      obtain ⟨g0_0, g0_1, g0_2⟩ := HC.out _ hb0
      go_wp2
      go_roundw
      case rel => exact ⟨k + 1, by omega, by go_num, ⟨z + 3, by go_num, by have := HZ.out; omega⟩, hb0⟩
      case measure => simp [intOf]; omega
    · obtain rfl : k = n := by omega
      have HZ := Lib.hid hz
      clear hz
      go_wp2
      go_ret
      exact ⟨ret_int (by rw [HZ.out]), hb0⟩

theorem Try.ulLaEntry : Try.prog.underlying 22 = some (.slice 70) := by kernel_rfl
theorem toEntry_any (x0 : Int) (x1 : Int) (x2 : Int) (w : World) :
    Calls Try.prog 53 #[.agg #[.int .i64 x0, .int .i64 x1, .int .i64 x2]] w fun e w' => e = .returned (.agg #[.int .i64 x0, .int .i64 x1, .int .i64 x2]) ∧ Below w.heap.size w w' := by
  go_enter Try.func53, Try.ntmps53
  go_wp2
  refine bodyPost_ret (v := .agg #[.int .i64 x0, .int .i64 x1, .int .i64 x2]) (by simp [results, Try.results53, go_sem]) rfl ⟨rfl, ?_⟩
  repeat (first | exact Below.refl _ _ | apply below_drewN' | (refine Below.alloc ?_ (by simp <;> omega) _))

set_option maxHeartbeats 4000000 in
theorem toEntryS_any (l : List (En)) (a : Option Addr) (n c : Nat) (w : World) (hn : n = l.length) (hm : n ≤ 1048576) (hat : CellsAt w a (entsC l)) :
    Calls Try.prog 13 #[.slice a n c] w fun e w' => ∃ a', e = .returned (.slice a' n n) ∧ One w w.heap.size w' 68 3 a' n n (entsC l) := by
  obtain ⟨zs, w1, hmk, hzl, hone⟩ := make_own (P := Try.prog) 24 68 Try.ulSlEntry Try.infoSlEntry n (by omega) (by unfold maxLen; omega) w
  have HN := Lib.hid hn
  have HZ := Lib.hid hzl
  clear hn hzl
  go_enter Try.func13, Try.ntmps13
  go_wp2
  clear hmk
  go_loopw [4] (fun i wr => ∃ k : Nat, k ≤ n ∧ i = .int .i64 k ∧ One w w.heap.size wr 68 3 (some ⟨w.heap.size, 0, none⟩) n n (entsC (l.take k) ++ zs.drop (k * 3))) (fun i _ => n - (intOf i).toNat)
  case atStart => exact ⟨0, Nat.zero_le _, rfl, by simpa [entsC] using hone⟩
  case round =>
    clear hone
    obtain ⟨k, hk, rfl, hone⟩ := hrel
    by_cases hlt : k < n
    · have hkl : k < l.length := by rw [← HN.out]; exact hlt
      obtain ⟨b, o, rfl, _, hc⟩ := (hat.below hone.below).atEntry (fun e => by rw [e] at hkl; simp at hkl)
      obtain ⟨g0, g1, g2⟩ := hc k hkl
      obtain ⟨x0, hx0⟩ : ∃ x, l[k].1 = x := ⟨_, rfl⟩
      rw [hx0] at g0
      obtain ⟨x1, hx1⟩ : ∃ x, l[k].2.1 = x := ⟨_, rfl⟩
      rw [hx1] at g1
      obtain ⟨x2, hx2⟩ : ∃ x, l[k].2.2 = x := ⟨_, rfl⟩
      rw [hx2] at g2
      have HX := Lib.hid (show entsC (l.take (k + 1)) = entsC (l.take k) ++ [Value.int .i64 x0] ++ [Value.int .i64 x1] ++ [Value.int .i64 x2] by
        rw [List.take_succ_eq_append_getElem hkl, entsC, List.flatMap_append, entsC]
        simp [entC, hx0, hx1, hx2])
      clear hc hx0 hx1 hx2
      go_wp2_with fail
      refine (toEntry_any _ _ _ _).mono ?_
      rintro e v0 ⟨rfl, hb⟩
      have h0 := hone.later hb
      have hl0 : (entsC (l.take k)).length = k * 3 := by rw [entsC, flat_len entC 3 lenEntry, List.length_take]; omega
      have HL0 := Lib.hid hl0
      clear hone hb hl0 g0 g1 g2
      have f0 := h0.frozen (k * 3)
      obtain ⟨y0, c0⟩ := h0.cell (k * 3) (by omega)
      have h1 := h0.stored (k * 3) (Value.int .i64 x0)
      rw [set_next (A := entsC (l.take k)) (by simp [HL0.out] <;> omega) (by rw [HZ.out]; omega)] at h1
      have f1 := h0.frozen (k * 3 + 1)
      obtain ⟨y1, c1⟩ := h0.cell (k * 3 + 1) (by omega)
      have h2 := h1.stored (k * 3 + 1) (Value.int .i64 x1)
      rw [set_next (A := entsC (l.take k) ++ [Value.int .i64 x0]) (by simp [HL0.out] <;> omega) (by rw [HZ.out]; omega)] at h2
      have f2 := h0.frozen (k * 3 + 2)
      obtain ⟨y2, c2⟩ := h0.cell (k * 3 + 2) (by omega)
      have h3 := h2.stored (k * 3 + 2) (Value.int .i64 x2)
      rw [set_next (A := entsC (l.take k) ++ [Value.int .i64 x0] ++ [Value.int .i64 x1]) (by simp [HL0.out] <;> omega) (by rw [HZ.out]; omega)] at h3
      rw [← HX.out] at h3
      clear h0 h1 h2
      go_wp2
      go_roundw
      case rel => exact ⟨k + 1, by omega, by go_num, by rw [show (k + 1) * 3 = k * 3 + 3 by omega]; exact h3⟩
      case measure => simp [intOf]; omega
    · obtain rfl : k = n := by omega
      have hE : entsC (l.take k) ++ zs.drop (k * 3) = entsC l := by
        rw [List.take_of_length_le (by rw [HN.out]; exact Nat.le_refl _), List.drop_of_length_le (by rw [HZ.out]; exact Nat.le_refl _), List.append_nil]
      rw [hE] at hone
      clear hE
      go_wp2
      go_ret
      exact ⟨_, rfl, hone⟩

theorem szEntryS_any (a : Option Addr) (n c left : Nat) (w : World) (hl : left ≤ 1048576) (hm : n ≤ maxLen) :
    Calls Try.prog 11 #[.slice a n c, .int .i64 left] w fun e w' => (∃ r : Int, e = .returned (.int .i64 r) ∧ (r < 0 ∨ (r = (left : Int) - n ∧ 0 ≤ r))) ∧ w = w' := by
  unfold maxLen at hm
  have e1 : IntKind.i64.wrap ((left : Int) - n) = (left : Int) - n := IntWalk.i64_in _ (by omega)
  by_cases h0 : left < n
  · have t1 : (left : Int) - n < 0 := by omega
    go_enter Try.func11, Try.ntmps11
    go_wp2
    go_ret
    exact ⟨⟨-1, rfl, .inl (by decide)⟩, rfl⟩
  · have t1 : ¬ (left : Int) - n < 0 := by omega
    go_enter Try.func11, Try.ntmps11
    go_wp2
    go_ret
    exact ⟨⟨(left : Int) - n, rfl, .inr ⟨rfl, by omega⟩⟩, rfl⟩

theorem openEntrys {H : Type} {enc : TypeId × Value → H} {w : World} {spare : Nat → Bool} {held : Bool} {a : Option Addr} {n c : Nat} {d : DataW H} {p : List MemPlace}
    (h : DataW.Trod enc Try.prog w 0 spare held 22 (.slice a n c) d p) : ∃ l : List (En), n = l.length ∧ n ≤ c ∧ c ≤ maxLen ∧ (∀ x ∈ l, (Lit.int .i64 x.1).wf = true ∧ (Lit.int .i64 x.2.1).wf = true ∧ (Lit.int .i64 x.2.2).wf = true) ∧ CellsAt w a (entsC l) := by
  refine open_elems (α := En) entC 3 (fun x => (Lit.int .i64 x.1).wf = true ∧ (Lit.int .i64 x.2.1).wf = true ∧ (Lit.int .i64 x.2.2).wf = true) (by decide) lenEntry Try.ulLaEntry (by kernel_rfl) (fun fuel cs x hcl hx => ?_) h
  match cs, hcl with
  | [c0, c1, c2], hcl =>
    obtain ⟨v0, y0, n0, hv0, ht0⟩ := open_fields (P := Try.prog) Try.underlying70 (by kernel_rfl) hcl hx 0 _ rfl
    obtain ⟨s0, hs0, _, hw0⟩ := DataW.trod_int (k := .i64) (by kernel_rfl) ht0
    obtain ⟨v1, y1, n1, hv1, ht1⟩ := open_fields (P := Try.prog) Try.underlying70 (by kernel_rfl) hcl hx 1 _ rfl
    obtain ⟨s1, hs1, _, hw1⟩ := DataW.trod_int (k := .i64) (by kernel_rfl) ht1
    obtain ⟨v2, y2, n2, hv2, ht2⟩ := open_fields (P := Try.prog) Try.underlying70 (by kernel_rfl) hcl hx 2 _ rfl
    obtain ⟨s2, hs2, _, hw2⟩ := DataW.trod_int (k := .i64) (by kernel_rfl) ht2
    simp only [List.cons.injEq, and_true] at hs0 hs1 hs2
    simp at hv0 hv1 hv2
    subst hs0 hs1 hs2
    exact ⟨⟨s0, s1, s2⟩, by simp [entC, hv0, hv1, hv2], ⟨hw0, hw1, hw2⟩⟩

theorem markEntryS_z (B : Nat) (a : Option Addr) (n c : Nat) (l : List (En)) (z : Int) (m : Nat) (w : World) (hown : w.ownsRow B 68 3 (.slice a n c) n (entsC l)) (hz : z = m) (hn : n < 68719476736) (h0 : 0 < m) (hm : m < 274877906944) :
    Calls Try.prog 16 #[.slice a n c, .int .i64 z] w fun e w' => e = .returned (.int .i64 ((m + n * 3 : Nat) : Int)) ∧ w'.ownsRow B 68 3 (.slice a n c) n (entsC (marksEntry m n)) ∧ w.grownBy w' (Value.ownBlock (.slice a n c)) := by
  subst hz; exact markEntryS_any B a n c l m w hown hn h0 hm

theorem heldEntryS_z (a : Option Addr) (n c : Nat) (z : Int) (m : Nat) (w : World) (hat : CellsAt w a (entsC (marksEntry m n))) (hz : z = m) (hn : n < 68719476736) (h0 : 0 < m) (hm : m < 274877906944) :
    Calls Try.prog 17 #[.slice a n c, .int .i64 z] w fun e w' => e = .returned (.int .i64 ((m + n * 3 : Nat) : Int)) ∧ Below w.heap.size w w' := by
  subst hz; exact heldEntryS_any a n c m w hat hn h0 hm

end Go.Proofs.Ytbnagmjhdnnheaa

namespace Go.Proofs.Ytbnagmjhdnnheaa
open Go.RowKit Go.ChangeShapes

theorem Try.ulSlPiece : Try.prog.underlying 46 = some (.slice 88) := by kernel_rfl
theorem Try.infoSlPiece : (Try.prog.info? 88).map (fun i => (i.zero, i.size, i.bytes)) = some (some (.agg #[.int .i64 0, .int .i64 0, .int .i64 0]), 3, 24) := by kernel_rfl
theorem lenPiece (x : En) : (entC x).length = 3 := rfl

/-- The cells of a slice of such records. -/
theorem CellsAt.atPiece {w : World} {a : Option Addr} {l : List (En)} (h : CellsAt w a (entsC l)) (hne : l ≠ []) : ∃ b o, a = some ⟨b, o, none⟩ ∧ b < w.heap.size ∧
    ∀ k (hk : k < l.length), w.cell? ⟨b, o + k * 3, none⟩ = some (.int .i64 l[k].1) ∧ w.cell? ⟨b, o + k * 3 + 1, none⟩ = some (.int .i64 l[k].2.1) ∧ w.cell? ⟨b, o + k * 3 + 2, none⟩ = some (.int .i64 l[k].2.2) := by
  have hne2 : entsC l ≠ [] := by
    cases l with
    | nil => exact absurd rfl hne
    | cons x l => simp [entsC, entC]
  obtain ⟨b, o, ha, hb, hc⟩ := h.spot hne2
  refine ⟨b, o, ha, hb, fun k hk => ⟨?_, ?_, ?_⟩⟩
  · exact hc (k * 3) _ (by rw [entsC, show k * 3 = k * 3 + 0 from rfl, flat_get entC 3 lenPiece l k 0 hk (by decide)]; rfl)
  · rw [Nat.add_assoc]; exact hc (k * 3 + 1) _ (by rw [entsC, flat_get entC 3 lenPiece l k 1 hk (by decide)]; rfl)
  · rw [Nat.add_assoc]; exact hc (k * 3 + 2) _ (by rw [entsC, flat_get entC 3 lenPiece l k 2 hk (by decide)]; rfl)

theorem eqPiece_same (x0 : Int) (x1 : Int) (x2 : Int) (w : World) :
    Calls Try.prog 70 #[.agg #[.int .i64 x0, .int .i64 x1, .int .i64 x2], .agg #[.int .i64 x0, .int .i64 x1, .int .i64 x2]] w fun e w' => e = .returned (.bool true) ∧ Below w.heap.size w w' := by
  go_enter Try.func70, Try.ntmps70
  go_wp2
  go_ret
  exact ⟨rfl, below_alloc2 _ _ _⟩

set_option maxHeartbeats 4000000 in
theorem eqPieceS_same (a a' : Option Addr) (n c d : Nat) (l : List (En)) (w : World) (hn : n = l.length) (hl : n < 4398046511104) (h1 : CellsAt w a (entsC l)) (h2 : CellsAt w a' (entsC l)) :
    Calls Try.prog 34 #[.slice a n c, .slice a' n d] w fun e w' => e = .returned (.bool true) ∧ Below w.heap.size w w' := by
  have HN := Lib.hid hn
  clear hn
  go_enter Try.func34, Try.ntmps34
  go_wp2
  go_loopw [5] (fun i wr => ∃ k : Nat, k ≤ n ∧ i = .int .i64 k ∧ Below w.heap.size w wr) (fun i _ => n - (intOf i).toNat)
  case atStart => exact ⟨0, Nat.zero_le _, rfl, Below.refl _ _⟩
  case round =>
    obtain ⟨k, hk, rfl, hb⟩ := hrel
    by_cases hlt : k < n
    · have hkl : k < l.length := by rw [← HN.out]; exact hlt
      have hne : l ≠ [] := fun e => by rw [e] at hkl; simp at hkl
      obtain ⟨b1, o1, rfl, hb1, hc1⟩ := h1.atPiece hne
      obtain ⟨b2, o2, rfl, hb2, hc2⟩ := h2.atPiece hne
      obtain ⟨x0, hx0⟩ : ∃ x, l[k].1 = x := ⟨_, rfl⟩
      obtain ⟨x1, hx1⟩ : ∃ x, l[k].2.1 = x := ⟨_, rfl⟩
      obtain ⟨x2, hx2⟩ : ∃ x, l[k].2.2 = x := ⟨_, rfl⟩
      have HC := Lib.hid (show ∀ w', Below w.heap.size w w' → (w'.cell? ⟨b1, o1 + k * 3, none⟩ = some (.int .i64 x0) ∧ w'.cell? ⟨b1, o1 + k * 3 + 1, none⟩ = some (.int .i64 x1) ∧ w'.cell? ⟨b1, o1 + k * 3 + 2, none⟩ = some (.int .i64 x2)) ∧ (w'.cell? ⟨b2, o2 + k * 3, none⟩ = some (.int .i64 x0) ∧ w'.cell? ⟨b2, o2 + k * 3 + 1, none⟩ = some (.int .i64 x1) ∧ w'.cell? ⟨b2, o2 + k * 3 + 2, none⟩ = some (.int .i64 x2)) from fun w' hb => ⟨by
        have h := hc1 k hkl
        rw [hx0, hx1, hx2] at h
        exact ⟨(hb.cell (p := ⟨b1, o1 + k * 3, none⟩) hb1).trans h.1, (hb.cell (p := ⟨b1, o1 + k * 3 + 1, none⟩) hb1).trans h.2.1, (hb.cell (p := ⟨b1, o1 + k * 3 + 2, none⟩) hb1).trans h.2.2⟩, by
        have h := hc2 k hkl
        rw [hx0, hx1, hx2] at h
        exact ⟨(hb.cell (p := ⟨b2, o2 + k * 3, none⟩) hb2).trans h.1, (hb.cell (p := ⟨b2, o2 + k * 3 + 1, none⟩) hb2).trans h.2.1, (hb.cell (p := ⟨b2, o2 + k * 3 + 2, none⟩) hb2).trans h.2.2⟩⟩)
      clear hx0 hx1 hx2 hc1 hc2 hne
      go_wp2
      go_region_held3 (fun w' => (w'.cell? ⟨b1, o1 + k * 3, none⟩ = some (.int .i64 x0) ∧ w'.cell? ⟨b1, o1 + k * 3 + 1, none⟩ = some (.int .i64 x1) ∧ w'.cell? ⟨b1, o1 + k * 3 + 2, none⟩ = some (.int .i64 x2)) ∧ (w'.cell? ⟨b2, o2 + k * 3, none⟩ = some (.int .i64 x0) ∧ w'.cell? ⟨b2, o2 + k * 3 + 1, none⟩ = some (.int .i64 x1) ∧ w'.cell? ⟨b2, o2 + k * 3 + 2, none⟩ = some (.int .i64 x2))) (first | exact HC.out _ hb | exact HC.out _ hb.drew | exact HC.out _ (hb.drew.trans (hbm.mono hb.size)))
        (first | (go_at_call 70; refine (eqPiece_same _ _ _ _).mono ?_; rintro e w1 ⟨rfl, hbm⟩))
      go_wp2
      go_roundw
      case rel => exact ⟨k + 1, by omega, by go_num, hb.drew.trans (hbm.mono hb.size)⟩
      case measure => simp [intOf]; omega
    · go_wp2
      go_ret
      exact ⟨rfl, hb⟩

/-- Records that bear ascending marks. -/
def markPiece (m i : Nat) : En := ⟨((m + i * 3 : Nat) : Int), ((m + i * 3 + 1 : Nat) : Int), ((m + i * 3 + 2 : Nat) : Int)⟩
def marksPiece (m n : Nat) : List (En) := (List.range n).map (markPiece m)
theorem marksPiece_len (m n : Nat) : (marksPiece m n).length = n := by simp [marksPiece]
theorem marksPiece_get (m n k : Nat) (h : k < n) : (marksPiece m n)[k]'(by rw [marksPiece_len]; exact h) = markPiece m k := by simp [marksPiece]
theorem marksPiece_next (m k : Nat) : entsC (marksPiece m (k + 1)) = entsC (marksPiece m k) ++ entC (markPiece m k) := by
  rw [marksPiece, List.range_succ, List.map_append, entsC, List.flatMap_append, marksPiece, entsC]; simp
theorem marksPiece_cells (m n : Nat) : (entsC (marksPiece m n)).length = n * 3 := by rw [entsC, flat_len entC 3 lenPiece, marksPiece_len]

set_option maxHeartbeats 8000000 in
theorem markPieceS_any (B : Nat) (a : Option Addr) (n c : Nat) (l : List (En)) (m : Nat) (w : World) (hown : w.ownsRow B 88 3 (.slice a n c) n (entsC l)) (hn : n < 2199023255552) (h0 : 0 < m) (hm : m < 4398046511104) :
    Calls Try.prog 35 #[.slice a n c, .int .i64 m] w fun e w' => e = .returned (.int .i64 ((m + n * 3 : Nat) : Int)) ∧ w'.ownsRow B 88 3 (.slice a n c) n (entsC (marksPiece m n)) ∧ w.grownBy w' (Value.ownBlock (.slice a n c)) := by
  have hlen : (entsC l).length = n * 3 := hown.1
  have HL := Lib.hid hlen
  clear hlen
  go_enter Try.func35, Try.ntmps35
  go_wp2
  go_loopw [1, 5] (fun q i wr => ∃ k : Nat, k ≤ n ∧ i = .int .i64 k ∧ (∃ z : Nat, q = .int .i64 z ∧ z = m + k * 3) ∧ wr.ownsRow B 88 3 (.slice a n c) n (entsC (marksPiece m k) ++ (entsC l).drop (k * 3)) ∧ w.grownBy wr (Value.ownBlock (.slice a n c))) (fun _ i _ => n - (intOf i).toNat)
  case atStart => exact ⟨0, Nat.zero_le _, rfl, ⟨m, rfl, by omega⟩, by simpa [marksPiece, entsC] using hown, World.grownBy.refl _ _⟩
  case round =>
    clear hown
    obtain ⟨k, hk, rfl, ⟨z, rfl, hz⟩, hown0, hg0⟩ := hrel
    by_cases hlt : k < n
    · obtain ⟨g, rfl⟩ : ∃ g, a = some ⟨g, 0, none⟩ := by
        rcases hown0.2 with ⟨hv, h0⟩ | ⟨g, cap', cur, hv, _⟩
        · omega
        · exact ⟨g, (by simpa using hv : a = some ⟨g, 0, none⟩ ∧ c = cap').1⟩
      have HZ := Lib.hid hz
      have hz9 : z + 3 < 70368744177664 := by omega
      have hz0 : 0 < z := by omega
      clear hz
      have hw0 := hown0
      have hg0' := hg0
      have hf0 := hw0.frozenAt (k * 3)
      obtain ⟨y0, hy0⟩ := own_cell hw0 (k * 3) (by omega)
      obtain ⟨hown1, hg1s'⟩ := hw0.stored (k * 3) (Value.int .i64 (z : Int))
      rw [set_next (A := entsC (marksPiece m k)) (by simp [marksPiece_cells] <;> omega) (by rw [HL.out]; omega)] at hown1
      have hg1 := grownBy_trans hg0' hg1s'

      have hw1 := hown1
      have hg1' := hg1
      have hf1 := hw1.frozenAt (k * 3 + 1)
      obtain ⟨y1, hy1⟩ := own_cell hw1 (k * 3 + 1) (by omega)
      obtain ⟨hown2, hg2s'⟩ := hw1.stored (k * 3 + 1) (Value.int .i64 ((z : Int) + 1))
      rw [set_next (A := entsC (marksPiece m k) ++ [Value.int .i64 (z : Int)]) (by simp [marksPiece_cells] <;> omega) (by rw [HL.out]; omega)] at hown2
      have hg2 := grownBy_trans hg1' hg2s'

      have hw2 := hown2
      have hg2' := hg2
      have hf2 := hw2.frozenAt (k * 3 + 2)
      obtain ⟨y2, hy2⟩ := own_cell hw2 (k * 3 + 2) (by omega)
      obtain ⟨hown3, hg3s'⟩ := hw2.stored (k * 3 + 2) (Value.int .i64 ((z : Int) + 2))
      rw [set_next (A := entsC (marksPiece m k) ++ [Value.int .i64 (z : Int)] ++ [Value.int .i64 ((z : Int) + 1)]) (by simp [marksPiece_cells] <;> omega) (by rw [HL.out]; omega)] at hown3
      have hg3 := grownBy_trans hg2' hg3s'

      have hE : entsC (marksPiece m k) ++ [Value.int .i64 (z : Int)] ++ [Value.int .i64 ((z : Int) + 1)] ++ [Value.int .i64 ((z : Int) + 2)] = entsC (marksPiece m (k + 1)) := by
        have hzz := HZ.out
        rw [marksPiece_next, markPiece]
        simp only [List.append_assoc, entC, List.cons_append, List.nil_append, ← hzz]
        rfl
      rw [hE] at hown3
      clear hE hown0 hg0 hown1 hg1 hown2 hg2
      go_wp2
      go_roundw
      case rel => exact ⟨k + 1, by omega, by go_num, ⟨z + 3, by go_num, by have := HZ.out; omega⟩, by rw [show (k + 1) * 3 = k * 3 + 3 by omega]; exact hown3, hg3⟩
      case measure => simp [intOf]; omega

    · obtain rfl : k = n := by omega
      rw [show entsC (marksPiece m k) ++ (entsC l).drop (k * 3) = entsC (marksPiece m k) from by rw [List.drop_of_length_le (by rw [HL.out]; exact Nat.le_refl _), List.append_nil]] at hown0
      have HZ := Lib.hid hz
      clear hz
      go_wp2
      go_ret
      exact ⟨ret_int (by rw [HZ.out]), hown0, hg0⟩

set_option maxHeartbeats 4000000 in
theorem heldPieceS_any (a : Option Addr) (n c m : Nat) (w : World) (hat : CellsAt w a (entsC (marksPiece m n))) (hn : n < 2199023255552) (h0 : 0 < m) (hm : m < 4398046511104) :
    Calls Try.prog 36 #[.slice a n c, .int .i64 m] w fun e w' => e = .returned (.int .i64 ((m + n * 3 : Nat) : Int)) ∧ Below w.heap.size w w' := by
  go_enter Try.func36, Try.ntmps36
  go_wp2
  go_loopw [1, 5] (fun q i wr => ∃ k : Nat, k ≤ n ∧ i = .int .i64 k ∧ (∃ z : Nat, q = .int .i64 z ∧ z = m + k * 3) ∧ Below w.heap.size w wr) (fun _ i _ => n - (intOf i).toNat)
  case atStart => exact ⟨0, Nat.zero_le _, rfl, ⟨m, rfl, by omega⟩, Below.refl _ _⟩
  case round =>
    obtain ⟨k, hk, rfl, ⟨z, rfl, hz⟩, hb0⟩ := hrel
    by_cases hlt : k < n
    · have hlen := marksPiece_len m n
      have hne : marksPiece m n ≠ [] := fun e => by rw [e] at hlen; simp at hlen; omega
      obtain ⟨b, o, rfl, hbl, hc⟩ := hat.atPiece hne
      have hz9 : z + 3 < 70368744177664 := by omega
      have hz0 : 0 < z := by omega
      have HC := Lib.hid (show ∀ w', Below w.heap.size w w' → (w'.cell? ⟨b, o + k * 3, none⟩ = some (Value.int .i64 (z : Int)) ∧ w'.cell? ⟨b, o + k * 3 + 1, none⟩ = some (Value.int .i64 ((z : Int) + 1)) ∧ w'.cell? ⟨b, o + k * 3 + 2, none⟩ = some (Value.int .i64 ((z : Int) + 2))) from fun w' hb => by
        have h := hc k (by omega)
        rw [marksPiece_get m n k hlt, markPiece, ← hz] at h
        push_cast at h
        exact ⟨(hb.cell (p := ⟨b, o + k * 3, none⟩) hbl).trans h.1, (hb.cell (p := ⟨b, o + k * 3 + 1, none⟩) hbl).trans h.2.1, (hb.cell (p := ⟨b, o + k * 3 + 2, none⟩) hbl).trans h.2.2⟩)
      have HZ := Lib.hid hz
      clear hz hc hne hlen
      obtain ⟨g0_0, g0_1, g0_2⟩ := HC.out _ hb0
      go_wp2
      go_roundw
      case rel => exact ⟨k + 1, by omega, by go_num, ⟨z + 3, by go_num, by have := HZ.out; omega⟩, hb0⟩
      case measure => simp [intOf]; omega
    · obtain rfl : k = n := by omega
      have HZ := Lib.hid hz
      clear hz
      go_wp2
      go_ret
      exact ⟨ret_int (by rw [HZ.out]), hb0⟩





theorem markPieceS_z (B : Nat) (a : Option Addr) (n c : Nat) (l : List (En)) (z : Int) (m : Nat) (w : World) (hown : w.ownsRow B 88 3 (.slice a n c) n (entsC l)) (hz : z = m) (hn : n < 2199023255552) (h0 : 0 < m) (hm : m < 4398046511104) :
    Calls Try.prog 35 #[.slice a n c, .int .i64 z] w fun e w' => e = .returned (.int .i64 ((m + n * 3 : Nat) : Int)) ∧ w'.ownsRow B 88 3 (.slice a n c) n (entsC (marksPiece m n)) ∧ w.grownBy w' (Value.ownBlock (.slice a n c)) := by
  subst hz; exact markPieceS_any B a n c l m w hown hn h0 hm

theorem heldPieceS_z (a : Option Addr) (n c : Nat) (z : Int) (m : Nat) (w : World) (hat : CellsAt w a (entsC (marksPiece m n))) (hz : z = m) (hn : n < 2199023255552) (h0 : 0 < m) (hm : m < 4398046511104) :
    Calls Try.prog 36 #[.slice a n c, .int .i64 z] w fun e w' => e = .returned (.int .i64 ((m + n * 3 : Nat) : Int)) ∧ Below w.heap.size w w' := by
  subst hz; exact heldPieceS_any a n c m w hat hn h0 hm

end Go.Proofs.Ytbnagmjhdnnheaa

namespace Go.Proofs.Ytbnagmjhdnnheaa
open Go.RowKit Go.ChangeShapes

theorem Try.ulSlFound : Try.prog.underlying 59 = some (.slice 101) := by kernel_rfl
theorem Try.infoSlFound : (Try.prog.info? 101).map (fun i => (i.zero, i.size, i.bytes)) = some (some (.agg #[.int .i64 0, .int .i64 0, .int .i64 0, .int .i64 0]), 4, 32) := by kernel_rfl
theorem lenFound (x : Fd) : (fdC x).length = 4 := rfl

/-- The cells of a slice of such records. -/
theorem CellsAt.atFound {w : World} {a : Option Addr} {l : List (Fd)} (h : CellsAt w a (fdsC l)) (hne : l ≠ []) : ∃ b o, a = some ⟨b, o, none⟩ ∧ b < w.heap.size ∧
    ∀ k (hk : k < l.length), w.cell? ⟨b, o + k * 4, none⟩ = some (.int .i64 l[k].1) ∧ w.cell? ⟨b, o + k * 4 + 1, none⟩ = some (.int .i64 l[k].2.1) ∧ w.cell? ⟨b, o + k * 4 + 2, none⟩ = some (.int .i64 l[k].2.2.1) ∧ w.cell? ⟨b, o + k * 4 + 3, none⟩ = some (.int .i64 l[k].2.2.2) := by
  have hne2 : fdsC l ≠ [] := by
    cases l with
    | nil => exact absurd rfl hne
    | cons x l => simp [fdsC, fdC]
  obtain ⟨b, o, ha, hb, hc⟩ := h.spot hne2
  refine ⟨b, o, ha, hb, fun k hk => ⟨?_, ?_, ?_, ?_⟩⟩
  · exact hc (k * 4) _ (by rw [fdsC, show k * 4 = k * 4 + 0 from rfl, flat_get fdC 4 lenFound l k 0 hk (by decide)]; rfl)
  · rw [Nat.add_assoc]; exact hc (k * 4 + 1) _ (by rw [fdsC, flat_get fdC 4 lenFound l k 1 hk (by decide)]; rfl)
  · rw [Nat.add_assoc]; exact hc (k * 4 + 2) _ (by rw [fdsC, flat_get fdC 4 lenFound l k 2 hk (by decide)]; rfl)
  · rw [Nat.add_assoc]; exact hc (k * 4 + 3) _ (by rw [fdsC, flat_get fdC 4 lenFound l k 3 hk (by decide)]; rfl)

theorem eqFound_same (x0 : Int) (x1 : Int) (x2 : Int) (x3 : Int) (w : World) :
    Calls Try.prog 80 #[.agg #[.int .i64 x0, .int .i64 x1, .int .i64 x2, .int .i64 x3], .agg #[.int .i64 x0, .int .i64 x1, .int .i64 x2, .int .i64 x3]] w fun e w' => e = .returned (.bool true) ∧ Below w.heap.size w w' := by
  go_enter Try.func80, Try.ntmps80
  go_wp2
  go_ret
  exact ⟨rfl, by repeat (first | exact Below.refl _ _ | refine Below.alloc ?_ (by simp <;> omega) _)⟩

set_option maxHeartbeats 4000000 in
theorem eqFoundS_same (a a' : Option Addr) (n c d : Nat) (l : List (Fd)) (w : World) (hn : n = l.length) (hl : n < 4398046511104) (h1 : CellsAt w a (fdsC l)) (h2 : CellsAt w a' (fdsC l)) :
    Calls Try.prog 47 #[.slice a n c, .slice a' n d] w fun e w' => e = .returned (.bool true) ∧ Below w.heap.size w w' := by
  have HN := Lib.hid hn
  clear hn
  go_enter Try.func47, Try.ntmps47
  go_wp2
  go_loopw [5] (fun i wr => ∃ k : Nat, k ≤ n ∧ i = .int .i64 k ∧ Below w.heap.size w wr) (fun i _ => n - (intOf i).toNat)
  case atStart => exact ⟨0, Nat.zero_le _, rfl, Below.refl _ _⟩
  case round =>
    obtain ⟨k, hk, rfl, hb⟩ := hrel
    by_cases hlt : k < n
    · have hkl : k < l.length := by rw [← HN.out]; exact hlt
      have hne : l ≠ [] := fun e => by rw [e] at hkl; simp at hkl
      obtain ⟨b1, o1, rfl, hb1, hc1⟩ := h1.atFound hne
      obtain ⟨b2, o2, rfl, hb2, hc2⟩ := h2.atFound hne
      obtain ⟨x0, hx0⟩ : ∃ x, l[k].1 = x := ⟨_, rfl⟩
      obtain ⟨x1, hx1⟩ : ∃ x, l[k].2.1 = x := ⟨_, rfl⟩
      obtain ⟨x2, hx2⟩ : ∃ x, l[k].2.2.1 = x := ⟨_, rfl⟩
      obtain ⟨x3, hx3⟩ : ∃ x, l[k].2.2.2 = x := ⟨_, rfl⟩
      have HC := Lib.hid (show ∀ w', Below w.heap.size w w' → (w'.cell? ⟨b1, o1 + k * 4, none⟩ = some (.int .i64 x0) ∧ w'.cell? ⟨b1, o1 + k * 4 + 1, none⟩ = some (.int .i64 x1) ∧ w'.cell? ⟨b1, o1 + k * 4 + 2, none⟩ = some (.int .i64 x2) ∧ w'.cell? ⟨b1, o1 + k * 4 + 3, none⟩ = some (.int .i64 x3)) ∧ (w'.cell? ⟨b2, o2 + k * 4, none⟩ = some (.int .i64 x0) ∧ w'.cell? ⟨b2, o2 + k * 4 + 1, none⟩ = some (.int .i64 x1) ∧ w'.cell? ⟨b2, o2 + k * 4 + 2, none⟩ = some (.int .i64 x2) ∧ w'.cell? ⟨b2, o2 + k * 4 + 3, none⟩ = some (.int .i64 x3)) from fun w' hb => ⟨by
        have h := hc1 k hkl
        rw [hx0, hx1, hx2, hx3] at h
        exact ⟨(hb.cell (p := ⟨b1, o1 + k * 4, none⟩) hb1).trans h.1, (hb.cell (p := ⟨b1, o1 + k * 4 + 1, none⟩) hb1).trans h.2.1, (hb.cell (p := ⟨b1, o1 + k * 4 + 2, none⟩) hb1).trans h.2.2.1, (hb.cell (p := ⟨b1, o1 + k * 4 + 3, none⟩) hb1).trans h.2.2.2⟩, by
        have h := hc2 k hkl
        rw [hx0, hx1, hx2, hx3] at h
        exact ⟨(hb.cell (p := ⟨b2, o2 + k * 4, none⟩) hb2).trans h.1, (hb.cell (p := ⟨b2, o2 + k * 4 + 1, none⟩) hb2).trans h.2.1, (hb.cell (p := ⟨b2, o2 + k * 4 + 2, none⟩) hb2).trans h.2.2.1, (hb.cell (p := ⟨b2, o2 + k * 4 + 3, none⟩) hb2).trans h.2.2.2⟩⟩)
      clear hx0 hx1 hx2 hx3 hc1 hc2 hne
      go_wp2
      go_region_held3 (fun w' => (w'.cell? ⟨b1, o1 + k * 4, none⟩ = some (.int .i64 x0) ∧ w'.cell? ⟨b1, o1 + k * 4 + 1, none⟩ = some (.int .i64 x1) ∧ w'.cell? ⟨b1, o1 + k * 4 + 2, none⟩ = some (.int .i64 x2) ∧ w'.cell? ⟨b1, o1 + k * 4 + 3, none⟩ = some (.int .i64 x3)) ∧ (w'.cell? ⟨b2, o2 + k * 4, none⟩ = some (.int .i64 x0) ∧ w'.cell? ⟨b2, o2 + k * 4 + 1, none⟩ = some (.int .i64 x1) ∧ w'.cell? ⟨b2, o2 + k * 4 + 2, none⟩ = some (.int .i64 x2) ∧ w'.cell? ⟨b2, o2 + k * 4 + 3, none⟩ = some (.int .i64 x3))) (first | exact HC.out _ hb | exact HC.out _ hb.drew | exact HC.out _ (hb.drew.trans (hbm.mono hb.size)))
        (first | (go_at_call 80; refine (eqFound_same _ _ _ _ _).mono ?_; rintro e w1 ⟨rfl, hbm⟩))
      go_wp2
      go_roundw
      case rel => exact ⟨k + 1, by omega, by go_num, hb.drew.trans (hbm.mono hb.size)⟩
      case measure => simp [intOf]; omega
    · go_wp2
      go_ret
      exact ⟨rfl, hb⟩

/-- Records that bear ascending marks. -/
def markFound (m i : Nat) : Fd := ⟨((m + i * 4 : Nat) : Int), ((m + i * 4 + 1 : Nat) : Int), ((m + i * 4 + 2 : Nat) : Int), ((m + i * 4 + 3 : Nat) : Int)⟩
def marksFound (m n : Nat) : List (Fd) := (List.range n).map (markFound m)
theorem marksFound_len (m n : Nat) : (marksFound m n).length = n := by simp [marksFound]
theorem marksFound_get (m n k : Nat) (h : k < n) : (marksFound m n)[k]'(by rw [marksFound_len]; exact h) = markFound m k := by simp [marksFound]
theorem marksFound_next (m k : Nat) : fdsC (marksFound m (k + 1)) = fdsC (marksFound m k) ++ fdC (markFound m k) := by
  rw [marksFound, List.range_succ, List.map_append, fdsC, List.flatMap_append, marksFound, fdsC]; simp
theorem marksFound_cells (m n : Nat) : (fdsC (marksFound m n)).length = n * 4 := by rw [fdsC, flat_len fdC 4 lenFound, marksFound_len]

set_option maxHeartbeats 8000000 in
theorem markFoundS_any (B : Nat) (a : Option Addr) (n c : Nat) (l : List (Fd)) (m : Nat) (w : World) (hown : w.ownsRow B 101 4 (.slice a n c) n (fdsC l)) (hn : n < 2199023255552) (h0 : 0 < m) (hm : m < 4398046511104) :
    Calls Try.prog 48 #[.slice a n c, .int .i64 m] w fun e w' => e = .returned (.int .i64 ((m + n * 4 : Nat) : Int)) ∧ w'.ownsRow B 101 4 (.slice a n c) n (fdsC (marksFound m n)) ∧ w.grownBy w' (Value.ownBlock (.slice a n c)) := by
  have hlen : (fdsC l).length = n * 4 := hown.1
  have HL := Lib.hid hlen
  clear hlen
  go_enter Try.func48, Try.ntmps48
  go_wp2
  go_loopw [1, 5] (fun q i wr => ∃ k : Nat, k ≤ n ∧ i = .int .i64 k ∧ (∃ z : Nat, q = .int .i64 z ∧ z = m + k * 4) ∧ wr.ownsRow B 101 4 (.slice a n c) n (fdsC (marksFound m k) ++ (fdsC l).drop (k * 4)) ∧ w.grownBy wr (Value.ownBlock (.slice a n c))) (fun _ i _ => n - (intOf i).toNat)
  case atStart => exact ⟨0, Nat.zero_le _, rfl, ⟨m, rfl, by omega⟩, by simpa [marksFound, fdsC] using hown, World.grownBy.refl _ _⟩
  case round =>
    clear hown
    obtain ⟨k, hk, rfl, ⟨z, rfl, hz⟩, hown0, hg0⟩ := hrel
    by_cases hlt : k < n
    · obtain ⟨g, rfl⟩ : ∃ g, a = some ⟨g, 0, none⟩ := by
        rcases hown0.2 with ⟨hv, h0⟩ | ⟨g, cap', cur, hv, _⟩
        · omega
        · exact ⟨g, (by simpa using hv : a = some ⟨g, 0, none⟩ ∧ c = cap').1⟩
      have HZ := Lib.hid hz
      have hz9 : z + 4 < 70368744177664 := by omega
      have hz0 : 0 < z := by omega
      clear hz
      have hw0 := hown0
      have hg0' := hg0
      have hf0 := hw0.frozenAt (k * 4)
      obtain ⟨y0, hy0⟩ := own_cell hw0 (k * 4) (by omega)
      obtain ⟨hown1, hg1s'⟩ := hw0.stored (k * 4) (Value.int .i64 (z : Int))
      rw [set_next (A := fdsC (marksFound m k)) (by simp [marksFound_cells] <;> omega) (by rw [HL.out]; omega)] at hown1
      have hg1 := grownBy_trans hg0' hg1s'

      have hw1 := hown1
      have hg1' := hg1
      have hf1 := hw1.frozenAt (k * 4 + 1)
      obtain ⟨y1, hy1⟩ := own_cell hw1 (k * 4 + 1) (by omega)
      obtain ⟨hown2, hg2s'⟩ := hw1.stored (k * 4 + 1) (Value.int .i64 ((z : Int) + 1))
      rw [set_next (A := fdsC (marksFound m k) ++ [Value.int .i64 (z : Int)]) (by simp [marksFound_cells] <;> omega) (by rw [HL.out]; omega)] at hown2
      have hg2 := grownBy_trans hg1' hg2s'

      have hw2 := hown2
      have hg2' := hg2
      have hf2 := hw2.frozenAt (k * 4 + 2)
      obtain ⟨y2, hy2⟩ := own_cell hw2 (k * 4 + 2) (by omega)
      obtain ⟨hown3, hg3s'⟩ := hw2.stored (k * 4 + 2) (Value.int .i64 ((z : Int) + 1 + 1))
      rw [set_next (A := fdsC (marksFound m k) ++ [Value.int .i64 (z : Int)] ++ [Value.int .i64 ((z : Int) + 1)]) (by simp [marksFound_cells] <;> omega) (by rw [HL.out]; omega)] at hown3
      have hg3 := grownBy_trans hg2' hg3s'

      have hw3 := hown3
      have hg3' := hg3
      have hf3 := hw3.frozenAt (k * 4 + 3)
      obtain ⟨y3, hy3⟩ := own_cell hw3 (k * 4 + 3) (by omega)
      obtain ⟨hown4, hg4s'⟩ := hw3.stored (k * 4 + 3) (Value.int .i64 ((z : Int) + 1 + 1 + 1))
      rw [set_next (A := fdsC (marksFound m k) ++ [Value.int .i64 (z : Int)] ++ [Value.int .i64 ((z : Int) + 1)] ++ [Value.int .i64 ((z : Int) + 1 + 1)]) (by simp [marksFound_cells] <;> omega) (by rw [HL.out]; omega)] at hown4
      have hg4 := grownBy_trans hg3' hg4s'

      have hE : fdsC (marksFound m k) ++ [Value.int .i64 (z : Int)] ++ [Value.int .i64 ((z : Int) + 1)] ++ [Value.int .i64 ((z : Int) + 1 + 1)] ++ [Value.int .i64 ((z : Int) + 1 + 1 + 1)] = fdsC (marksFound m (k + 1)) := by
        have hzz := HZ.out
        rw [marksFound_next, markFound]
        simp only [List.append_assoc, fdC, List.cons_append, List.nil_append, ← hzz]
        rfl
      rw [hE] at hown4
      have hf3b := hf3
      have hy3b := hy3
      rw [show k * 4 + 3 = k * 4 + 1 + 2 from rfl] at hf3b hy3b
      clear hE hown0 hg0 hown1 hg1 hown2 hg2 hown3 hg3
      go_wp2
      go_roundw
      case rel => exact ⟨k + 1, by omega, by go_num, ⟨z + 4, by go_num, by have := HZ.out; omega⟩, by rw [show (k + 1) * 4 = k * 4 + 4 by omega]; exact hown4, hg4⟩
      case measure => simp [intOf]; omega

    · obtain rfl : k = n := by omega
      rw [show fdsC (marksFound m k) ++ (fdsC l).drop (k * 4) = fdsC (marksFound m k) from by rw [List.drop_of_length_le (by rw [HL.out]; exact Nat.le_refl _), List.append_nil]] at hown0
      have HZ := Lib.hid hz
      clear hz
      go_wp2
      go_ret
      exact ⟨ret_int (by rw [HZ.out]), hown0, hg0⟩

set_option maxHeartbeats 4000000 in
theorem heldFoundS_any (a : Option Addr) (n c m : Nat) (w : World) (hat : CellsAt w a (fdsC (marksFound m n))) (hn : n < 2199023255552) (h0 : 0 < m) (hm : m < 4398046511104) :
    Calls Try.prog 49 #[.slice a n c, .int .i64 m] w fun e w' => e = .returned (.int .i64 ((m + n * 4 : Nat) : Int)) ∧ Below w.heap.size w w' := by
  go_enter Try.func49, Try.ntmps49
  go_wp2
  go_loopw [1, 5] (fun q i wr => ∃ k : Nat, k ≤ n ∧ i = .int .i64 k ∧ (∃ z : Nat, q = .int .i64 z ∧ z = m + k * 4) ∧ Below w.heap.size w wr) (fun _ i _ => n - (intOf i).toNat)
  case atStart => exact ⟨0, Nat.zero_le _, rfl, ⟨m, rfl, by omega⟩, Below.refl _ _⟩
  case round =>
    obtain ⟨k, hk, rfl, ⟨z, rfl, hz⟩, hb0⟩ := hrel
    by_cases hlt : k < n
    · have hlen := marksFound_len m n
      have hne : marksFound m n ≠ [] := fun e => by rw [e] at hlen; simp at hlen; omega
      obtain ⟨b, o, rfl, hbl, hc⟩ := hat.atFound hne
      have hz9 : z + 4 < 70368744177664 := by omega
      have hz0 : 0 < z := by omega
      have HC := Lib.hid (show ∀ w', Below w.heap.size w w' → (w'.cell? ⟨b, o + k * 4, none⟩ = some (Value.int .i64 (z : Int)) ∧ w'.cell? ⟨b, o + k * 4 + 1, none⟩ = some (Value.int .i64 ((z : Int) + 1)) ∧ w'.cell? ⟨b, o + k * 4 + 2, none⟩ = some (Value.int .i64 ((z : Int) + 2)) ∧ w'.cell? ⟨b, o + k * 4 + 3, none⟩ = some (Value.int .i64 ((z : Int) + 3))) from fun w' hb => by
        have h := hc k (by omega)
        rw [marksFound_get m n k hlt, markFound, ← hz] at h
        push_cast at h
        exact ⟨(hb.cell (p := ⟨b, o + k * 4, none⟩) hbl).trans h.1, (hb.cell (p := ⟨b, o + k * 4 + 1, none⟩) hbl).trans h.2.1, (hb.cell (p := ⟨b, o + k * 4 + 2, none⟩) hbl).trans h.2.2.1, (hb.cell (p := ⟨b, o + k * 4 + 3, none⟩) hbl).trans h.2.2.2⟩)
      have HZ := Lib.hid hz
      clear hz hc hne hlen
      obtain ⟨g0_0, g0_1, g0_2, g0_3⟩ := HC.out _ hb0
      go_wp2
      go_roundw
      case rel => exact ⟨k + 1, by omega, by go_num, ⟨z + 4, by go_num, by have := HZ.out; omega⟩, hb0⟩
      case measure => simp [intOf]; omega
    · obtain rfl : k = n := by omega
      have HZ := Lib.hid hz
      clear hz
      go_wp2
      go_ret
      exact ⟨ret_int (by rw [HZ.out]), hb0⟩





theorem markFoundS_z (B : Nat) (a : Option Addr) (n c : Nat) (l : List (Fd)) (z : Int) (m : Nat) (w : World) (hown : w.ownsRow B 101 4 (.slice a n c) n (fdsC l)) (hz : z = m) (hn : n < 2199023255552) (h0 : 0 < m) (hm : m < 4398046511104) :
    Calls Try.prog 48 #[.slice a n c, .int .i64 z] w fun e w' => e = .returned (.int .i64 ((m + n * 4 : Nat) : Int)) ∧ w'.ownsRow B 101 4 (.slice a n c) n (fdsC (marksFound m n)) ∧ w.grownBy w' (Value.ownBlock (.slice a n c)) := by
  subst hz; exact markFoundS_any B a n c l m w hown hn h0 hm

theorem heldFoundS_z (a : Option Addr) (n c : Nat) (z : Int) (m : Nat) (w : World) (hat : CellsAt w a (fdsC (marksFound m n))) (hz : z = m) (hn : n < 2199023255552) (h0 : 0 < m) (hm : m < 4398046511104) :
    Calls Try.prog 49 #[.slice a n c, .int .i64 z] w fun e w' => e = .returned (.int .i64 ((m + n * 4 : Nat) : Int)) ∧ Below w.heap.size w w' := by
  subst hz; exact heldFoundS_any a n c m w hat hn h0 hm

end Go.Proofs.Ytbnagmjhdnnheaa
