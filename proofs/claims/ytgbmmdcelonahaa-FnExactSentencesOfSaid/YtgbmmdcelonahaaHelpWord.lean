/-
  The contracts of the laws' own helpers over records of the type Word and slices of them (written by wip/tools/gen_help.py). Conditions: fewer than 2^38 elements; what is marked is the call's own.
-/
import Derived.Test.YtgbmmdcelonahaaHelpM
import Derived.Test.YtgbmmdcelonahaaWordsOf
import Derived.Test.YtgbmmdcelonahaaOpen
namespace Go.Proofs.Ytgbmmdcelonahaa
open Go.RowKit Go.ChangeShapes

theorem Try.ulSlWord : Try.prog.underlying 22 = some (.slice 53) := by kernel_rfl
theorem Try.infoSlWord : (Try.prog.info? 53).map (fun i => (i.zero, i.size, i.bytes)) = some (some (.agg #[.string ⟨#[]⟩, .int .i64 0, .int .i64 0]), 3, 32) := by kernel_rfl
theorem lenWord (x : WordM) : (wordC x).length = 3 := rfl

/-- The cells of a slice of such records. -/
theorem CellsAt.atWord {w : World} {a : Option Addr} {l : List (WordM)} (h : CellsAt w a (wordsC l)) (hne : l ≠ []) : ∃ b o, a = some ⟨b, o, none⟩ ∧ b < w.heap.size ∧
    ∀ k (hk : k < l.length), w.cell? ⟨b, o + k * 3, none⟩ = some (.string l[k].text) ∧ w.cell? ⟨b, o + k * 3 + 1, none⟩ = some (.int .i64 l[k].fr) ∧ w.cell? ⟨b, o + k * 3 + 2, none⟩ = some (.int .i64 l[k].to) := by
  have hne2 : wordsC l ≠ [] := by
    cases l with
    | nil => exact absurd rfl hne
    | cons x l => simp [wordsC, wordC]
  obtain ⟨b, o, ha, hb, hc⟩ := h.spot hne2
  refine ⟨b, o, ha, hb, fun k hk => ⟨?_, ?_, ?_⟩⟩
  · exact hc (k * 3) _ (by rw [wordsC, show k * 3 = k * 3 + 0 from rfl, flat_get wordC 3 lenWord l k 0 hk (by decide)]; rfl)
  · rw [Nat.add_assoc]; exact hc (k * 3 + 1) _ (by rw [wordsC, flat_get wordC 3 lenWord l k 1 hk (by decide)]; rfl)
  · rw [Nat.add_assoc]; exact hc (k * 3 + 2) _ (by rw [wordsC, flat_get wordC 3 lenWord l k 2 hk (by decide)]; rfl)

theorem eqWord_same (x0 : ByteArray) (x1 : Int) (x2 : Int) (w : World) :
    Calls Try.prog 42 #[.agg #[.string x0, .int .i64 x1, .int .i64 x2], .agg #[.string x0, .int .i64 x1, .int .i64 x2]] w fun e w' => e = .returned (.bool true) ∧ Below w.heap.size w w' := by
  go_enter Try.func42, Try.ntmps42
  go_wp2
  go_ret
  exact ⟨rfl, below_alloc2 _ _ _⟩

set_option maxHeartbeats 4000000 in
theorem eqWordS_same (a a' : Option Addr) (n c d : Nat) (l : List (WordM)) (w : World) (hn : n = l.length) (hl : n < 274877906944) (h1 : CellsAt w a (wordsC l)) (h2 : CellsAt w a' (wordsC l)) :
    Calls Try.prog 11 #[.slice a n c, .slice a' n d] w fun e w' => e = .returned (.bool true) ∧ Below w.heap.size w w' := by
  have HN := Lib.hid hn
  clear hn
  go_enter Try.func11, Try.ntmps11
  go_wp2
  go_loopw [5] (fun i wr => ∃ k : Nat, k ≤ n ∧ i = .int .i64 k ∧ Below w.heap.size w wr) (fun i _ => n - (intOf i).toNat)
  case atStart => exact ⟨0, Nat.zero_le _, rfl, Below.refl _ _⟩
  case round =>
    obtain ⟨k, hk, rfl, hb⟩ := hrel
    by_cases hlt : k < n
    · have hkl : k < l.length := by rw [← HN.out]; exact hlt
      have hne : l ≠ [] := fun e => by rw [e] at hkl; simp at hkl
      obtain ⟨b1, o1, rfl, hb1, hc1⟩ := h1.atWord hne
      obtain ⟨b2, o2, rfl, hb2, hc2⟩ := h2.atWord hne
      obtain ⟨x0, hx0⟩ : ∃ x, l[k].text = x := ⟨_, rfl⟩
      obtain ⟨x1, hx1⟩ : ∃ x, l[k].fr = x := ⟨_, rfl⟩
      obtain ⟨x2, hx2⟩ : ∃ x, l[k].to = x := ⟨_, rfl⟩
      have HC := Lib.hid (show ∀ w', Below w.heap.size w w' → (w'.cell? ⟨b1, o1 + k * 3, none⟩ = some (.string x0) ∧ w'.cell? ⟨b1, o1 + k * 3 + 1, none⟩ = some (.int .i64 x1) ∧ w'.cell? ⟨b1, o1 + k * 3 + 2, none⟩ = some (.int .i64 x2)) ∧ (w'.cell? ⟨b2, o2 + k * 3, none⟩ = some (.string x0) ∧ w'.cell? ⟨b2, o2 + k * 3 + 1, none⟩ = some (.int .i64 x1) ∧ w'.cell? ⟨b2, o2 + k * 3 + 2, none⟩ = some (.int .i64 x2)) from fun w' hb => ⟨by
        have h := hc1 k hkl
        rw [hx0, hx1, hx2] at h
        exact ⟨(hb.cell (p := ⟨b1, o1 + k * 3, none⟩) hb1).trans h.1, (hb.cell (p := ⟨b1, o1 + k * 3 + 1, none⟩) hb1).trans h.2.1, (hb.cell (p := ⟨b1, o1 + k * 3 + 2, none⟩) hb1).trans h.2.2⟩, by
        have h := hc2 k hkl
        rw [hx0, hx1, hx2] at h
        exact ⟨(hb.cell (p := ⟨b2, o2 + k * 3, none⟩) hb2).trans h.1, (hb.cell (p := ⟨b2, o2 + k * 3 + 1, none⟩) hb2).trans h.2.1, (hb.cell (p := ⟨b2, o2 + k * 3 + 2, none⟩) hb2).trans h.2.2⟩⟩)
      clear hx0 hx1 hx2 hc1 hc2 hne
      go_wp2
      go_region_held3 (fun w' => (w'.cell? ⟨b1, o1 + k * 3, none⟩ = some (.string x0) ∧ w'.cell? ⟨b1, o1 + k * 3 + 1, none⟩ = some (.int .i64 x1) ∧ w'.cell? ⟨b1, o1 + k * 3 + 2, none⟩ = some (.int .i64 x2)) ∧ (w'.cell? ⟨b2, o2 + k * 3, none⟩ = some (.string x0) ∧ w'.cell? ⟨b2, o2 + k * 3 + 1, none⟩ = some (.int .i64 x1) ∧ w'.cell? ⟨b2, o2 + k * 3 + 2, none⟩ = some (.int .i64 x2))) (first | exact HC.out _ hb | exact HC.out _ hb.drew | exact HC.out _ (hb.drew.trans (hbm.mono hb.size)))
        (first | (go_at_call 42; refine (eqWord_same _ _ _ _).mono ?_; rintro e w1 ⟨rfl, hbm⟩))
      go_wp2
      go_roundw
      case rel => exact ⟨k + 1, by omega, by go_num, hb.drew.trans (hbm.mono hb.size)⟩
      case measure => simp [intOf]; omega
    · go_wp2
      go_ret
      exact ⟨rfl, hb⟩

/-- Records that bear ascending marks. -/
def markWord (m i : Nat) : WordM := ⟨markB (m + i * 3), ((m + i * 3 + 1 : Nat) : Int), ((m + i * 3 + 2 : Nat) : Int)⟩
def marksWord (m n : Nat) : List (WordM) := (List.range n).map (markWord m)
theorem marksWord_len (m n : Nat) : (marksWord m n).length = n := by simp [marksWord]
theorem marksWord_get (m n k : Nat) (h : k < n) : (marksWord m n)[k]'(by rw [marksWord_len]; exact h) = markWord m k := by simp [marksWord]
theorem marksWord_next (m k : Nat) : wordsC (marksWord m (k + 1)) = wordsC (marksWord m k) ++ wordC (markWord m k) := by
  rw [marksWord, List.range_succ, List.map_append, wordsC, List.flatMap_append, marksWord, wordsC]; simp
theorem marksWord_cells (m n : Nat) : (wordsC (marksWord m n)).length = n * 3 := by rw [wordsC, flat_len wordC 3 lenWord, marksWord_len]

set_option maxHeartbeats 8000000 in
theorem markWordS_any (B : Nat) (a : Option Addr) (n c : Nat) (l : List (WordM)) (m : Nat) (w : World) (hown : w.ownsRow B 53 3 (.slice a n c) n (wordsC l)) (hn : n < 68719476736) (h0 : 0 < m) (hm : m < 274877906944) :
    Calls Try.prog 12 #[.slice a n c, .int .i64 m] w fun e w' => e = .returned (.int .i64 ((m + n * 3 : Nat) : Int)) ∧ w'.ownsRow B 53 3 (.slice a n c) n (wordsC (marksWord m n)) ∧ w.grownBy w' (Value.ownBlock (.slice a n c)) := by
  have hlen : (wordsC l).length = n * 3 := hown.1
  have HL := Lib.hid hlen
  clear hlen
  go_enter Try.func12, Try.ntmps12
  go_wp2
  go_loopw [1, 5] (fun q i wr => ∃ k : Nat, k ≤ n ∧ i = .int .i64 k ∧ (∃ z : Nat, q = .int .i64 z ∧ z = m + k * 3) ∧ wr.ownsRow B 53 3 (.slice a n c) n (wordsC (marksWord m k) ++ (wordsC l).drop (k * 3)) ∧ w.grownBy wr (Value.ownBlock (.slice a n c))) (fun _ i _ => n - (intOf i).toNat)
  case atStart => exact ⟨0, Nat.zero_le _, rfl, ⟨m, rfl, by omega⟩, by simpa [marksWord, wordsC] using hown, World.grownBy.refl _ _⟩
  case round =>
    clear hown
    obtain ⟨k, hk, rfl, ⟨z, rfl, hz⟩, hown0, hg0⟩ := hrel
    by_cases hlt : k < n
    · obtain ⟨g, rfl⟩ : ∃ g, a = some ⟨g, 0, none⟩ := by
        rcases hown0.2 with ⟨hv, h0⟩ | ⟨g, cap', cur, hv, _⟩
        · omega
        · exact ⟨g, (by simpa using hv : a = some ⟨g, 0, none⟩ ∧ c = cap').1⟩
      have HZ := Lib.hid hz
      have hz9 : z + 3 < 1099511627776 := by omega
      have hz0 : 0 < z := by omega
      clear hz
      obtain ⟨t0, ht0⟩ : ∃ t, markB z = t := ⟨_, rfl⟩
      have HT0 := Lib.hid ht0
      clear ht0
      go_wp2_with fail
      refine (markText_is _ t0 _ (by omega) (by omega) ((congrArg markB (show ((z : Int)).toNat = z by omega)).trans HT0.out)).mono ?_
      rintro e v0 ⟨rfl, hb0⟩
      have hw0 := ownsRow_below hown0 hb0
      have hg0' := grownBy_trans hg0 (grown_below hb0 _)
      have hf0 := hw0.frozenAt (k * 3)
      obtain ⟨y0, hy0⟩ := own_cell hw0 (k * 3) (by omega)
      obtain ⟨hown1, hg1s'⟩ := hw0.stored (k * 3) (Value.string t0)
      rw [set_next (A := wordsC (marksWord m k)) (by simp [marksWord_cells] <;> omega) (by rw [HL.out]; omega)] at hown1
      have hg1 := grownBy_trans hg0' hg1s'

      have hw1 := hown1
      have hg1' := hg1
      have hf1 := hw1.frozenAt (k * 3 + 1)
      obtain ⟨y1, hy1⟩ := own_cell hw1 (k * 3 + 1) (by omega)
      obtain ⟨hown2, hg2s'⟩ := hw1.stored (k * 3 + 1) (Value.int .i64 ((z : Int) + 1))
      rw [set_next (A := wordsC (marksWord m k) ++ [Value.string t0]) (by simp [marksWord_cells] <;> omega) (by rw [HL.out]; omega)] at hown2
      have hg2 := grownBy_trans hg1' hg2s'

      have hw2 := hown2
      have hg2' := hg2
      have hf2 := hw2.frozenAt (k * 3 + 2)
      obtain ⟨y2, hy2⟩ := own_cell hw2 (k * 3 + 2) (by omega)
      obtain ⟨hown3, hg3s'⟩ := hw2.stored (k * 3 + 2) (Value.int .i64 ((z : Int) + 2))
      rw [set_next (A := wordsC (marksWord m k) ++ [Value.string t0] ++ [Value.int .i64 ((z : Int) + 1)]) (by simp [marksWord_cells] <;> omega) (by rw [HL.out]; omega)] at hown3
      have hg3 := grownBy_trans hg2' hg3s'

      have hE : wordsC (marksWord m k) ++ [Value.string t0] ++ [Value.int .i64 ((z : Int) + 1)] ++ [Value.int .i64 ((z : Int) + 2)] = wordsC (marksWord m (k + 1)) := by
        have hzz := HZ.out
        rw [marksWord_next, markWord]
        simp only [List.append_assoc, wordC, List.cons_append, List.nil_append, ← hzz, ← HT0.out]
        rfl
      rw [hE] at hown3
      clear hE hown0 hg0 hown1 hg1 hown2 hg2
      go_wp2
      go_roundw
      case rel => exact ⟨k + 1, by omega, by go_num, ⟨z + 3, by go_num, by have := HZ.out; omega⟩, by rw [show (k + 1) * 3 = k * 3 + 3 by omega]; exact hown3, hg3⟩
      case measure => simp [intOf]; omega

    · obtain rfl : k = n := by omega
      rw [show wordsC (marksWord m k) ++ (wordsC l).drop (k * 3) = wordsC (marksWord m k) from by rw [List.drop_of_length_le (by rw [HL.out]; exact Nat.le_refl _), List.append_nil]] at hown0
      have HZ := Lib.hid hz
      clear hz
      go_wp2
      go_ret
      exact ⟨ret_int (by rw [HZ.out]), hown0, hg0⟩

set_option maxHeartbeats 4000000 in
theorem heldWordS_any (a : Option Addr) (n c m : Nat) (w : World) (hat : CellsAt w a (wordsC (marksWord m n))) (hn : n < 68719476736) (h0 : 0 < m) (hm : m < 274877906944) :
    Calls Try.prog 13 #[.slice a n c, .int .i64 m] w fun e w' => e = .returned (.int .i64 ((m + n * 3 : Nat) : Int)) ∧ Below w.heap.size w w' := by
  go_enter Try.func13, Try.ntmps13
  go_wp2
  go_loopw [1, 5] (fun q i wr => ∃ k : Nat, k ≤ n ∧ i = .int .i64 k ∧ (∃ z : Nat, q = .int .i64 z ∧ z = m + k * 3) ∧ Below w.heap.size w wr) (fun _ i _ => n - (intOf i).toNat)
  case atStart => exact ⟨0, Nat.zero_le _, rfl, ⟨m, rfl, by omega⟩, Below.refl _ _⟩
  case round =>
    obtain ⟨k, hk, rfl, ⟨z, rfl, hz⟩, hb0⟩ := hrel
    by_cases hlt : k < n
    · have hlen := marksWord_len m n
      have hne : marksWord m n ≠ [] := fun e => by rw [e] at hlen; simp at hlen; omega
      obtain ⟨b, o, rfl, hbl, hc⟩ := hat.atWord hne
      have hz9 : z + 3 < 1099511627776 := by omega
      have hz0 : 0 < z := by omega
      obtain ⟨t0, ht0⟩ : ∃ t, markB (z) = t := ⟨_, rfl⟩
      have HC := Lib.hid (show ∀ w', Below w.heap.size w w' → (w'.cell? ⟨b, o + k * 3, none⟩ = some (Value.string t0) ∧ w'.cell? ⟨b, o + k * 3 + 1, none⟩ = some (Value.int .i64 ((z : Int) + 1)) ∧ w'.cell? ⟨b, o + k * 3 + 2, none⟩ = some (Value.int .i64 ((z : Int) + 2))) from fun w' hb => by
        have h := hc k (by omega)
        rw [marksWord_get m n k hlt, markWord, ← hz] at h
        push_cast at h
        simp only [ht0] at h
        exact ⟨(hb.cell (p := ⟨b, o + k * 3, none⟩) hbl).trans h.1, (hb.cell (p := ⟨b, o + k * 3 + 1, none⟩) hbl).trans h.2.1, (hb.cell (p := ⟨b, o + k * 3 + 2, none⟩) hbl).trans h.2.2⟩)
      have HZ := Lib.hid hz
      have HT0 := Lib.hid ht0
      clear hz hc hne hlen ht0
      obtain ⟨g0_0, g0_1, g0_2⟩ := HC.out _ hb0
      go_wp2
      go_region_held3 (fun w' => w'.cell? ⟨b, o + k * 3, none⟩ = some (.string t0)) (first | exact g0_0 | exact (HC.out _ (hb0.drew.trans (hm1.mono hb0.size))).1)
        (first | (go_at_call 43; refine (markText_is _ t0 _ (by omega) (by omega) ((congrArg markB (show ((z : Int)).toNat = z by omega)).trans HT0.out)).mono ?_; rintro e v1 ⟨rfl, hm1⟩))
      have hb1 := hb0.drew.trans (hm1.mono hb0.size)
      obtain ⟨g1_0, g1_1, g1_2⟩ := HC.out _ hb1
      clear g0_0 g0_1 g0_2
      go_wp2
      go_roundw
      case rel => exact ⟨k + 1, by omega, by go_num, ⟨z + 3, by go_num, by have := HZ.out; omega⟩, hb1⟩
      case measure => simp [intOf]; omega
    · obtain rfl : k = n := by omega
      have HZ := Lib.hid hz
      clear hz
      go_wp2
      go_ret
      exact ⟨ret_int (by rw [HZ.out]), hb0⟩

theorem Try.ulLaWord : Try.prog.underlying 27 = some (.slice 57) := by kernel_rfl
theorem toWord_any (x0 : ByteArray) (x1 : Int) (x2 : Int) (w : World) :
    Calls Try.prog 45 #[.agg #[.string x0, .int .i64 x1, .int .i64 x2]] w fun e w' => e = .returned (.agg #[.string x0, .int .i64 x1, .int .i64 x2]) ∧ Below w.heap.size w w' := by
  go_enter Try.func45, Try.ntmps45
  go_wp2
  refine bodyPost_ret (v := .agg #[.string x0, .int .i64 x1, .int .i64 x2]) (by simp [results, Try.results45, go_sem]) rfl ⟨rfl, ?_⟩
  repeat (first | exact Below.refl _ _ | apply below_drewN' | (refine Below.alloc ?_ (by simp <;> omega) _))

set_option maxHeartbeats 4000000 in
theorem toWordS_any (l : List (WordM)) (a : Option Addr) (n c : Nat) (w : World) (hn : n = l.length) (hm : n ≤ 1048576) (hat : CellsAt w a (wordsC l)) :
    Calls Try.prog 16 #[.slice a n c] w fun e w' => ∃ a', e = .returned (.slice a' n n) ∧ One w w.heap.size w' 53 3 a' n n (wordsC l) := by
  obtain ⟨zs, w1, hmk, hzl, hone⟩ := make_own (P := Try.prog) 22 53 Try.ulSlWord Try.infoSlWord n (by omega) (by unfold maxLen; omega) w
  have HN := Lib.hid hn
  have HZ := Lib.hid hzl
  clear hn hzl
  go_enter Try.func16, Try.ntmps16
  go_wp2
  clear hmk
  go_loopw [4] (fun i wr => ∃ k : Nat, k ≤ n ∧ i = .int .i64 k ∧ One w w.heap.size wr 53 3 (some ⟨w.heap.size, 0, none⟩) n n (wordsC (l.take k) ++ zs.drop (k * 3))) (fun i _ => n - (intOf i).toNat)
  case atStart => exact ⟨0, Nat.zero_le _, rfl, by simpa [wordsC] using hone⟩
  case round =>
    clear hone
    obtain ⟨k, hk, rfl, hone⟩ := hrel
    by_cases hlt : k < n
    · have hkl : k < l.length := by rw [← HN.out]; exact hlt
      obtain ⟨b, o, rfl, _, hc⟩ := (hat.below hone.below).atWord (fun e => by rw [e] at hkl; simp at hkl)
      obtain ⟨g0, g1, g2⟩ := hc k hkl
      obtain ⟨x0, hx0⟩ : ∃ x, l[k].text = x := ⟨_, rfl⟩
      rw [hx0] at g0
      obtain ⟨x1, hx1⟩ : ∃ x, l[k].fr = x := ⟨_, rfl⟩
      rw [hx1] at g1
      obtain ⟨x2, hx2⟩ : ∃ x, l[k].to = x := ⟨_, rfl⟩
      rw [hx2] at g2
      have HX := Lib.hid (show wordsC (l.take (k + 1)) = wordsC (l.take k) ++ [Value.string x0] ++ [Value.int .i64 x1] ++ [Value.int .i64 x2] by
        rw [List.take_succ_eq_append_getElem hkl, wordsC, List.flatMap_append, wordsC]
        simp [wordC, hx0, hx1, hx2])
      clear hc hx0 hx1 hx2
      go_wp2_with fail
      refine (toWord_any _ _ _ _).mono ?_
      rintro e v0 ⟨rfl, hb⟩
      have h0 := hone.later hb
      have hl0 : (wordsC (l.take k)).length = k * 3 := by rw [wordsC, flat_len wordC 3 lenWord, List.length_take]; omega
      have HL0 := Lib.hid hl0
      clear hone hb hl0 g0 g1 g2
      have f0 := h0.frozen (k * 3)
      obtain ⟨y0, c0⟩ := h0.cell (k * 3) (by omega)
      have h1 := h0.stored (k * 3) (Value.string x0)
      rw [set_next (A := wordsC (l.take k)) (by simp [HL0.out] <;> omega) (by rw [HZ.out]; omega)] at h1
      have f1 := h0.frozen (k * 3 + 1)
      obtain ⟨y1, c1⟩ := h0.cell (k * 3 + 1) (by omega)
      have h2 := h1.stored (k * 3 + 1) (Value.int .i64 x1)
      rw [set_next (A := wordsC (l.take k) ++ [Value.string x0]) (by simp [HL0.out] <;> omega) (by rw [HZ.out]; omega)] at h2
      have f2 := h0.frozen (k * 3 + 2)
      obtain ⟨y2, c2⟩ := h0.cell (k * 3 + 2) (by omega)
      have h3 := h2.stored (k * 3 + 2) (Value.int .i64 x2)
      rw [set_next (A := wordsC (l.take k) ++ [Value.string x0] ++ [Value.int .i64 x1]) (by simp [HL0.out] <;> omega) (by rw [HZ.out]; omega)] at h3
      rw [← HX.out] at h3
      clear h0 h1 h2
      go_wp2
      go_roundw
      case rel => exact ⟨k + 1, by omega, by go_num, by rw [show (k + 1) * 3 = k * 3 + 3 by omega]; exact h3⟩
      case measure => simp [intOf]; omega
    · obtain rfl : k = n := by omega
      have hE : wordsC (l.take k) ++ zs.drop (k * 3) = wordsC l := by
        rw [List.take_of_length_le (by rw [HN.out]; exact Nat.le_refl _), List.drop_of_length_le (by rw [HZ.out]; exact Nat.le_refl _), List.append_nil]
      rw [hE] at hone
      clear hE
      go_wp2
      go_ret
      exact ⟨_, rfl, hone⟩

theorem szWord_any (x0 : ByteArray) (x1 : Int) (x2 : Int) (left : Nat) (w : World) (hl : left ≤ 1048576) (hs0 : x0.size ≤ maxLen) :
    Calls Try.prog 44 #[.agg #[.string x0, .int .i64 x1, .int .i64 x2], .int .i64 left] w fun e w' => (∃ r : Int, e = .returned (.int .i64 r) ∧ (r < 0 ∨ (r = (left : Int) - (x0.size : Nat) ∧ 0 ≤ r))) ∧ Below w.heap.size w w' := by
  unfold maxLen at hs0
  have e0 : IntKind.i64.wrap ((left : Int) - x0.size) = (left : Int) - x0.size := IntWalk.i64_in _ (by omega)
  by_cases c0 : (left : Int) - x0.size < 0
  · go_enter Try.func44, Try.ntmps44
    go_wp2
    go_ret
    exact ⟨⟨-1, rfl, .inl (by decide)⟩, (Below.refl _ _).alloc (Nat.le_refl _) _⟩
  · skip
    go_enter Try.func44, Try.ntmps44
    go_wp2
    go_ret
    exact ⟨⟨(left : Int) - x0.size, rfl, .inr ⟨by omega, by omega⟩⟩, (Below.refl _ _).alloc (Nat.le_refl _) _⟩

def totWord (l : List (WordM)) : Nat := (l.map fun x => x.text.size).sum
theorem totWord_take (l : List (WordM)) (k : Nat) (h : k < l.length) : totWord (l.take (k + 1)) = totWord (l.take k) + (l[k].text.size) := by
  rw [List.take_succ_eq_append_getElem h, totWord, List.map_append, List.sum_append, totWord]; simp

set_option maxHeartbeats 1000000 in
theorem szWordS_any (l : List (WordM)) (a : Option Addr) (n c left : Nat) (w : World) (hn : n = l.length) (hl : left ≤ 1048576) (hm : n ≤ maxLen) (hs : ∀ x ∈ l, x.text.size ≤ maxLen) (hat : CellsAt w a (wordsC l)) :
    Calls Try.prog 14 #[.slice a n c, .int .i64 left] w fun e w' => (∃ r : Int, e = .returned (.int .i64 r) ∧ (r < 0 ∨ (r = (left : Int) - n - totWord l ∧ 0 ≤ r))) ∧ Below w.heap.size w w' := by
  have hm9 := hm
  unfold maxLen at hm9
  have HN := Lib.hid hn
  have HS := Lib.hid hs
  have e1 : IntKind.i64.wrap ((left : Int) - n) = (left : Int) - n := IntWalk.i64_in _ (by omega)
  clear hn hs
  by_cases h0 : left < n
  · have t1 : (left : Int) - n < 0 := by omega
    go_enter Try.func14, Try.ntmps14
    go_wp2
    go_ret
    exact ⟨⟨-1, rfl, .inl (by decide)⟩, Below.refl _ _⟩
  · have t1 : ¬ (left : Int) - n < 0 := by omega
    go_enter Try.func14, Try.ntmps14
    go_wp2
    go_loopw [1, 5] (fun q i wr => ∃ k m : Nat, k ≤ n ∧ i = .int .i64 k ∧ q = .int .i64 m ∧ m ≤ 1048576 ∧ Hid ((m : Int) = (left : Int) - n - totWord (l.take k)) ∧ Below w.heap.size w wr) (fun _ i _ => n - (intOf i).toNat)
    case atStart => exact ⟨0, left - n, Nat.zero_le _, rfl, by congr 1; omega, by omega, Lib.hid (by simp only [List.take_zero, totWord, List.map_nil, List.sum_nil]; omega), Below.refl _ _⟩
    case round =>
      obtain ⟨k, m, hk, rfl, rfl, hm9, HM, hb⟩ := hrel
      by_cases hlt : k < n
      · have hkl : k < l.length := by rw [← HN.out]; exact hlt
        obtain ⟨b, o, rfl, _, hc⟩ := (hat.below hb).atWord (fun e => by rw [e] at hkl; simp at hkl)
        obtain ⟨g0, g1, g2⟩ := hc k hkl
        have hxs := HS.out (l[k]) (List.getElem_mem hkl)
        have htk := totWord_take l k hkl
        obtain ⟨x0, hx0⟩ : ∃ x, l[k].text = x := ⟨_, rfl⟩
        rw [hx0] at g0 hxs htk
        obtain ⟨x1, hx1⟩ : ∃ x, l[k].fr = x := ⟨_, rfl⟩
        rw [hx1] at g1
        obtain ⟨x2, hx2⟩ : ∃ x, l[k].to = x := ⟨_, rfl⟩
        rw [hx2] at g2
        have HT := Lib.hid htk
        have HXS := Lib.hid hxs
        clear hc htk hxs hx0 hx1 hx2
        go_wp2_with fail
        refine (szWord_any _ _ _ m _ hm9 HXS.out).mono ?_
        rintro e v0 ⟨⟨r, rfl, hr⟩, hbm⟩
        by_cases hr0 : r < 0
        · clear hr
          go_wp2
          go_ret
          exact ⟨⟨-1, rfl, .inl (by decide)⟩, hb.trans (hbm.mono hb.size)⟩
        · obtain ⟨hr1, _⟩ := hr.resolve_left hr0
          obtain ⟨r, rfl⟩ : ∃ r' : Nat, r = r' := ⟨r.toNat, by omega⟩
          have HR := Lib.hid hr1
          have hrm : r ≤ m := by omega
          clear hr hr1 hr0
          go_wp2
          go_roundw
          case rel => exact ⟨k + 1, r, by omega, by go_num, rfl, by omega, Lib.hid (by have h1 := HM.out; have h2 := HT.out; have h3 := HR.out; omega), hb.trans (hbm.mono hb.size)⟩
          case measure => simp [intOf]; omega
      · obtain rfl : k = n := by omega
        have hE : l.take k = l := List.take_of_length_le (by rw [HN.out]; exact Nat.le_refl _)
        have h1 := HM.out
        rw [hE] at h1
        have HE := Lib.hid h1
        clear hE h1 e1 t1
        go_wp2
        go_ret
        exact ⟨⟨m, rfl, .inr ⟨HE.out, by omega⟩⟩, hb⟩

theorem openWords {H : Type} {enc : TypeId × Value → H} {w : World} {spare : Nat → Bool} {held : Bool} {a : Option Addr} {n c : Nat} {d : DataW H} {p : List MemPlace}
    (h : DataW.Trod enc Try.prog w 0 spare held 27 (.slice a n c) d p) : ∃ l : List (WordM), n = l.length ∧ n ≤ c ∧ c ≤ maxLen ∧ (∀ x ∈ l, x.text.size ≤ maxLen ∧ (Lit.int .i64 x.fr).wf = true ∧ (Lit.int .i64 x.to).wf = true) ∧ CellsAt w a (wordsC l) := by
  refine open_elems (α := WordM) wordC 3 (fun x => x.text.size ≤ maxLen ∧ (Lit.int .i64 x.fr).wf = true ∧ (Lit.int .i64 x.to).wf = true) (by decide) lenWord Try.ulLaWord (by kernel_rfl) (fun fuel cs x hcl hx => ?_) h
  match cs, hcl with
  | [c0, c1, c2], hcl =>
    obtain ⟨v0, y0, n0, hv0, ht0⟩ := open_fields (P := Try.prog) Try.underlying57 (by kernel_rfl) hcl hx 0 _ rfl
    obtain ⟨s0, hs0, _, hw0⟩ := DataW.trod_string (by kernel_rfl) ht0
    obtain ⟨v1, y1, n1, hv1, ht1⟩ := open_fields (P := Try.prog) Try.underlying57 (by kernel_rfl) hcl hx 1 _ rfl
    obtain ⟨s1, hs1, _, hw1⟩ := DataW.trod_int (k := .i64) (by kernel_rfl) ht1
    obtain ⟨v2, y2, n2, hv2, ht2⟩ := open_fields (P := Try.prog) Try.underlying57 (by kernel_rfl) hcl hx 2 _ rfl
    obtain ⟨s2, hs2, _, hw2⟩ := DataW.trod_int (k := .i64) (by kernel_rfl) ht2
    simp only [List.cons.injEq, and_true] at hs0 hs1 hs2
    simp at hv0 hv1 hv2
    subst hs0 hs1 hs2
    exact ⟨⟨s0, s1, s2⟩, by simp [wordC, hv0, hv1, hv2], ⟨hw0, hw1, hw2⟩⟩

theorem markWordS_z (B : Nat) (a : Option Addr) (n c : Nat) (l : List (WordM)) (z : Int) (m : Nat) (w : World) (hown : w.ownsRow B 53 3 (.slice a n c) n (wordsC l)) (hz : z = m) (hn : n < 68719476736) (h0 : 0 < m) (hm : m < 274877906944) :
    Calls Try.prog 12 #[.slice a n c, .int .i64 z] w fun e w' => e = .returned (.int .i64 ((m + n * 3 : Nat) : Int)) ∧ w'.ownsRow B 53 3 (.slice a n c) n (wordsC (marksWord m n)) ∧ w.grownBy w' (Value.ownBlock (.slice a n c)) := by
  subst hz; exact markWordS_any B a n c l m w hown hn h0 hm

theorem heldWordS_z (a : Option Addr) (n c : Nat) (z : Int) (m : Nat) (w : World) (hat : CellsAt w a (wordsC (marksWord m n))) (hz : z = m) (hn : n < 68719476736) (h0 : 0 < m) (hm : m < 274877906944) :
    Calls Try.prog 13 #[.slice a n c, .int .i64 z] w fun e w' => e = .returned (.int .i64 ((m + n * 3 : Nat) : Int)) ∧ Below w.heap.size w w' := by
  subst hz; exact heldWordS_any a n c m w hat hn h0 hm

end Go.Proofs.Ytgbmmdcelonahaa
