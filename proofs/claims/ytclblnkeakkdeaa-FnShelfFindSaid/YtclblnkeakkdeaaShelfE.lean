/-
  The contract of the model's function ShelfOf. Condition: texts have at most 2^21 bytes.
-/
import Derived.Test.YtclblnkeakkdeaaShelfD
namespace Go.Proofs.Ytclblnkeakkdeaa
open Go.RowKit

/-- The shelf of a text with a number. -/
def shelfL (d : Int) (M : List (Int × Int)) : List En := if d < 0 then [] else rowE (M.map fun m => (m.1, d, m.2))
theorem shelfL_not {d : Int} (h : d < 0) (M : List (Int × Int)) : shelfL d M = [] := by rw [shelfL, if_pos h]
theorem shelfL_ok {d : Int} (h : ¬ d < 0) (M : List (Int × Int)) : shelfL d M = rowE (M.map fun m => (m.1, d, m.2)) := by rw [shelfL, if_neg h]

theorem pair_at5 {w : World} {a : Option Addr} {M : List (Int × Int)} (h : CellsAt w a (pairsC M)) {i : Nat} {p x : Int} (hi : i < M.length) (hm : M[i] = (p, x)) : ∃ b o, a = some ⟨b, o, none⟩ ∧ b < w.heap.size ∧ w.cell? ⟨b, o + i * 2, none⟩ = some (.int .i64 p) ∧ w.cell? ⟨b, o + i * 2 + 1, none⟩ = some (.int .i64 x) := by
  obtain ⟨b, o, ha, hb, hc⟩ := h.pair (fun e => by rw [e] at hi; simp at hi)
  have h1 := hc i hi
  rw [hm] at h1
  exact ⟨b, o, ha, hb, h1.1, h1.2⟩

set_option maxRecDepth 4000 in
set_option maxHeartbeats 8000000 in
theorem specShelfOf_any (d : Int) (s : ByteArray) (k v : Int) (M : List (Int × Int)) (w : World) (hM : marksL s.data.toList k v = M) (hs : s.size ≤ 2097152) (hv9 : v ≤ 9223372036854775807) :
    Calls Try.prog 94 #[.int .i64 d, .string s, .int .i64 k, .int .i64 v] w fun e w' => ∃ g n c, e = .returned (.slice (some ⟨g, 0, none⟩) n c) ∧ One w w.heap.size w' 31 3 (some ⟨g, 0, none⟩) n c (entsC (shelfL d M)) := by
  by_cases hd : d < 0
  · rw [shelfL_not hd]
    go_enter Try.func94, Try.ntmps94
    go_wp2
    go_ret
    exact ⟨_, _, _, rfl, One.empty w 31 3⟩
  have hMl : M.length ≤ 2097152 := by
    rw [← hM, marksL, List.length_map]
    have h1 := chosenN_len (printsL s.data.toList k) v
    have h2 := printsN_room s.data.toList k
    have : s.data.toList.length = s.size := rfl
    unfold marksAt
    omega
  have c1 := fun w => specMarks_any s k v M w hM (by omega) hv9
  have HR := Lib.hid (shelfL_ok hd M)
  have HMl := Lib.hid hMl
  have hd2 : (0 : Int) ≤ d := by omega
  clear hM hMl hd
  go_enter Try.func94, Try.ntmps94
  go_wp2_with fail
  refine (c1 _).mono ?_
  rintro e w2 ⟨ma, mn, mc, rfl, h2⟩
  have HMN := Lib.hid (pairs_len h2.own)
  have hmn9 : mn ≤ 2097152 := by have := HMN.out; have := HMl.out; omega
  have hone0 : One w w.heap.size w2 31 3 (some ⟨w.heap.size, 0, none⟩) 0 0 (entsC (rowE ((M.take 0).map fun m => (m.1, d, m.2)))) := (One.empty w 31 3).later h2.below
  have hat0 := h2.at_
  clear h2 c1
  go_wp2
  go_loopw [9, 11] (fun o_ i_ wr => ∃ i : Nat, i ≤ mn ∧ i_ = .int .i64 i ∧ ∃ g n c, o_ = .slice (some ⟨g, 0, none⟩) n c ∧ n ≤ i ∧ One w w.heap.size wr 31 3 (some ⟨g, 0, none⟩) n c (entsC (rowE ((M.take i).map fun m => (m.1, d, m.2)))) ∧ CellsAt wr ma (pairsC M)) (fun _ i_ _ => mn - (intOf i_).toNat)
  case atStart => exact ⟨0, Nat.zero_le _, rfl, _, 0, _, rfl, Nat.le_refl _, hone0, hat0⟩
  case round =>
    clear hone0 hat0
    obtain ⟨i, hi, rfl, g, n, c, rfl, hn, hone, hat⟩ := hrel
    by_cases hlt : i < mn
    · have hiM : i < M.length := by have := HMN.out; omega
      obtain ⟨p, hp⟩ : ∃ p, M[i].1 = p := ⟨_, rfl⟩
      obtain ⟨x, hx⟩ : ∃ x, M[i].2 = x := ⟨_, rfl⟩
      have hm : M[i] = (p, x) := by rw [← hp, ← hx]
      obtain ⟨mb, mo, rfl, hmb, g1, g2⟩ := pair_at5 hat hiM hm
      obtain ⟨L, hL⟩ : ∃ L, rowE ((M.take i).map fun m => (m.1, d, m.2)) = L := ⟨_, rfl⟩
      have hnx : rowE ((M.take (i + 1)).map fun m => (m.1, d, m.2)) = putE (p, d, x) L := by
        rw [List.take_succ_eq_append_getElem hiM, List.map_append, hm, ← hL, putE_snoc]; rfl
      rw [hL] at hone
      have hlen := ents_len hone.own
      have c2 := fun w' h => specPut5_any L p d x g n c w.heap.size w w' hlen (by omega) h
      have HNX := Lib.hid hnx
      have HL2 := Lib.hid (show (putE (p, d, x) L).length ≤ i + 1 by have h := putE_len (p, d, x) L; omega)
      have HKS := Lib.hid (show ∀ w', Below wr.heap.size wr w' → w'.cell? ⟨mb, mo + i * 2, none⟩ = some (.int .i64 p) ∧ w'.cell? ⟨mb, mo + i * 2 + 1, none⟩ = some (.int .i64 x) from fun w' h => ⟨below_ents h hmb g1, below_ents h hmb g2⟩)
      have z1 : (i : Int) < (mn : Int) := by omega
      have z2 : (0 : Int) ≤ (i : Int) := by omega
      clear hp hx hm hL hnx hlen
      go_wp2
      go_region_held3 (fun w' => w'.cell? ⟨mb, mo + i * 2, none⟩ = some (.int .i64 p) ∧ w'.cell? ⟨mb, mo + i * 2 + 1, none⟩ = some (.int .i64 x)) (first | go_keep | exact HKS.out _ (Below.trans (by repeat (first | exact Below.refl _ _ | refine Below.drew ?_ | refine below_drewN' ?_ _)) (hb5.mono (by simp))))
        ((go_at_call 120; refine (c2 _ (by repeat (first | exact hone | refine One.drew ?_ | exact One.drewN hone _))).mono ?_; rintro e w5 ⟨g', n', c', rfl, hn', hone5, hb5⟩; have HN5 := Lib.hid hn'; clear hn'))
      have W5 : Below wr.heap.size wr w5 := (Below.trans (by repeat (first | exact Below.refl _ _ | refine Below.drew ?_ | refine below_drewN' ?_ _)) (hb5.mono (by simp)))
      have hat5 := hat.below W5
      have hn5 : n' ≤ i + 1 := by rw [HN5.out]; exact HL2.out
      clear hb5 W5
      go_wp2
      go_roundw
      case rel => exact ⟨i + 1, by omega, by go_num, g', n', c', rfl, hn5, by rw [HNX.out]; exact hone5, hat5⟩
      case measure => simp [intOf]; omega
    · have HO := Lib.hid (show One w w.heap.size wr 31 3 (some ⟨g, 0, none⟩) n c (entsC (shelfL d M)) by
        have h := hone
        rw [List.take_of_length_le (by have := HMN.out; omega)] at h
        rw [HR.out]
        exact h)
      clear hone hat
      go_wp2
      go_ret
      exact ⟨_, _, _, rfl, HO.out⟩

end Go.Proofs.Ytclblnkeakkdeaa
