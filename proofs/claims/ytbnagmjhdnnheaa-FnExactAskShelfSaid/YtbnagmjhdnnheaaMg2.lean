/-
  The contracts of the program's PrintsOf and FindPrint, and of the model's FindPrint. Condition: texts have at most 2^22 bytes.
  The contracts of the model's functions l4Least, ChosenOf and SureLength. Condition: rows have at most 2^22 numbers.
  Plain mathematics of marks that grow with a text. No conditions.
  Words for rows of records of two numbers. No conditions.
  The contracts of the model's functions MarksOf, TwinsOf and MarksAfter. Condition: texts have at most 2^22 bytes.
  Plain mathematics of the twins of marks. No conditions.
  The contract of the model's function TwinsOf. Condition: rows have at most 2^20 marks.
  Blocks that lie beside a row that grows. No program is read. No conditions.
  Plain mathematics of entries in order: fingerprint, text, place. No conditions.
  Plain mathematics of pieces that two texts have in common: how far they go back and on, all of them in order, which of them has given places, and the longest one. No conditions.
  Words for rows of records of three numbers. No program is read here. No conditions.
  The contracts of the model's functions PieceOk, PieceHas and GrowPiece. Condition: texts have at most 2^22 bytes.
-/
import Derived.Test.YtbnagmjhdnnheaaMg1
import Derived.Deep.QuietTactic
import Derived.BigQuiet
import Derived.IntWalk
import Derived.Deep.RegionHeld3
import Init.Data.List.Lemmas
import Init.Omega
import Init.Data.List.Pairwise
import Derived.Test.YtbnagmjhdnnheaaProg
import Derived.Lib.Hide
namespace Go.Proofs.Ytbnagmjhdnnheaa
open Go.RowKit

theorem One.lit (w : World) (e : TypeId) (v : Value) : One w w.heap.size (w.alloc (.cells #[v] e)) e 1 (some ⟨w.heap.size, 0, none⟩) 1 1 [v] :=
  ⟨World.ownsRow_lit w #[v] 1 (Nat.le_refl _) (by unfold maxLen; omega) (by simp), heap_le_alloc _ _, (Below.refl _ _).alloc (Nat.le_refl _) _⟩

theorem implPrintsOf_bad (s : ByteArray) (k : Int) (w : World) (h : k < 1 ∨ (s.size : Int) < k) :
    Calls Try.prog 94 #[.string s, .int .i64 k] w fun e w' => ∃ a n c, e = .returned (.slice a n c) ∧ One w w.heap.size w' 3 1 a n c (intCells []) := by
  by_cases hk : k < 1
  · clear h
    go_enter Try.func94, Try.ntmps94
    go_wp2
    go_ret
    exact ⟨_, _, _, rfl, One.nil _ _ _⟩
  · by_cases hk2 : (s.size : Int) < k
    · clear h
      go_enter Try.func94, Try.ntmps94
      go_wp2
      go_ret
      exact ⟨_, _, _, rfl, One.nil _ _ _⟩
    · omega

set_option maxHeartbeats 2000000 in
theorem implPrintsOf_ok (s : ByteArray) (k : Nat) (w : World) (hs : s.size ≤ 4194304) (h1 : 0 < k) (h2 : k ≤ s.size) :
    Calls Try.prog 94 #[.string s, .int .i64 k] w fun e w' => ∃ a n c, e = .returned (.slice a n c) ∧ One w w.heap.size w' 3 1 a n c (intCells (printsTo s.data.toList k (s.size - k + 1))) := by
  have hp := prN_lt (pieceL s.data.toList k 0)
  obtain ⟨x, hx⟩ : ∃ x, prN (pieceL s.data.toList k 0) = x := ⟨_, rfl⟩
  have HX := Lib.hid (show prN (s.extract 0 k).data.toList = x by rw [extract_first]; exact hx)
  have HX2 := Lib.hid hx
  have HR := Lib.hid (show intCells (printsTo s.data.toList k 1) = [.int .i64 x] by rw [printsK s.data.toList k 0 hx]; rfl)
  have hxs : (s.extract 0 k).size ≤ 4194305 := by simp only [ByteArray.size_extract]; omega
  rw [hx] at hp
  clear hx
  have hpw : pwZ ((k : Int) - 1) = (pwN (k - 1) : Nat) := by
    unfold pwZ; rw [if_neg (by omega)]; congr 2; omega
  have c0 := fun w => implPrintPower_any ((k : Int) - 1) w (by omega) (by omega)
  obtain ⟨t, ht⟩ : ∃ t, pwZ ((k : Int) - 1) = t := ⟨_, rfl⟩
  rw [ht] at c0 hpw
  have HT := Lib.hid hpw
  have HS := Lib.hid (show s.data.toList.length = s.size from rfl)
  clear ht hpw
  go_enter Try.func94, Try.ntmps94
  go_wp2_with fail
  refine (c0 _).mono ?_
  rintro e w1 ⟨rfl, rfl⟩
  go_wp2_with fail
  refine (implPrintOf_is _ _ _ hxs HX.out).mono ?_
  rintro e w1 ⟨rfl, rfl⟩
  go_wp2
  have h3 := One.lit w 3 (.int .i64 x)
  go_loopw [6, 7, 8] (fun n v q_ wr => ∃ i x q : Nat, q ≤ s.size ∧ q_ = .int .i64 q ∧ n = .int .i64 x ∧ x < 1000003 ∧ Hid (q = i + k ∧ prN (pieceL s.data.toList k i) = x) ∧ i ≤ s.size ∧ ∃ a c, v = .slice a (i + 1) c ∧ One w w.heap.size wr 3 1 a (i + 1) c (intCells (printsTo s.data.toList k (q - k + 1))))
    (fun _ _ q_ _ => s.size - (intOf q_).toNat)
  case atStart => exact ⟨0, x, k, h2, rfl, rfl, hp, Lib.hid ⟨by omega, HX2.out⟩, by omega, _, _, rfl, by rw [Nat.sub_self, HR.out]; exact h3⟩
  case round =>
    obtain ⟨i, x, q, hq, rfl, rfl, hx9, HQ, hi, a, c, rfl, hone⟩ := hrel
    by_cases hlt : q < s.size
    · have hqi := HQ.out.1
      have hii : i < s.size := by omega
      have hy : rollN (prN (pieceL s.data.toList k i)) k s[i].toNat s[q].toNat = prN (pieceL s.data.toList k (i + 1)) := pieces_roll s k i q h1 hqi hlt
      rw [HQ.out.2] at hy
      have hy9 := prN_lt (pieceL s.data.toList k (i + 1))
      obtain ⟨y, hyy⟩ : ∃ y, prN (pieceL s.data.toList k (i + 1)) = y := ⟨_, rfl⟩
      rw [hyy] at hy hy9
      have hki : q - k + 1 = i + 1 := by omega
      have hki2 : q + 1 - k = i + 1 := by omega
      rw [hki] at hone
      have HK := Lib.hid (show intCells (printsTo s.data.toList k (q + 1 - k + 1)) = intCells (printsTo s.data.toList k (i + 1)) ++ [.int .i64 y] by rw [hki2]; exact printsK s.data.toList k (i + 1) hyy)
      have HN := Lib.hid (show q + 1 = (i + 1) + k ∧ prN (pieceL s.data.toList k (i + 1)) = y from ⟨by omega, hyy⟩)
      have HY := Lib.hid hy
      have e1 : IntKind.i64.wrap ((q : Int) - (k : Int)) = (i : Int) := by rw [IntWalk.i64_in _ (by omega)]; omega
      have b1 : s[i].toNat ≤ 255 := by have := s[i].toNat_lt; omega
      have b2 : s[q].toNat ≤ 255 := by have := s[q].toNat_lt; omega
      clear hqi hy hyy HQ hki hki2
      go_wp2
      go_quiet ((go_at_call 109; exact Calls.quiet_of_same ((implRolled_ok _ _ _ _ y _ _ HT.out hx9 b1 b2 HY.out).mono (fun _ _ h => ⟨h.1, h.2.symm⟩))))
      go_wp2_with (at_builtin; refine wpList_append_row rfl (.tmp 46) (.tmp 48) 30 rfl Try.ulI3 Try.infoI3 rfl (by decide) (hone.drewN _) rfl #[.int .i64 y] rfl rfl (by simp [Value.oneCell']) (by unfold maxLen; omega) (by omega) ?_; intro a5 c5 w5 h5)
      go_roundw
      case rel => exact ⟨i + 1, y, q + 1, by omega, by go_num, rfl, hy9, HN, by omega, a5, c5, rfl, by rw [HK.out]; exact h5⟩
      case measure => simp [intOf]; omega
    · obtain rfl : q = s.size := by omega
      have HO := Lib.hid hone
      clear hone
      go_wp2
      go_ret
      exact ⟨_, _, _, rfl, HO.out⟩

theorem printsL_bad {s : List UInt8} {k : Int} (h : k < 1 ∨ (s.length : Int) < k) : printsL s k = [] := by unfold printsL; rw [if_pos h]
theorem printsL_ok {s : List UInt8} {k : Nat} (h1 : 0 < k) (h2 : k ≤ s.length) : printsL s (k : Int) = printsTo s k (s.length - k + 1) := by
  unfold printsL; rw [if_neg (by omega), Int.toNat_natCast]

/-- At every number of bytes. -/
theorem implPrintsOf_is (s : ByteArray) (k : Int) (L : List Int) (w : World) (hs : s.size ≤ 4194304) (hL : printsL s.data.toList k = L) :
    Calls Try.prog 94 #[.string s, .int .i64 k] w fun e w' => ∃ a n c, e = .returned (.slice a n c) ∧ One w w.heap.size w' 3 1 a n c (intCells L) := by
  by_cases h : k < 1 ∨ (s.size : Int) < k
  · rw [printsL_bad h] at hL; subst hL; exact implPrintsOf_bad s k w h
  · obtain ⟨j, rfl⟩ : ∃ j : Nat, k = j := ⟨k.toNat, by omega⟩
    have e := printsL_ok (s := s.data.toList) (k := j) (by omega) (show j ≤ s.size by omega)
    rw [e] at hL; subst hL
    exact implPrintsOf_ok s j w hs (by omega) (by omega)
theorem specPrintsOf_is (s : ByteArray) (k : Int) (L : List Int) (w : World) (hs : s.size ≤ 4194304) (hL : printsL s.data.toList k = L) :
    Calls Try.prog 88 #[.string s, .int .i64 k] w fun e w' => ∃ a n c, e = .returned (.slice a n c) ∧ One w w.heap.size w' 3 1 a n c (intCells L) := by
  by_cases h : k < 1 ∨ (s.size : Int) < k
  · rw [printsL_bad h] at hL; subst hL; exact specPrintsOf_bad s k w h
  · obtain ⟨j, rfl⟩ : ∃ j : Nat, k = j := ⟨k.toNat, by omega⟩
    have e := printsL_ok (s := s.data.toList) (k := j) (by omega) (show j ≤ s.size by omega)
    rw [e] at hL; subst hL
    exact specPrintsOf_ok s j w hs (by omega) (by omega)

/-! ### Places of a piece -/
theorem findTo_len (s p : List UInt8) (m : Nat) : (findTo s p m).length ≤ m := by
  induction m with
  | zero => simp [findTo]
  | succ m ih =>
    unfold findTo
    split
    · simp; omega
    · omega

/-- What a walk over the fingerprints of a piece's length knows of them. -/
structure FindKnown (s p : ByteArray) (L : List Int) (n : Nat) : Prop where
  len : L.length ≤ s.size
  fits : ∀ i, i < L.length → i + p.size ≤ s.size
  print : ∀ i, i < L.length → L.getD i 0 = (prN (pieceL s.data.toList p.size i) : Nat)
  all : findTo s.data.toList p.data.toList L.length = findL s.data.toList p.data.toList
  one : n = prN p.data.toList

theorem find_known (s p : ByteArray) (L : List Int) (n : Nat) (hL : printsL s.data.toList (p.size : Int) = L) (hn : prN p.data.toList = n) : FindKnown s p L n := by
  have hsl : s.data.toList.length = s.size := rfl
  have hpl : p.data.toList.length = p.size := rfl
  by_cases h : (p.size : Int) < 1 ∨ (s.size : Int) < (p.size : Int)
  · rw [printsL_bad h] at hL
    subst hL
    refine ⟨by simp, fun i hi => by simp at hi, fun i hi => by simp at hi, ?_, hn.symm⟩
    unfold findL
    rw [if_pos (by omega)]
    rfl
  · have e := printsL_ok (s := s.data.toList) (k := p.size) (by omega) (by omega)
    rw [e] at hL
    subst hL
    refine ⟨by rw [printsTo_len]; omega, fun i hi => by rw [printsTo_len] at hi; omega, fun i hi => ?_, ?_, hn.symm⟩
    · rw [printsTo_len] at hi
      exact printsTo_get _ _ _ _ hi
    · unfold findL
      rw [if_neg (by omega), printsTo_len, hpl]

theorem toListP_inj {a b : ByteArray} (h : a.toList = b.toList) : a = b := by
  rw [ByteArray.toList_eq, ByteArray.toList_eq] at h
  exact ByteArray.ext (Array.toList_inj.1 h)
theorem eqP_no {a b : ByteArray} (h : a ≠ b) : (a.toList == b.toList) = false := by
  rw [Bool.eq_false_iff]
  intro e
  exact h (toListP_inj (by simpa using e))
theorem extract_piece (s : ByteArray) (i k : Nat) : (s.extract i (i + k)).data.toList = pieceL s.data.toList k i := by
  rw [ByteArray.data_extract, Array.toList_extract, List.extract_eq_take_drop, pieceL]
  congr 1
  omega
theorem piece_iff (s p : ByteArray) (i : Nat) : s.extract i (i + p.size) = p ↔ pieceL s.data.toList p.data.toList.length i = p.data.toList := by
  have hpl : p.data.toList.length = p.size := rfl
  rw [hpl, ← extract_piece]
  constructor
  · intro h; rw [h]
  · intro h; exact ByteArray.ext (Array.toList_inj.1 h)

theorem findTo_yes {s p : List UInt8} {i : Nat} (h : pieceL s p.length i = p) : intCells (findTo s p (i + 1)) = intCells (findTo s p i) ++ [.int .i64 i] := by
  rw [findTo, if_pos h, intCells_append]; rfl
theorem findTo_no {s p : List UInt8} {i : Nat} (h : ¬ pieceL s p.length i = p) : findTo s p (i + 1) = findTo s p i := by
  rw [findTo, if_neg h]

theorem cells_int {w : World} {b o : Nat} {L : List Int} (i : Nat) (x : Int) (hx : L.getD i 0 = x) (hi : i < L.length) (hc : ∀ j v, (intCells L)[j]? = some v → w.cell? ⟨b, o + j, none⟩ = some v) : w.cell? ⟨b, o + i, none⟩ = some (.int .i64 x) := by
  refine hc i _ ?_
  subst hx
  simp [intCells, List.getD, List.getElem?_eq_getElem hi]

end Go.Proofs.Ytbnagmjhdnnheaa

namespace Go.Proofs.Ytbnagmjhdnnheaa
open Go.RowKit

/-- Cells of places. -/
def natC (l : List Nat) : List Value := intCells (l.map fun (n : Nat) => (n : Int))
theorem natC_new {L : List Int} {w k : Nat} (h : ¬ (chN L w k).getLast? = some (leastTo L k w)) : natC (chN L w (k + 1)) = natC (chN L w k) ++ [.int .i64 (leastTo L k w)] := by
  rw [chN_new h, natC, List.map_append, intCells_append]; rfl

set_option maxHeartbeats 1000000 in
theorem specLeast_any (L : List Int) (a : Option Addr) (n c f v : Nat) (w : World) (hn : n = L.length) (hl : n ≤ 1099511627776) (hv : 0 < v) (hf : f + v ≤ n) (hat : CellsAt w a (intCells L)) :
    Calls Try.prog 103 #[.slice a n c, .int .i64 f, .int .i64 v] w fun e w' => e = .returned (.int .i64 (leastTo L f v)) ∧ ∃ q, w' = w.drewN q := by
  have hfl : f < L.length := by omega
  obtain ⟨b, o, rfl, _, hc⟩ := hat.spot (fun e => by have := congrArg List.length e; simp [intCells] at this; rw [this] at hfl; simp at hfl)
  have HC := Lib.hid (show ∀ j, j < L.length → w.cell? ⟨b, o + j, none⟩ = some (.int .i64 (L.getD j 0)) from fun j hj => cells_int j _ rfl hj hc)
  have HN := Lib.hid hn
  clear hat hc hn hfl
  go_enter Try.func103, Try.ntmps103
  go_wp2
  go_loopw [7, 8] (fun b_ k_ wr => ∃ m x : Nat, m ≤ v ∧ k_ = .int .i64 ((f + m : Nat) : Int) ∧ b_ = .int .i64 x ∧ x < n ∧ Hid (x = leastTo L f m) ∧ ∃ q, wr = w.drewN q) (fun _ k_ _ => f + v - (intOf k_).toNat)
  case atStart => exact ⟨0, f, Nat.zero_le _, rfl, rfl, by omega, Lib.hid rfl, 0, rfl⟩
  case round =>
    obtain ⟨m, x, hm, rfl, rfl, hx, HX, q, rfl⟩ := hrel
    obtain ⟨k, hk⟩ : ∃ k, f + m = k := ⟨_, rfl⟩
    rw [hk]
    by_cases hlt : m < v
    · have hkn : k < n := by omega
      have hkv : k < f + v := by omega
      have g1 : w.cell? ⟨b, o + k, none⟩ = some (.int .i64 (L.getD k 0)) := HC.out k (by have := HN.out; omega)
      have g2 : w.cell? ⟨b, o + x, none⟩ = some (.int .i64 (L.getD x 0)) := HC.out x (by have := HN.out; omega)
      obtain ⟨y, hy⟩ : ∃ y, L.getD k 0 = y := ⟨_, rfl⟩
      obtain ⟨z, hz⟩ : ∃ z, L.getD x 0 = z := ⟨_, rfl⟩
      rw [hy] at g1
      rw [hz] at g2
      by_cases hyz : y ≤ z
      · have HN2 := Lib.hid (show k = leastTo L f (m + 1) by rw [leastTo, if_pos (by rw [hk, hy, ← HX.out, hz]; exact hyz), hk])
        have HK := Lib.hid hk
        clear hy hz hk
        go_wp2
        go_quiet (fail)
        go_wp2
        go_roundw
        case rel => exact ⟨m + 1, k, by omega, by have := HK.out; go_num, rfl, hkn, HN2, _, rfl⟩
        case measure => simp [intOf]; omega
      · have HN2 := Lib.hid (show x = leastTo L f (m + 1) by rw [leastTo, if_neg (by rw [hk, hy, ← HX.out, hz]; exact hyz)]; exact HX.out)
        have HK := Lib.hid hk
        clear hy hz hk
        go_wp2
        go_quiet (fail)
        go_wp2
        go_roundw
        case rel => exact ⟨m + 1, x, by omega, by have := HK.out; go_num, rfl, hx, HN2, _, rfl⟩
        case measure => simp [intOf]; omega
    · obtain rfl : m = v := by omega
      have hkv : k = f + m := hk.symm
      clear hk
      go_wp2
      go_ret
      exact ⟨ret_i64 (by have := HX.out; omega), q, rfl⟩

set_option maxHeartbeats 2000000 in
theorem specChosen_any (L : List Int) (a : Option Addr) (n c : Nat) (v : Int) (w : World) (hn : n = L.length) (hl : n ≤ 4194304) (hv9 : v ≤ 9223372036854775807) (hat : CellsAt w a (intCells L)) :
    Calls Try.prog 89 #[.slice a n c, .int .i64 v] w fun e w' => ∃ a' n' c', e = .returned (.slice a' n' c') ∧ One w w.heap.size w' 3 1 a' n' c' (natC (chosenN L v)) := by
  by_cases hv : v < 1
  · rw [chosenN_few (.inl hv)]
    go_enter Try.func89, Try.ntmps89
    go_wp2
    go_ret
    exact ⟨_, _, _, rfl, One.empty _ _ _⟩
  obtain ⟨v, rfl⟩ : ∃ u : Nat, v = u := ⟨v.toNat, by omega⟩
  have hv1 : 1 ≤ v := by omega
  have HE := Lib.hid (chosenN_ok (L := L) (w := v) (by omega))
  have HN := Lib.hid hn
  clear hv hn
  go_enter Try.func89, Try.ntmps89
  go_wp2
  go_loopw [5, 6] (fun o_ k_ wr => ∃ k : Nat, k ≤ n + 1 - v ∧ k_ = .int .i64 k ∧ ∃ a' n' c', o_ = .slice a' n' c' ∧ One w w.heap.size wr 3 1 a' n' c' (natC (chN L v k))) (fun _ k_ _ => n + 1 - v - (intOf k_).toNat)
  case atStart => exact ⟨0, Nat.zero_le _, rfl, _, _, _, rfl, One.empty _ _ _⟩
  case round =>
    obtain ⟨k, hk, rfl, a', n', c', rfl, hone⟩ := hrel
    by_cases hlt : k + v ≤ n
    · have hn' : n' ≤ k := by
        have h := hone.own.1
        have h2 := chN_len L v k
        simp only [natC, intCells, List.length_map] at h
        omega
      have c1 := specLeast_any L a n c k v wr HN.out (by omega) (by omega) (by omega) (hat.below hone.below)
      have hx9 := (leastTo_is L k v (by omega)).hi
      obtain ⟨x, hx⟩ : ∃ x, leastTo L k v = x := ⟨_, rfl⟩
      rw [hx] at c1 hx9
      have HX := Lib.hid hx
      clear hx
      go_wp2_with fail
      refine c1.mono ?_
      rintro e w2 ⟨rfl, q, rfl⟩
      have hone2 := hone.drewN q
      obtain ⟨wz, HW⟩ : ∃ wz, Hid (wr.drewN q = wz) := ⟨_, Lib.hid rfl⟩
      rw [HW.out] at hone2 ⊢
      clear hone c1 HW
      by_cases hn0 : n' = 0
      · subst hn0
        have hnil : chN L v k = [] := by
          have h := hone2.own.1
          simp only [natC, intCells, List.length_map] at h
          exact List.length_eq_zero_iff.1 (by omega)
        have HS := Lib.hid (show natC (chN L v (k + 1)) = natC (chN L v k) ++ [.int .i64 x] by rw [natC_new (by rw [hnil]; simp), HX.out])
        clear hnil
        go_wp2_with (at_builtin; refine wpList_append_row rfl (.tmp 37) (.tmp 39) 30 rfl Try.ulI3 Try.infoI3 rfl (by decide) hone2 rfl #[.int .i64 x] rfl rfl (by simp [Value.oneCell']) (by unfold maxLen; omega) (by omega) ?_; intro a5 c5 w5 h5)
        go_roundw
        case rel => exact ⟨k + 1, by omega, by go_num, a5, 1, c5, rfl, by rw [HS.out]; exact h5⟩
        case measure => simp [intOf]; omega
      · obtain ⟨p, rfl⟩ : ∃ p, n' = p + 1 := ⟨n' - 1, by omega⟩
        obtain ⟨m, rfl⟩ : ∃ m, k = m + 1 := ⟨k - 1, by omega⟩
        obtain ⟨g, rfl⟩ := hone2.addr (by omega)
        have hlast := chN_last L v m
        obtain ⟨y, hy⟩ : ∃ y, leastTo L m v = y := ⟨_, rfl⟩
        rw [hy] at hlast
        have hcell : wz.cell? ⟨g, p, none⟩ = some (.int .i64 (y : Int)) := by
          rw [hone2.own.cellAt p (by omega)]
          have h := hone2.own.1
          simp only [natC, intCells, List.length_map] at h
          rw [List.getLast?_eq_getElem?, show (chN L v (m + 1)).length - 1 = p by omega] at hlast
          simp [natC, intCells, hlast]
        have HL := Lib.hid hlast
        have z0 : (0 : Int) ≤ p := by omega
        have z1 : (p : Int) < (p : Int) + 1 := by omega
        clear hy hlast
        by_cases hxy : y = x
        · have t1 : ((y : Int) == (x : Int)) = true := by rw [hxy]; exact beq_self_eq_true _
          have t2 : ((y : Int) != (x : Int)) = false := by rw [bne, t1]; rfl
          have HS := Lib.hid (show natC (chN L v (m + 1 + 1)) = natC (chN L v (m + 1)) by rw [chN_same (by rw [HL.out, hxy, HX.out])])
          clear hxy
          go_wp2
          go_roundw
          case rel => exact ⟨m + 1 + 1, by omega, by go_num, _, p + 1, c', rfl, by rw [HS.out]; exact hone2⟩
          case measure => simp [intOf]; omega
        · have t1 : ((y : Int) == (x : Int)) = false := by simp; omega
          have t2 : ((y : Int) != (x : Int)) = true := by rw [bne, t1]; rfl
          have HS := Lib.hid (show natC (chN L v (m + 1 + 1)) = natC (chN L v (m + 1)) ++ [.int .i64 x] by rw [natC_new (by rw [HL.out, HX.out]; simpa using hxy), HX.out])
          clear hxy
          go_wp2_with (at_builtin; refine wpList_append_row rfl (.tmp 37) (.tmp 39) 30 rfl Try.ulI3 Try.infoI3 rfl (by decide) hone2 rfl #[.int .i64 x] rfl rfl (by simp [Value.oneCell']) (by unfold maxLen; omega) (by omega) ?_; intro a5 c5 w5 h5)
          go_roundw
          case rel => exact ⟨m + 1 + 1, by omega, by go_num, a5, p + 1 + 1, c5, rfl, by rw [HS.out]; exact h5⟩
          case measure => simp [intOf]; omega
    · have hke : k = L.length + 1 - v := by have := HN.out; omega
      have HO := Lib.hid (show One w w.heap.size wr 3 1 a' n' c' (natC (chosenN L v)) by rw [HE.out, ← hke]; exact hone)
      clear hone hke
      go_wp2
      go_ret
      exact ⟨_, _, _, rfl, HO.out⟩


end Go.Proofs.Ytbnagmjhdnnheaa

namespace Go.Proofs.Ytbnagmjhdnnheaa

/-- One mark behind others, if it lies behind the last of them. -/
def stepP (f : Int) (out : List (Int × Int)) (x : Int × Int) : List (Int × Int) := if out = [] ∨ (out.getLastD (0, 0)).2 < x.2 + f then out ++ [(x.1, x.2 + f)] else out

theorem putAfter_pairs (g h : Nat → Int) (f : Nat) (old xs : List Nat) (he : ∀ x ∈ xs, h x = g (f + x)) :
    (xs.map fun x => (h x, (x : Int))).foldl (stepP f) (old.map fun x => (g x, (x : Int))) = (putAfter old (xs.map (f + ·))).map fun x => (g x, (x : Int)) := by
  induction xs generalizing old with
  | nil => rfl
  | cons x xs ih =>
    have hx := he x (by simp)
    have e : stepP f (old.map fun x => (g x, (x : Int))) (h x, (x : Int)) = (if old = [] ∨ old.getLastD 0 < f + x then old ++ [f + x] else old).map fun x => (g x, (x : Int)) := by
      unfold stepP
      by_cases h0 : old = []
      · subst h0; simp [hx]; omega
      · have hl : ((old.map fun x => (g x, (x : Int))).getLastD (0, 0)).2 = ((old.getLastD 0 : Nat) : Int) := by
          rw [List.getLastD_eq_getLast?, List.getLastD_eq_getLast?, List.getLast?_map, List.getLast?_eq_some_getLast h0]
          rfl
        simp only [hl, List.map_eq_nil_iff, h0, false_or]
        by_cases hc : old.getLastD 0 < f + x
        · rw [if_pos (by omega), if_pos hc, List.map_append, hx]
          simp; omega
        · rw [if_neg (by omega), if_neg hc]
    rw [List.map_cons, List.foldl_cons, e, List.map_cons]
    exact ih _ (fun y hy => he y (by simp [hy]))

/-- The marks of a text. -/
def marksL (s : List UInt8) (k w : Int) : List (Int × Int) := (marksAt s k w).map fun x => ((printsL s k).getD x 0, (x : Int))

theorem marksAt_lt (s : List UInt8) (k : Nat) (w : Int) (hk : 0 < k) (x : Nat) (hx : x ∈ marksAt s k w) : x + k ≤ s.length := by
  have h := chosenN_lt _ _ _ hx
  rw [printsN_len s k hk] at h
  omega

/-- Marks grow with the text. -/
theorem marksL_after (s t : List UInt8) (k w f : Nat) (hk : 0 < k) (hw : 0 < w) (hf : f = s.length + 1 - (k + w - 1)) :
    (marksL ((s ++ t).drop f) k w).foldl (stepP f) (marksL s k w) = marksL (s ++ t) k w ∧ ∃ r, marksL (s ++ t) k w = marksL s k w ++ r := by
  obtain ⟨h1, r, h2⟩ := marksAt_after s t k w f hk hw hf
  have eold : marksL s k w = (marksAt s k w).map fun x => ((printsL (s ++ t) k).getD x 0, (x : Int)) := by
    refine List.map_congr_left fun x hx => ?_
    have := marksAt_lt s k w hk x hx
    rw [printsN_get _ _ _ hk this, printsN_get _ _ _ hk (by rw [List.length_append]; omega), pieceL_append _ _ _ _ this]
  constructor
  · rw [eold]
    unfold marksL
    rw [putAfter_pairs, h1]
    intro x hx
    have := marksAt_lt _ k w hk x hx
    rw [List.length_drop] at this
    rw [printsN_get _ _ _ hk (by rw [List.length_drop]; omega), printsN_get _ _ _ hk (by omega), pieceL_drop]
  · refine ⟨r.map fun x => ((printsL (s ++ t) k).getD x 0, (x : Int)), ?_⟩
    rw [eold]
    unfold marksL
    rw [h2, List.map_append]

theorem marksL_bounds (s : List UInt8) (k w : Int) (x : Int × Int) (hx : x ∈ marksL s k w) : 0 ≤ x.2 ∧ x.2 ≤ s.length := by
  obtain ⟨n, hn, rfl⟩ := List.mem_map.1 hx
  have h1 := chosenN_lt _ _ _ hn
  have h2 := printsN_room s k
  show 0 ≤ (n : Int) ∧ (n : Int) ≤ _
  omega

theorem stepP_len (f : Int) (out : List (Int × Int)) (x : Int × Int) : (stepP f out x).length ≤ out.length + 1 := by
  unfold stepP; split
  · simp
  · omega
theorem foldP_next (f : Int) (old fresh : List (Int × Int)) (i : Nat) (hi : i < fresh.length) : (fresh.take (i + 1)).foldl (stepP f) old = stepP f ((fresh.take i).foldl (stepP f) old) fresh[i] := by
  rw [List.take_succ_eq_append_getElem hi, List.foldl_append]; rfl
theorem foldP_len (f : Int) (old fresh : List (Int × Int)) (i : Nat) (hi : i ≤ fresh.length) : ((fresh.take i).foldl (stepP f) old).length ≤ old.length + i := by
  induction i with
  | zero => simp
  | succ i ih =>
    rw [foldP_next f old fresh i (by omega)]
    have h1 := ih (by omega)
    have h2 := stepP_len f ((fresh.take i).foldl (stepP f) old) fresh[i]
    omega

end Go.Proofs.Ytbnagmjhdnnheaa

namespace Go.Proofs.Ytbnagmjhdnnheaa
open Go.RowKit

/-- The cells of a record of two numbers, and of a row of them. -/
def pairC (x : Int × Int) : List Value := [.int .i64 x.1, .int .i64 x.2]
def pairsC (l : List (Int × Int)) : List Value := l.flatMap pairC
theorem pairC_len (x : Int × Int) : (pairC x).length = 2 := rfl
theorem pairsC_len (l : List (Int × Int)) : (pairsC l).length = l.length * 2 := flat_len pairC 2 pairC_len l
theorem pairsC_append (l m : List (Int × Int)) : pairsC (l ++ m) = pairsC l ++ pairsC m := by simp [pairsC]
theorem pairsC_one (l : List (Int × Int)) : ∀ u ∈ pairsC l, u.oneCell' = true := by
  intro u hu
  simp only [pairsC, List.mem_flatMap, pairC] at hu
  obtain ⟨x, _, hx⟩ := hu
  simp only [List.mem_cons, List.not_mem_nil, or_false] at hx
  rcases hx with rfl | rfl <;> simp [Value.oneCell']
theorem CellsAt.pair {w : World} {a : Option Addr} {l : List (Int × Int)} (h : CellsAt w a (pairsC l)) (hne : l ≠ []) : ∃ b o, a = some ⟨b, o, none⟩ ∧ b < w.heap.size ∧
    ∀ k (hk : k < l.length), w.cell? ⟨b, o + k * 2, none⟩ = some (.int .i64 l[k].1) ∧ w.cell? ⟨b, o + k * 2 + 1, none⟩ = some (.int .i64 l[k].2) := by
  obtain ⟨b, o, ha, hb, hc⟩ := h.spot (fun e => by have := congrArg List.length e; rw [pairsC_len] at this; simp at this; exact hne (List.length_eq_zero_iff.1 (by omega)))
  refine ⟨b, o, ha, hb, fun k hk => ⟨?_, ?_⟩⟩
  · have := hc (k * 2 + 0) (.int .i64 l[k].1) (by rw [pairsC, flat_get pairC 2 pairC_len l k 0 hk (by omega)]; rfl)
    simpa using this
  · have := hc (k * 2 + 1) (.int .i64 l[k].2) (by rw [pairsC, flat_get pairC 2 pairC_len l k 1 hk (by omega)]; rfl)
    rwa [← Nat.add_assoc] at this
theorem pairs_len {w : World} {B : Nat} {e : TypeId} {a : Option Addr} {n c : Nat} {l : List (Int × Int)} (h : w.ownsRow B e 2 (.slice a n c) n (pairsC l)) : n = l.length := by
  have := h.1
  rw [pairsC_len] at this; omega

end Go.Proofs.Ytbnagmjhdnnheaa

namespace Go.Proofs.Ytbnagmjhdnnheaa
open Go.RowKit

theorem Try.ulM4 : Try.prog.underlying 39 = some (.slice 74) := by kernel_rfl
theorem Try.infoM4 : (Try.prog.info? 74).map (fun i => (i.zero, i.size, i.bytes)) = some (some (.agg #[.int .i64 0, .int .i64 0]), 2, 16) := by kernel_rfl

theorem cellsAt_lit (w : World) (e : TypeId) (cs : Array Value) (g : Nat) (hg : g = w.heap.size) : CellsAt (w.alloc (.cells cs e)) (some ⟨g, 0, none⟩) cs.toList := by
  subst hg
  refine ⟨fun _ => ⟨w.heap.size, 0, rfl, by simp, fun j u hj => ?_⟩⟩
  rw [cell_of_row _ w.heap.size (0 + j) _ e (0, 0) (heap_alloc_new w _)]
  simpa using hj

theorem natC_len (l : List Nat) : (natC l).length = l.length := by simp [natC, intCells]
theorem natC_get (l : List Nat) (i : Nat) (hi : i < l.length) : (natC l)[i]? = some (.int .i64 (l[i] : Nat)) := by simp [natC, intCells, hi]
theorem intC_get (l : List Int) (i : Nat) (x : Int) (hi : i < l.length) (hx : l.getD i 0 = x) : (intCells l)[i]? = some (.int .i64 x) := by
  subst hx; simp [intCells, List.getD, hi]
theorem pairs_take {l : List (Int × Int)} {i : Nat} {p x : Int} (hi : i < l.length) (h : l[i] = (p, x)) : pairsC (l.take (i + 1)) = pairsC (l.take i) ++ [.int .i64 p, .int .i64 x] := by
  rw [List.take_succ_eq_append_getElem hi, pairsC_append, h]; rfl

set_option maxHeartbeats 4000000 in
theorem specMarks_any (s : ByteArray) (k v : Int) (M : List (Int × Int)) (w : World) (hM : marksL s.data.toList k v = M) (hs : s.size ≤ 4194304) (hv9 : v ≤ 9223372036854775807) :
    Calls Try.prog 64 #[.string s, .int .i64 k, .int .i64 v] w fun e w' => ∃ a n c, e = .returned (.slice a n c) ∧ One w w.heap.size w' 74 2 a n c (pairsC M) := by
  obtain ⟨P, hP⟩ : ∃ P, printsL s.data.toList k = P := ⟨_, rfl⟩
  have hPl : P.length ≤ 4194304 := by
    have h := printsN_room s.data.toList k
    rw [hP] at h
    have : s.data.toList.length = s.size := rfl
    omega
  obtain ⟨C, hC⟩ : ∃ C, chosenN P v = C := ⟨_, rfl⟩
  have hCl : C.length ≤ P.length := by rw [← hC]; exact chosenN_len P v
  have HCx := Lib.hid (show ∀ i (h : i < C.length), C[i] < P.length from fun i h => by subst hC; exact chosenN_lt P v _ (List.getElem_mem h))
  have hML : M = C.map fun x => (P.getD x 0, (x : Int)) := by rw [← hM, marksL, marksAt, hP, hC]
  have HM := Lib.hid hML
  have hMl : M.length = C.length := by rw [hML, List.length_map]
  have HMl := Lib.hid hMl
  have c1 := fun w => specPrintsOf_is s k P w hs hP
  have HCe := Lib.hid hC
  have HPl := Lib.hid hPl
  have HCl := Lib.hid hCl
  clear hM hML hMl hC hP hPl hCl
  go_enter Try.func64, Try.ntmps64
  go_wp2_with fail
  refine (c1 _).mono ?_
  rintro e w2 ⟨la, ln, lc, rfl, h2⟩
  have hln : ln = P.length := by have h := h2.own.1; simp only [intCells, List.length_map] at h; omega
  have HLN := Lib.hid hln
  have hln9 : ln ≤ 4194304 := by have := HPl.out; omega
  clear hln
  go_wp2_with fail
  refine (specChosen_any P la ln lc v w2 HLN.out hln9 hv9 (cellsAt_own h2.own)).mono ?_
  rintro e w3 ⟨ca, cn, cc, rfl, h3⟩
  rw [HCe.out] at h3
  have hcn : cn = C.length := by have h := h3.own.1; rw [natC_len] at h; omega
  have HCN := Lib.hid hcn
  have hcn9 : cn ≤ 4194304 := by have := HCl.out; have := HPl.out; omega
  have hone0 : One w w.heap.size w3 74 2 (some ⟨w.heap.size, 0, none⟩) 0 0 (pairsC (M.take 0)) := ((One.empty w 74 2).later h2.below).later h3.below
  have hl0 : w3.ownsRow w.heap.size 3 1 (.slice la ln lc) ln (intCells P) := own_under (ownsRow_below h2.own h3.below) (by simp)
  have hc0 : w3.ownsRow w.heap.size 3 1 (.slice ca cn cc) cn (natC C) := own_under h3.own (by have := h2.base; simp at this; omega)
  clear h2 h3 hcn c1
  go_wp2
  go_loopw [7, 10] (fun o_ i_ wr => ∃ i : Nat, i ≤ cn ∧ i_ = .int .i64 i ∧ ∃ a c, o_ = .slice a i c ∧ One w w.heap.size wr 74 2 a i c (pairsC (M.take i)) ∧ wr.ownsRow w.heap.size 3 1 (.slice la ln lc) ln (intCells P) ∧ wr.ownsRow w.heap.size 3 1 (.slice ca cn cc) cn (natC C)) (fun _ i_ _ => cn - (intOf i_).toNat)
  case atStart => exact ⟨0, Nat.zero_le _, rfl, _, _, rfl, hone0, hl0, hc0⟩
  case round =>
    clear hone0 hl0 hc0
    obtain ⟨i, hi, rfl, a, c, rfl, hone, hlr, hcr⟩ := hrel
    by_cases hlt : i < cn
    · have hic : i < C.length := by have := HCN.out; omega
      have hx := HCx.out i hic
      have hcg := natC_get C i hic
      have hmi : M[i]'(by rw [HMl.out]; exact hic) = (P.getD C[i] 0, (C[i] : Int)) := by simp [HM.out]
      obtain ⟨x, hxe⟩ : ∃ x, C[i] = x := ⟨_, rfl⟩
      rw [hxe] at hx hcg hmi
      obtain ⟨p, hp⟩ : ∃ p, P.getD x 0 = p := ⟨_, rfl⟩
      rw [hp] at hmi
      have hlg := intC_get P x p hx hp
      have hxl : x < ln := by have := HLN.out; omega
      obtain ⟨lg, rfl⟩ := own_addr hlr (by omega)
      obtain ⟨cg, rfl⟩ := own_addr hcr (by omega)
      have k1 : wr.cell? ⟨cg, i, none⟩ = some (.int .i64 (x : Int)) := by rw [hcr.cellAt i (by omega)]; exact hcg
      have k2 : wr.cell? ⟨lg, x, none⟩ = some (.int .i64 p) := by rw [hlr.cellAt x (by omega)]; exact hlg
      have hb1 : cg < wr.heap.size := (hcr.lt cg rfl).2
      have hb2 : lg < wr.heap.size := (hlr.lt lg rfl).2
      have HS := Lib.hid (pairs_take (by rw [HMl.out]; exact hic) hmi)
      have HK := Lib.hid (show ∀ w0 w', Below wr.heap.size wr w0 → w0.grownBy w' (Value.ownBlock (.slice a i c)) →
          (w'.cell? ⟨cg, i, none⟩ = some (.int .i64 (x : Int)) ∧ w'.cell? ⟨lg, x, none⟩ = some (.int .i64 p)) ∧ w'.ownsRow w.heap.size 3 1 (.slice (some ⟨lg, 0, none⟩) ln lc) ln (intCells P) ∧ w'.ownsRow w.heap.size 3 1 (.slice (some ⟨cg, 0, none⟩) cn cc) cn (natC C) from fun w0 w' hb hg => by
        have q1 := ownsRow_kept_apart (ownsRow_below hlr hb) (ownsRow_below hone.own hb) (by decide) hg
        have q2 := ownsRow_kept_apart (ownsRow_below hcr hb) (ownsRow_below hone.own hb) (by decide) hg
        exact ⟨⟨by rw [q2.cellAt i (by omega)]; exact hcg, by rw [q1.cellAt x (by omega)]; exact hlg⟩, q1, q2⟩)
      have z1 : (0 : Int) ≤ (x : Int) := by omega
      have z2 : (x : Int) < (ln : Int) := by omega
      have z3 : (i : Int) < (cn : Int) := by omega
      clear hlr hcr hcg hmi hlg hxe hp hx
      go_wp2
      go_region_held3 (fun w' => w'.cell? ⟨cg, i, none⟩ = some (.int .i64 (x : Int)) ∧ w'.cell? ⟨lg, x, none⟩ = some (.int .i64 p)) (first | go_keep | exact (HK.out _ _ (by repeat (first | exact Below.refl _ _ | exact below_drewN' (Below.refl _ _) _ | refine Below.drew ?_ | refine Below.alloc ?_ (by first | exact Nat.le_refl _ | simp) _)) g3).1)
        ((refine step_append_to w w.heap.size a i c (pairsC (M.take i)) (some ⟨wr.heap.size, 0, none⟩) 1 1 [.int .i64 p, .int .i64 (x : Int)] (i + 1) (pairsC (M.take (i + 1))) (by rfl) (by exact HS.out.symm) (by rfl) (.tmp 24) (.tmp 37) 39 (by rfl) (by rfl) (by rfl) Try.ulM4 Try.infoM4 rfl (by decide) (by rfl) (by simp [Value.oneCell']) (by unfold maxLen; omega) (by omega) (by repeat (first | exact hone | refine One.drew ?_ | exact One.drewN hone _ | refine One.alloc ?_ _)) (by repeat (first | exact cellsAt_lit _ _ _ _ rfl | refine CellsAt.drewW ?_)) ?_; intro a3 c3 w3 h3 g3))
      go_wp2
      go_roundw
      case rel =>
        have q := HK.out _ _ (by repeat (first | exact Below.refl _ _ | exact below_drewN' (Below.refl _ _) _ | refine Below.drew ?_ | refine Below.alloc ?_ (by first | exact Nat.le_refl _ | simp) _)) g3
        exact ⟨i + 1, by omega, by go_num, a3, c3, rfl, h3, q.2.1, q.2.2⟩
      case measure => simp [intOf]; omega
    · have hie : i = M.length := by have := HMl.out; have := HCN.out; omega
      have HO := Lib.hid (show One w w.heap.size wr 74 2 a i c (pairsC M) by
        have h := hone
        rw [List.take_of_length_le (by omega)] at h
        exact h)
      clear hone hlr hcr hie
      go_wp2
      go_ret
      exact ⟨_, _, _, rfl, HO.out⟩

end Go.Proofs.Ytbnagmjhdnnheaa

namespace Go.Proofs.Ytbnagmjhdnnheaa

/-- The twins of one mark, and of all. -/
def rowT (x : Int × Int) (B : List (Int × Int)) : List (Int × Int) := (B.filter fun y => x.1 == y.1).map fun y => (x.2, y.2)
def twinsL (A B : List (Int × Int)) : List (Int × Int) := A.flatMap fun x => rowT x B

theorem rowT_len (x : Int × Int) (B : List (Int × Int)) : (rowT x B).length ≤ B.length := by
  rw [rowT, List.length_map]; exact List.length_filter_le _ _
theorem twinsL_len (A B : List (Int × Int)) (m : Nat) (hm : B.length ≤ m) : (twinsL A B).length ≤ A.length * m := by
  induction A with
  | nil => simp [twinsL]
  | cons x A ih =>
    have h := rowT_len x B
    simp only [twinsL, List.flatMap_cons, List.length_append, List.length_cons, Nat.add_mul] at ih ⊢
    omega
theorem twinsL_next (A B : List (Int × Int)) (i : Nat) (hi : i < A.length) : twinsL (A.take (i + 1)) B = twinsL (A.take i) B ++ rowT A[i] B := by
  rw [List.take_succ_eq_append_getElem hi, twinsL, List.flatMap_append]; simp [twinsL]
theorem rowT_yes (x : Int × Int) (B : List (Int × Int)) (k : Nat) (hk : k < B.length) (h : x.1 = B[k].1) : rowT x (B.take (k + 1)) = rowT x (B.take k) ++ [(x.2, B[k].2)] := by
  rw [List.take_succ_eq_append_getElem hk, rowT, rowT, List.filter_append, List.map_append]; simp [h]
theorem rowT_no (x : Int × Int) (B : List (Int × Int)) (k : Nat) (hk : k < B.length) (h : ¬ x.1 = B[k].1) : rowT x (B.take (k + 1)) = rowT x (B.take k) := by
  rw [List.take_succ_eq_append_getElem hk, rowT, rowT, List.filter_append, List.map_append]; simp [h]

end Go.Proofs.Ytbnagmjhdnnheaa

namespace Go.Proofs.Ytbnagmjhdnnheaa
open Go.RowKit

theorem Try.ulT4 : Try.prog.underlying 82 = some (.slice 86) := by kernel_rfl
theorem Try.infoT4 : (Try.prog.info? 86).map (fun i => (i.zero, i.size, i.bytes)) = some (some (.agg #[.int .i64 0, .int .i64 0]), 2, 16) := by kernel_rfl

set_option maxHeartbeats 4000000 in
theorem specTwins_any (A B : List (Int × Int)) (a : Option Addr) (n c : Nat) (b : Option Addr) (m d : Nat) (w : World) (hn : n = A.length) (hm : m = B.length) (hn9 : n ≤ 1048576) (hm9 : m ≤ 1048576) (hA : CellsAt w a (pairsC A)) (hB : CellsAt w b (pairsC B)) :
    Calls Try.prog 63 #[.slice a n c, .slice b m d] w fun e w' => ∃ a' n' c', e = .returned (.slice a' n' c') ∧ One w w.heap.size w' 86 2 a' n' c' (pairsC (twinsL A B)) := by
  have HN := Lib.hid hn
  have HM := Lib.hid hm
  clear hn hm
  go_enter Try.func63, Try.ntmps63
  go_wp2
  go_loopw [5, 6] (fun o_ i_ wr => ∃ i : Nat, i ≤ n ∧ i_ = .int .i64 i ∧ ∃ a' n' c', o_ = .slice a' n' c' ∧ n' ≤ i * 1048576 ∧ One w w.heap.size wr 86 2 a' n' c' (pairsC (twinsL (A.take i) B))) (fun _ i_ _ => n - (intOf i_).toNat)
  case atStart => exact ⟨0, Nat.zero_le _, rfl, _, 0, _, rfl, by omega, One.empty _ _ _⟩
  case round =>
    obtain ⟨i, hi, rfl, a1, n1, c1, rfl, hn1, hone⟩ := hrel
    by_cases hlt : i < n
    · have hiA : i < A.length := by have := HN.out; omega
      obtain ⟨ab, ao, rfl, hab, hac⟩ := hA.pair (fun e => by rw [e] at hiA; simp at hiA)
      have hai := hac i hiA
      obtain ⟨p, hp⟩ : ∃ p, A[i].1 = p := ⟨_, rfl⟩
      obtain ⟨x, hx⟩ : ∃ x, A[i].2 = x := ⟨_, rfl⟩
      rw [hp, hx] at hai
      have HA := Lib.hid (show ∀ w', Below w.heap.size w w' → w'.cell? ⟨ab, ao + i * 2, none⟩ = some (.int .i64 p) ∧ w'.cell? ⟨ab, ao + i * 2 + 1, none⟩ = some (.int .i64 x) from fun w' h => ⟨(h.cell (p := ⟨ab, ao + i * 2, none⟩) hab).trans hai.1, (h.cell (p := ⟨ab, ao + i * 2 + 1, none⟩) hab).trans hai.2⟩)
      have HE := Lib.hid (show A[i] = (p, x) by rw [← hp, ← hx])
      have H0 := Lib.hid (show One w w.heap.size wr 86 2 a1 n1 c1 (pairsC (twinsL (A.take i) B ++ rowT (p, x) (B.take 0))) by simpa [rowT] using hone)
      clear hac hai hp hx hone
      go_wp2
      go_loopw [5, 7] (fun o_ k_ wr => ∃ k : Nat, k ≤ m ∧ k_ = .int .i64 k ∧ ∃ a' n' c', o_ = .slice a' n' c' ∧ n' ≤ i * 1048576 + k ∧ One w w.heap.size wr 86 2 a' n' c' (pairsC (twinsL (A.take i) B ++ rowT (p, x) (B.take k)))) (fun _ k_ _ => m - (intOf k_).toNat)
      case atStart => exact ⟨0, Nat.zero_le _, rfl, _, _, _, rfl, Nat.le_trans hn1 (Nat.le_add_right _ _), H0.out⟩
      case round =>
        clear H0
        obtain ⟨k, hk, rfl, a2, n2, c2, rfl, hn2, hone⟩ := hrel
        by_cases hlk : k < m
        · have hkB : k < B.length := by have := HM.out; omega
          obtain ⟨bb, bo, rfl, hbb, hbc⟩ := hB.pair (fun e => by rw [e] at hkB; simp at hkB)
          have hbk := hbc k hkB
          obtain ⟨q, hq⟩ : ∃ q, B[k].1 = q := ⟨_, rfl⟩
          obtain ⟨y, hy⟩ : ∃ y, B[k].2 = y := ⟨_, rfl⟩
          have hyes := rowT_yes (p, x) B k hkB
          have hno := rowT_no (p, x) B k hkB
          rw [hq, hy] at hbk
          rw [hq] at hyes hno
          rw [hy] at hyes
          have HB := Lib.hid (show ∀ w', Below w.heap.size w w' → w'.cell? ⟨bb, bo + k * 2, none⟩ = some (.int .i64 q) ∧ w'.cell? ⟨bb, bo + k * 2 + 1, none⟩ = some (.int .i64 y) from fun w' h => ⟨(h.cell (p := ⟨bb, bo + k * 2, none⟩) hbb).trans hbk.1, (h.cell (p := ⟨bb, bo + k * 2 + 1, none⟩) hbb).trans hbk.2⟩)
          obtain ⟨r1, r2⟩ := HA.out _ hone.below
          obtain ⟨r3, r4⟩ := HB.out _ hone.below
          clear hbc hbk hq hy
          by_cases hpq : p = q
          · have t1 : (p == q) = true := by rw [hpq]; exact beq_self_eq_true _
            have HS := Lib.hid (show pairsC (twinsL (A.take i) B ++ rowT (p, x) (B.take (k + 1))) = pairsC (twinsL (A.take i) B ++ rowT (p, x) (B.take k)) ++ [.int .i64 x, .int .i64 y] by rw [hyes hpq, ← List.append_assoc, pairsC_append]; rfl)
            clear hpq hyes hno
            go_wp2
            go_quiet (fail)
            go_wp2
            go_region_held3 (fun w' => w'.cell? ⟨ab, ao + i * 2 + 1, none⟩ = some (.int .i64 x) ∧ w'.cell? ⟨bb, bo + k * 2 + 1, none⟩ = some (.int .i64 y)) (first | go_keep | exact ⟨(HA.out _ h3.below).2, (HB.out _ h3.below).2⟩)
              ((refine step_append_to w w.heap.size a2 n2 c2 (pairsC (twinsL (A.take i) B ++ rowT (p, x) (B.take k))) (some ⟨wr.heap.size, 0, none⟩) 1 1 [.int .i64 x, .int .i64 y] (n2 + 1) (pairsC (twinsL (A.take i) B ++ rowT (p, x) (B.take (k + 1)))) (by rfl) (by exact HS.out.symm) (by rfl) (.tmp 32) (.tmp 44) 82 (by rfl) (by rfl) (by rfl) Try.ulT4 Try.infoT4 rfl (by decide) (by rfl) (by simp [Value.oneCell']) (by unfold maxLen; omega) (by omega) (by repeat (first | exact hone | refine One.drew ?_ | exact One.drewN hone _ | refine One.alloc ?_ _)) (by repeat (first | exact cellsAt_lit _ _ _ _ rfl | refine CellsAt.drewW ?_)) ?_; intro a3 c3 w3 h3 g3))
            go_wp2
            go_roundw
            case rel => exact ⟨k + 1, by omega, by go_num, a3, n2 + 1, c3, rfl, by omega, h3⟩
            case measure => simp [intOf]; omega
          · have t1 : (p == q) = false := by simpa using hpq
            have HS := Lib.hid (show pairsC (twinsL (A.take i) B ++ rowT (p, x) (B.take (k + 1))) = pairsC (twinsL (A.take i) B ++ rowT (p, x) (B.take k)) by rw [hno hpq])
            clear hpq hyes hno
            go_wp2
            go_quiet (fail)
            go_wp2
            go_roundw
            case rel => exact ⟨k + 1, by omega, by go_num, a2, n2, c2, rfl, by omega, by rw [HS.out]; exact hone.drewN _⟩
            case measure => simp [intOf]; omega
        · have HO := Lib.hid (show One w w.heap.size wr 86 2 a2 n2 c2 (pairsC (twinsL (A.take (i + 1)) B)) by
            rw [twinsL_next A B i hiA, HE.out]
            rw [show B.take k = B from List.take_of_length_le (by have := HM.out; omega)] at hone
            exact hone)
          clear hone
          go_wp2
          go_roundw
          case rel => exact ⟨i + 1, by omega, by go_num, a2, n2, c2, rfl, by omega, HO.out⟩
          case measure => simp [intOf]; omega
    · have HO := Lib.hid (show One w w.heap.size wr 86 2 a1 n1 c1 (pairsC (twinsL A B)) by
        rw [show A.take i = A from List.take_of_length_le (by have := HN.out; omega)] at hone
        exact hone)
      clear hone
      go_wp2
      go_ret
      exact ⟨_, _, _, rfl, HO.out⟩

end Go.Proofs.Ytbnagmjhdnnheaa

namespace Go.Proofs.Ytbnagmjhdnnheaa
open Go.RowKit

/-- A block that the call itself made, beside a row that grows. -/
structure Side (w : World) (B : Nat) (v : Value) (e : TypeId) (b : Nat) (xs : List Value) : Prop where
  at_ : w.heap[b]? = some (.cells xs.toArray e (0, 0))
  base : B ≤ b
  apart : v.ownBlock ≠ some b
theorem Side.lt {w : World} {B : Nat} {v : Value} {e : TypeId} {b : Nat} {xs : List Value} (h : Side w B v e b xs) : b < w.heap.size := (Array.getElem?_eq_some_iff.1 h.at_).1
theorem Side.later {w w' : World} {B : Nat} {v : Value} {e : TypeId} {b : Nat} {xs : List Value} (h : Side w B v e b xs) (hb : Below w.heap.size w w') : Side w' B v e b xs := ⟨(hb.block b h.lt).trans h.at_, h.base, h.apart⟩
theorem Side.drewN {w : World} {B : Nat} {v : Value} {e : TypeId} {b : Nat} {xs : List Value} (h : Side w B v e b xs) (q : Nat) : Side (w.drewN q) B v e b xs := ⟨h.at_, h.base, h.apart⟩
theorem Side.grow {w w' : World} {B : Nat} {v v' : Value} {e : TypeId} {b : Nat} {xs : List Value} (h : Side w B v e b xs) (hg : w.grownBy w' v.ownBlock) (hs : Spared w v v') : Side w' B v' e b xs :=
  ⟨(hg.block b h.lt (fun e => h.apart e.symm)).trans h.at_, h.base, hs b h.lt h.apart⟩
theorem Side.cell {w : World} {B : Nat} {v : Value} {e : TypeId} {b : Nat} {xs : List Value} (h : Side w B v e b xs) (j : Nat) (u : Value) (hj : xs[j]? = some u) : w.cell? ⟨b, j, none⟩ = some u := by
  rw [cell_of_row w b j _ e (0, 0) h.at_]
  simpa using hj
theorem Side.frozen {w : World} {B : Nat} {v : Value} {e : TypeId} {b : Nat} {xs : List Value} (h : Side w B v e b xs) (j : Nat) : w.frozen? ⟨b, j, none⟩ = false := by simp [World.frozen?, h.at_]
theorem Side.fresh {w : World} {B : Nat} {v : Value} (e : TypeId) (xs : List Value) (hB : B ≤ w.heap.size) (hv : ∀ k, v.ownBlock = some k → k < w.heap.size) : Side (w.alloc (.cells xs.toArray e)) B v e w.heap.size xs :=
  ⟨heap_alloc_new w _, hB, fun h => Nat.lt_irrefl _ (hv _ h)⟩
theorem Side.set_self {w : World} {B : Nat} {v : Value} {e : TypeId} {b : Nat} {xs : List Value} (h : Side w B v e b xs) (j : Nat) (u : Value) : Side (w.setCell ⟨b, j, none⟩ u) B v e b (xs.set j u) := by
  refine ⟨?_, h.base, h.apart⟩
  simp only [World.setCell, Array.getElem?_modify, h.at_, if_true, Option.map_some]
  simp
theorem Side.set_other {w : World} {B : Nat} {v : Value} {e : TypeId} {b : Nat} {xs : List Value} (h : Side w B v e b xs) {g : Nat} (hg : b ≠ g) (j : Nat) (u : Value) : Side (w.setCell ⟨g, j, none⟩ u) B v e b xs :=
  ⟨(Below.heap_setCell _ _ _ _ hg).trans h.at_, h.base, h.apart⟩
/-- The row stays while such a block is written. -/
theorem One.beside {W : World} {B : Nat} {w : World} {e : TypeId} {s : Nat} {a : Option Addr} {n c : Nat} {xs : List Value} (h : One W B w e s a n c xs) {g : Nat} (hB : B ≤ g) (hg : (Value.slice a n c).ownBlock ≠ some g) (j : Nat) (u : Value) : One W B (w.setCell ⟨g, j, none⟩ u) e s a n c xs := by
  have hG : w.grownBy (w.setCell ⟨g, j, none⟩ u) (some g) := ⟨rfl, rfl, rfl, by simp [World.setCell], fun k _ hk => Below.heap_setCell _ _ _ _ (fun e => hk (by simp [e]))⟩
  exact ⟨h.own.kept hG (.inr hg), Nat.le_trans h.base hG.size, h.below.grown hG h.base (fun k hk => by injection hk with hk; omega)⟩
theorem One.block_lt {W : World} {B : Nat} {w : World} {e : TypeId} {s : Nat} {a : Option Addr} {n c : Nat} {xs : List Value} (h : One W B w e s a n c xs) : ∀ k, (Value.slice a n c).ownBlock = some k → k < w.heap.size := fun k hk => (h.own.lt k hk).2
/-- Such a block as a row of records. -/
theorem Side.row {W w : World} {B : Nat} {v : Value} {e : TypeId} {b : Nat} {xs : List Value} (h : Side w B v e b xs) {s n : Nat} (hn : xs.length = n * s) (h63 : n ≤ maxLen) (hB : B ≤ w.heap.size) (hb : Below B W w) : One W B w e s (some ⟨b, 0, none⟩) n n xs :=
  ⟨⟨hn, .inr ⟨b, n, xs.toArray, rfl, h.base, h.at_, Nat.le_refl _, h63, by simpa using hn, by rw [← hn]; simp⟩⟩, hB, hb⟩

end Go.Proofs.Ytbnagmjhdnnheaa

namespace Go.Proofs.Ytbnagmjhdnnheaa

/-- An entry: fingerprint, text, place. -/
abbrev En := Int × Int × Int

/-- Ahead of another one. -/
def enLt (x y : En) : Prop := x.1 < y.1 ∨ x.1 = y.1 ∧ (x.2.1 < y.2.1 ∨ x.2.1 = y.2.1 ∧ x.2.2 < y.2.2)
instance (x y : En) : Decidable (enLt x y) := by unfold enLt; infer_instance
theorem enLt_irrefl (x : En) : ¬ enLt x x := by unfold enLt; omega
theorem enLt_trans {x y z : En} (h : enLt x y) (k : enLt y z) : enLt x z := by unfold enLt at *; omega
theorem enLt_asymm {x y : En} (h : enLt x y) : ¬ enLt y x := by unfold enLt at *; omega
theorem enLt_three (x y : En) : enLt x y ∨ x = y ∨ enLt y x := by
  obtain ⟨a, b, c⟩ := x
  obtain ⟨d, e, f⟩ := y
  simp only [enLt, Prod.mk.injEq]
  omega

/-- What an entry of a shelf keeps. -/
def enOk (x : En) : Prop := 0 ≤ x.1 ∧ x.1 < 1000003 ∧ 0 ≤ x.2.1 ∧ 0 ≤ x.2.2
instance (x : En) : Decidable (enOk x) := by unfold enOk; infer_instance

/-- Entries are a shelf. -/
def shOk (l : List En) : Prop := (∀ x ∈ l, enOk x) ∧ l.Pairwise enLt

/-- The first entries are a shelf, told one by one. -/
def okTo (l : List En) (k : Nat) : Prop := ∀ i, i < k → ∀ h : i < l.length, enOk l[i] ∧ (0 < i → enLt (l[i - 1]'(by omega)) l[i])
theorem okTo_zero (l : List En) : okTo l 0 := fun i h => absurd h (by omega)
theorem okTo_next {l : List En} {k : Nat} (h : okTo l k) (hk : k < l.length) (h1 : enOk l[k]) (h2 : 0 < k → enLt (l[k - 1]'(by omega)) l[k]) : okTo l (k + 1) := fun i hi hl => by
  by_cases e : i = k
  · subst e; exact ⟨h1, h2⟩
  · exact h i (by omega) hl
theorem okTo_lt {l : List En} (h : okTo l l.length) (i j : Nat) (hij : i < j) (hj : j < l.length) : enLt (l[i]'(by omega)) l[j] := by
  induction j with
  | zero => omega
  | succ j ih =>
    have h1 := (h (j + 1) hj hj).2 (by omega)
    have h1 : enLt (l[j]'(by omega)) l[j + 1] := h1
    by_cases e : i = j
    · subst e; exact h1
    · exact enLt_trans (ih (by omega) (by omega)) h1
theorem shOk_of {l : List En} (h : okTo l l.length) : shOk l := by
  refine ⟨fun x hx => ?_, List.pairwise_iff_getElem.2 fun i j hi hj hij => okTo_lt h i j hij hj⟩
  obtain ⟨i, hi, rfl⟩ := List.getElem_of_mem hx
  exact (h i hi hi).1
theorem shOk_to {l : List En} (h : shOk l) : okTo l l.length := fun i hi hl =>
  ⟨h.1 _ (List.getElem_mem hl), fun h0 => List.pairwise_iff_getElem.1 h.2 (i - 1) i (by omega) hl (by omega)⟩
theorem shOk_not {l : List En} {k : Nat} (hk : k < l.length) (h : ¬ (enOk l[k] ∧ (0 < k → enLt (l[k - 1]'(by omega)) l[k]))) : ¬ shOk l := fun e => h (shOk_to e k hk hk)

/-- Rows in order with the same elements are the same. -/
theorem pairwise_unique {α : Type} {r : α → α → Prop} (hi : ∀ x, ¬ r x x) (ha : ∀ x y, r x y → ¬ r y x) : ∀ {l m : List α}, l.Pairwise r → m.Pairwise r → (∀ x, x ∈ l ↔ x ∈ m) → l = m
  | [], [], _, _, _ => rfl
  | [], y :: m, _, _, h => absurd ((h y).2 (by simp)) (by simp)
  | x :: l, [], _, _, h => absurd ((h x).1 (by simp)) (by simp)
  | x :: l, y :: m, hl, hm, h => by
    rw [List.pairwise_cons] at hl hm
    have hxy : x = y := by
      rcases List.mem_cons.1 ((h x).1 (by simp)) with e | e
      · exact e
      · rcases List.mem_cons.1 ((h y).2 (by simp)) with e2 | e2
        · exact e2.symm
        · exact absurd (hl.1 y e2) (ha _ _ (hm.1 x e))
    subst hxy
    congr 1
    refine pairwise_unique hi ha hl.2 hm.2 fun z => ?_
    constructor
    · intro hz
      rcases List.mem_cons.1 ((h z).1 (by simp [hz])) with e | e
      · subst e; exact absurd (hl.1 z hz) (hi z)
      · exact e
    · intro hz
      rcases List.mem_cons.1 ((h z).2 (by simp [hz])) with e | e
      · subst e; exact absurd (hm.1 z hz) (hi z)
      · exact e

/-- The row in order of these entries. -/
structure IsRow (l : List En) (S : List En) : Prop where
  up : S.Pairwise enLt
  mem : ∀ x, x ∈ S ↔ x ∈ l
theorem IsRow.unique {l S T : List En} (h : IsRow l S) (k : IsRow l T) : S = T := pairwise_unique enLt_irrefl (fun _ _ => enLt_asymm) h.up k.up fun x => (h.mem x).trans (k.mem x).symm

/-- How many entries are ahead. -/
def atE (x : En) : List En → Nat
  | [] => 0
  | y :: l => if enLt y x then atE x l + 1 else 0
/-- An entry put among others. -/
def putE (x : En) (l : List En) : List En := if l[atE x l]? = some x then l else l.take (atE x l) ++ x :: l.drop (atE x l)

theorem atE_le (x : En) (l : List En) : atE x l ≤ l.length := by
  induction l with
  | nil => exact Nat.le_refl _
  | cons y l ih => unfold atE; split <;> simp <;> omega
theorem atE_ahead (x : En) (l : List En) (i : Nat) (h : i < atE x l) (hi : i < l.length) : enLt l[i] x := by
  induction l generalizing i with
  | nil => simp at hi
  | cons y l ih =>
    unfold atE at h
    split at h
    · rename_i h2
      cases i with
      | zero => exact h2
      | succ i => exact ih i (by omega) (by simpa using hi)
    · omega
theorem atE_not (x : En) (l : List En) (h : atE x l < l.length) : ¬ enLt l[atE x l] x := by
  induction l with
  | nil => simp at h
  | cons y l ih =>
    by_cases h2 : enLt y x
    · have e : atE x (y :: l) = atE x l + 1 := by rw [atE, if_pos h2]
      simp only [e] at h ⊢
      simpa using ih (by simpa using h)
    · have e : atE x (y :: l) = 0 := by rw [atE, if_neg h2]
      simp only [e]
      exact h2
theorem atE_is (x : En) (l : List En) (k : Nat) (hk : k ≤ l.length) (h1 : ∀ i, i < k → ∀ h : i < l.length, enLt l[i] x) (h2 : ∀ h : k < l.length, ¬ enLt l[k] x) : atE x l = k := by
  rcases Nat.lt_trichotomy (atE x l) k with h | h | h
  · exact absurd (h1 _ h (by omega)) (atE_not x l (by omega))
  · exact h
  · exact absurd (atE_ahead x l k h (by have := atE_le x l; omega)) (h2 (by have := atE_le x l; omega))

theorem putE_row {l S : List En} (x : En) (h : IsRow l S) : IsRow (x :: l) (putE x S) := by
  unfold putE
  have hle := atE_le x S
  by_cases he : S[atE x S]? = some x
  · rw [if_pos he]
    refine ⟨h.up, fun y => ?_⟩
    rw [h.mem, List.mem_cons]
    refine ⟨.inr, fun hy => ?_⟩
    rcases hy with rfl | hy
    · exact (h.mem _).1 (List.mem_of_getElem? he)
    · exact hy
  · rw [if_neg he]
    have hb : ∀ y ∈ S.drop (atE x S), enLt x y := by
      intro y hy
      obtain ⟨i, hi, rfl⟩ := List.getElem_of_mem hy
      rw [List.length_drop] at hi
      rw [List.getElem_drop]
      have hlt : atE x S < S.length := by omega
      have h0 : enLt x S[atE x S] := by
        rcases enLt_three x S[atE x S] with h1 | h1 | h1
        · exact h1
        · exact absurd (by rw [List.getElem?_eq_getElem hlt, ← h1]) he
        · exact absurd h1 (atE_not x S hlt)
      by_cases e : i = 0
      · subst e; exact h0
      · exact enLt_trans h0 (List.pairwise_iff_getElem.1 h.up (atE x S) (atE x S + i) hlt (by omega) (by omega))
    have ha : ∀ y ∈ S.take (atE x S), enLt y x := by
      intro y hy
      obtain ⟨i, hi, rfl⟩ := List.getElem_of_mem hy
      rw [List.length_take] at hi
      rw [List.getElem_take]
      exact atE_ahead x S i (by omega) (by omega)
    refine ⟨?_, fun y => ?_⟩
    · rw [List.pairwise_append, List.pairwise_cons]
      refine ⟨h.up.take, ⟨hb, h.up.drop⟩, fun y hy z hz => ?_⟩
      rcases List.mem_cons.1 hz with rfl | hz
      · exact ha y hy
      · exact enLt_trans (ha y hy) (hb z hz)
    · have e : y ∈ S ↔ y ∈ S.take (atE x S) ∨ y ∈ S.drop (atE x S) := by rw [← List.mem_append, List.take_append_drop]
      rw [List.mem_append, List.mem_cons, List.mem_cons, ← h.mem, e]
      constructor
      · rintro (h1 | h1 | h1)
        · exact .inr (.inl h1)
        · exact .inl h1
        · exact .inr (.inr h1)
      · rintro (h1 | h1 | h1)
        · exact .inr (.inl h1)
        · exact .inl h1
        · exact .inr (.inr h1)

/-- Entries in order, each once. -/
def rowE : List En → List En
  | [] => []
  | x :: l => putE x (rowE l)
theorem rowE_is (l : List En) : IsRow l (rowE l) := by
  induction l with
  | nil => exact ⟨.nil, fun x => Iff.rfl⟩
  | cons x l ih => exact putE_row x ih
theorem rowE_of {l S : List En} (h : IsRow l S) : rowE l = S := (rowE_is l).unique h
theorem rowE_self {l : List En} (h : l.Pairwise enLt) : rowE l = l := rowE_of ⟨h, fun _ => Iff.rfl⟩
theorem rowE_mem (l : List En) (x : En) : x ∈ rowE l ↔ x ∈ l := (rowE_is l).mem x
theorem rowE_same {l m : List En} (h : ∀ x, x ∈ l ↔ x ∈ m) : rowE l = rowE m := rowE_of ⟨(rowE_is m).up, fun x => ((rowE_is m).mem x).trans (h x).symm⟩
theorem putE_snoc (x : En) (l : List En) : putE x (rowE l) = rowE (l ++ [x]) := by
  refine (rowE_of ?_).symm
  have h := putE_row x (rowE_is l)
  exact ⟨h.up, fun y => (h.mem y).trans (by simp [or_comm])⟩
theorem putE_len (x : En) (l : List En) : (putE x l).length ≤ l.length + 1 := by
  unfold putE
  split
  · omega
  · rw [List.length_append, List.length_cons, List.length_take, List.length_drop]; have := atE_le x l; omega
theorem rowE_len (l : List En) : (rowE l).length ≤ l.length := by
  induction l with
  | nil => exact Nat.le_refl _
  | cons x l ih => have := putE_len x (rowE l); rw [rowE, List.length_cons]; omega
theorem shOk_row {l : List En} (h : ∀ x ∈ l, enOk x) : shOk (rowE l) := ⟨fun x hx => h x ((rowE_mem l x).1 hx), (rowE_is l).up⟩

end Go.Proofs.Ytbnagmjhdnnheaa

namespace Go.Proofs.Ytbnagmjhdnnheaa

/-- The byte at a place. -/
def bt (s : ByteArray) (i : Nat) : Nat := if h : i < s.size then (s[i]'h).toNat else 256
theorem bt_at {s : ByteArray} {i : Nat} (h : i < s.size) : bt s i = s[i].toNat := by rw [bt, dif_pos h]
/-- The same byte at both places. -/
def sm (s t : ByteArray) (i j : Nat) : Prop := i < s.size ∧ j < t.size ∧ bt s i = bt t j
instance (s t : ByteArray) (i j : Nat) : Decidable (sm s t i j) := by unfold sm; infer_instance
theorem sm_turn {s t : ByteArray} {i j : Nat} : sm s t i j ↔ sm t s j i := by unfold sm; omega
theorem sm_self {s : ByteArray} {i : Nat} (h : i < s.size) : sm s s i i := ⟨h, h, rfl⟩

/-- How many bytes ahead of both places are the same. -/
def backP (s t : ByteArray) : Nat → Nat → Nat
  | i + 1, j + 1 => if sm s t i j then backP s t i j + 1 else 0
  | _, _ => 0
theorem backP_yes {s t : ByteArray} {i j : Nat} (h : sm s t i j) : backP s t (i + 1) (j + 1) = backP s t i j + 1 := by rw [backP, if_pos h]
theorem backP_no {s t : ByteArray} {i j : Nat} (h : ¬ sm s t i j) : backP s t (i + 1) (j + 1) = 0 := by rw [backP, if_neg h]
theorem backP_left (s t : ByteArray) (j : Nat) : backP s t 0 j = 0 := by cases j <;> rfl
theorem backP_right (s t : ByteArray) (i : Nat) : backP s t i 0 = 0 := by cases i <;> rfl
theorem backP_le (s t : ByteArray) (i j : Nat) : backP s t i j ≤ i ∧ backP s t i j ≤ j := by
  induction i generalizing j with
  | zero => rw [backP_left]; omega
  | succ i ih =>
    cases j with
    | zero => rw [backP_right]; omega
    | succ j =>
      by_cases h : sm s t i j
      · rw [backP_yes h]; have := ih j; omega
      · rw [backP_no h]; omega
/-- Steps back: as long as bytes are the same. -/
theorem backP_step {s t : ByteArray} {i j : Nat} (hi : 0 < i) (hj : 0 < j) (h : sm s t (i - 1) (j - 1)) : backP s t i j = backP s t (i - 1) (j - 1) + 1 := by
  obtain ⟨i, rfl⟩ : ∃ k, i = k + 1 := ⟨i - 1, by omega⟩
  obtain ⟨j, rfl⟩ : ∃ k, j = k + 1 := ⟨j - 1, by omega⟩
  exact backP_yes h
theorem backP_stop {s t : ByteArray} {i j : Nat} (h : ¬ (0 < i ∧ 0 < j ∧ sm s t (i - 1) (j - 1))) : backP s t i j = 0 := by
  cases i with
  | zero => exact backP_left s t j
  | succ i =>
    cases j with
    | zero => exact backP_right s t _
    | succ j => exact backP_no (fun e => h ⟨by omega, by omega, e⟩)
/-- On a diagonal: d bytes the same behind a beginning. -/
theorem backP_on {s t : ByteArray} {i j : Nat} (d : Nat) (h : ∀ k, k < d → sm s t (i + k) (j + k)) : backP s t (i + d) (j + d) = backP s t i j + d := by
  induction d with
  | zero => rfl
  | succ d ih =>
    have h1 := backP_yes (h d (by omega))
    rw [ih (fun k hk => h k (by omega))] at h1
    rw [← Nat.add_assoc, ← Nat.add_assoc, h1]
    omega
theorem backP_same (s t : ByteArray) (i j : Nat) : ∀ k, k < backP s t i j → sm s t (i - backP s t i j + k) (j - backP s t i j + k) := by
  induction i generalizing j with
  | zero => rw [backP_left]; intro k hk; omega
  | succ i ih =>
    cases j with
    | zero => rw [backP_right]; intro k hk; omega
    | succ j =>
      by_cases h : sm s t i j
      · rw [backP_yes h]
        have hle := backP_le s t i j
        intro k hk
        rw [show i + 1 - (backP s t i j + 1) = i - backP s t i j by omega, show j + 1 - (backP s t i j + 1) = j - backP s t i j by omega]
        by_cases hk2 : k < backP s t i j
        · exact ih j k hk2
        · rw [show i - backP s t i j + k = i by omega, show j - backP s t i j + k = j by omega]
          exact h
      · rw [backP_no h]; intro k hk; omega
theorem backP_first (s t : ByteArray) (i j : Nat) : backP s t (i - backP s t i j) (j - backP s t i j) = 0 := by
  have h1 := backP_le s t i j
  have h2 := backP_on (s := s) (t := t) (i := i - backP s t i j) (j := j - backP s t i j) (backP s t i j) (backP_same s t i j)
  rw [show i - backP s t i j + backP s t i j = i by omega, show j - backP s t i j + backP s t i j = j by omega] at h2
  omega

/-- How many bytes from both places on are the same. -/
def runF (s t : ByteArray) : Nat → Nat → Nat → Nat
  | 0, _, _ => 0
  | f + 1, i, j => if sm s t i j then runF s t f (i + 1) (j + 1) + 1 else 0
def runP (s t : ByteArray) (i j : Nat) : Nat := runF s t s.size i j
theorem runF_le (s t : ByteArray) (f i j : Nat) : runF s t f i j ≤ f := by
  induction f generalizing i j with
  | zero => exact Nat.le_refl _
  | succ f ih =>
    rw [runF]
    split
    · have := ih (i + 1) (j + 1); omega
    · omega
theorem runF_same (s t : ByteArray) (f i j : Nat) : ∀ k, k < runF s t f i j → sm s t (i + k) (j + k) := by
  induction f generalizing i j with
  | zero => intro k hk; simp [runF] at hk
  | succ f ih =>
    intro k hk
    rw [runF] at hk
    split at hk
    · rename_i h
      cases k with
      | zero => exact h
      | succ k =>
        have h1 := ih (i + 1) (j + 1) k (by omega)
        rw [show i + (k + 1) = i + 1 + k by omega, show j + (k + 1) = j + 1 + k by omega]
        exact h1
    · omega
theorem runF_stop (s t : ByteArray) (f i j : Nat) (hf : s.size ≤ i + f) : ¬ sm s t (i + runF s t f i j) (j + runF s t f i j) := by
  induction f generalizing i j with
  | zero =>
    intro h
    have := h.1
    simp [runF] at this
    omega
  | succ f ih =>
    rw [runF]
    split
    · have h1 := ih (i + 1) (j + 1) (by omega)
      rw [show i + (runF s t f (i + 1) (j + 1) + 1) = i + 1 + runF s t f (i + 1) (j + 1) by omega, show j + (runF s t f (i + 1) (j + 1) + 1) = j + 1 + runF s t f (i + 1) (j + 1) by omega]
      exact h1
    · rename_i h
      exact h
theorem runP_same (s t : ByteArray) (i j : Nat) : ∀ k, k < runP s t i j → sm s t (i + k) (j + k) := runF_same s t _ i j
theorem runP_stop (s t : ByteArray) (i j : Nat) : ¬ sm s t (i + runP s t i j) (j + runP s t i j) := runF_stop s t _ i j (by omega)
theorem runP_is {s t : ByteArray} {i j L : Nat} (h1 : ∀ k, k < L → sm s t (i + k) (j + k)) (h2 : ¬ sm s t (i + L) (j + L)) : runP s t i j = L := by
  rcases Nat.lt_trichotomy (runP s t i j) L with h | h | h
  · exact absurd (h1 _ h) (runP_stop s t i j)
  · exact h
  · exact absurd (runP_same s t i j _ h) h2
theorem runP_ge {s t : ByteArray} {i j L : Nat} (h1 : ∀ k, k < L → sm s t (i + k) (j + k)) : L ≤ runP s t i j := by
  rcases Nat.lt_or_ge (runP s t i j) L with h | h
  · exact absurd (h1 _ h) (runP_stop s t i j)
  · exact h
theorem runP_zero {s t : ByteArray} {i j : Nat} (h : ¬ sm s t i j) : runP s t i j = 0 := runP_is (fun k hk => absurd hk (by omega)) h
theorem runP_pos {s t : ByteArray} {i j : Nat} (h : sm s t i j) : 1 ≤ runP s t i j := runP_ge (fun k hk => by
  obtain rfl : k = 0 := by omega
  exact h)
theorem runP_room (s t : ByteArray) (i j : Nat) (hi : i ≤ s.size) (hj : j ≤ t.size) : i + runP s t i j ≤ s.size ∧ j + runP s t i j ≤ t.size := by
  by_cases h : runP s t i j = 0
  · rw [h]; omega
  · have h1 := runP_same s t i j (runP s t i j - 1) (by omega)
    have := h1.1
    have := h1.2.1
    omega
theorem runP_on {s t : ByteArray} {i j : Nat} (d : Nat) (h : ∀ k, k < d → sm s t (i + k) (j + k)) : runP s t i j = d + runP s t (i + d) (j + d) := by
  refine runP_is (fun k hk => ?_) ?_
  · by_cases hkd : k < d
    · exact h k hkd
    · have h1 := runP_same s t (i + d) (j + d) (k - d) (by omega)
      rw [show i + d + (k - d) = i + k by omega, show j + d + (k - d) = j + k by omega] at h1
      exact h1
  · have h1 := runP_stop s t (i + d) (j + d)
    rw [show i + d + runP s t (i + d) (j + d) = i + (d + runP s t (i + d) (j + d)) by omega, show j + d + runP s t (i + d) (j + d) = j + (d + runP s t (i + d) (j + d)) by omega] at h1
    exact h1
theorem runP_turn (s t : ByteArray) (i j : Nat) : runP s t i j = runP t s j i := runP_is (fun k hk => sm_turn.1 (runP_same t s j i k hk)) (fun h => runP_stop t s j i (sm_turn.1 h))
theorem backP_turn (s t : ByteArray) (i j : Nat) : backP s t i j = backP t s j i := by
  induction i generalizing j with
  | zero => rw [backP_left, backP_right]
  | succ i ih =>
    cases j with
    | zero => rw [backP_left, backP_right]
    | succ j =>
      by_cases h : sm s t i j
      · rw [backP_yes h, backP_yes (sm_turn.1 h), ih j]
      · rw [backP_no h, backP_no (fun e => h (sm_turn.2 e))]
theorem runP_back (s t : ByteArray) (i j : Nat) : runP s t (i - backP s t i j) (j - backP s t i j) = backP s t i j + runP s t i j := by
  have h1 := backP_le s t i j
  have h2 := runP_on (s := s) (t := t) (i := i - backP s t i j) (j := j - backP s t i j) (backP s t i j) (backP_same s t i j)
  rw [show i - backP s t i j + backP s t i j = i by omega, show j - backP s t i j + backP s t i j = j by omega] at h2
  exact h2
theorem runP_self (s : ByteArray) : runP s s 0 0 = s.size := runP_is (fun k hk => by rw [Nat.zero_add]; exact sm_self hk) (fun h => by have := h.1; omega)

/-- GrowPiece. -/
def growN (s t : ByteArray) (i j : Nat) : En := (((i - backP s t i j : Nat) : Int), ((j - backP s t i j : Nat) : Int), ((runP s t (i - backP s t i j) (j - backP s t i j) : Nat) : Int))
def growT (s t : ByteArray) (i j : Int) : En × Bool := if 0 ≤ i ∧ 0 ≤ j ∧ sm s t i.toNat j.toNat then (growN s t i.toNat j.toNat, true) else ((0, 0, 0), false)
theorem growT_yes {s t : ByteArray} {i j : Nat} (h : sm s t i j) : growT s t i j = (growN s t i j, true) := by
  rw [growT, if_pos ⟨by omega, by omega, by rw [Int.toNat_natCast, Int.toNat_natCast]; exact h⟩, Int.toNat_natCast, Int.toNat_natCast]
theorem growT_no {s t : ByteArray} {i j : Int} (h : ¬ (0 ≤ i ∧ 0 ≤ j ∧ sm s t i.toNat j.toNat)) : growT s t i j = ((0, 0, 0), false) := by rw [growT, if_neg h]
/-- From each of its places the same one grows. -/
theorem growN_same {s t : ByteArray} {i j k : Nat} (hk : k < runP s t (i - backP s t i j) (j - backP s t i j)) :
    sm s t (i - backP s t i j + k) (j - backP s t i j + k) ∧ growN s t (i - backP s t i j + k) (j - backP s t i j + k) = growN s t i j := by
  have h1 := runP_same s t _ _ k hk
  refine ⟨h1, ?_⟩
  have h2 := backP_on (s := s) (t := t) (i := i - backP s t i j) (j := j - backP s t i j) k (fun q hq => runP_same s t _ _ q (by omega))
  rw [backP_first, Nat.zero_add] at h2
  rw [growN, h2, Nat.add_sub_cancel, Nat.add_sub_cancel]
  rfl

/-- PieceOk. -/
def okP (s t : ByteArray) (p : En) : Prop := 0 ≤ p.1 ∧ 0 ≤ p.2.1 ∧ 1 ≤ p.2.2 ∧ p.1 + p.2.2 ≤ s.size ∧ p.2.1 + p.2.2 ≤ t.size ∧ p.2.2.toNat ≤ runP s t p.1.toNat p.2.1.toNat
instance (s t : ByteArray) (p : En) : Decidable (okP s t p) := by unfold okP; infer_instance
theorem okP_iff {s t : ByteArray} {x y z : Int} : okP s t (x, y, z) ↔ 0 ≤ x ∧ 0 ≤ y ∧ 1 ≤ z ∧ x + z ≤ s.size ∧ y + z ≤ t.size ∧ z.toNat ≤ runP s t x.toNat y.toNat := Iff.rfl
theorem extract_same {s t : ByteArray} {i j n : Nat} (hi : i + n ≤ s.size) (hj : j + n ≤ t.size) : s.extract i (i + n) = t.extract j (j + n) ↔ n ≤ runP s t i j := by
  have hs : (s.extract i (i + n)).size = n := by rw [ByteArray.size_extract]; omega
  have ht : (t.extract j (j + n)).size = n := by rw [ByteArray.size_extract]; omega
  constructor
  · intro h
    refine runP_ge fun k hk => ⟨by omega, by omega, ?_⟩
    have h1 : (s.extract i (i + n))[k]'(by omega) = (t.extract j (j + n))[k]'(by omega) := by simp only [h]
    rw [ByteArray.getElem_extract, ByteArray.getElem_extract] at h1
    rw [bt_at (by omega), bt_at (by omega), h1]
  · intro h
    apply ByteArray.ext_getElem (by rw [hs, ht])
    intro k h1 h2
    rw [ByteArray.getElem_extract, ByteArray.getElem_extract]
    have h3 := (runP_same s t i j k (by omega)).2.2
    rw [bt_at (by omega), bt_at (by omega)] at h3
    exact UInt8.toNat_inj.1 h3

/-- PieceHas. -/
def hasP (p : En) (i j n : Int) : Prop := (0 ≤ p.1 ∧ 0 ≤ p.2.1 ∧ 0 ≤ p.2.2 ∧ 0 ≤ i ∧ 0 ≤ j) ∧ 1 ≤ n ∧ p.1 ≤ i ∧ i - p.1 ≤ p.2.2 ∧ n ≤ p.2.2 - (i - p.1) ∧ j - p.2.1 = i - p.1 ∧ p.2.1 ≤ j
instance (p : En) (i j n : Int) : Decidable (hasP p i j n) := by unfold hasP; infer_instance

/-- PiecesOf: the one that begins at a place in each, if it can not be made longer and has bytes enough. -/
def startP (s t : ByteArray) (n i j : Nat) : Prop := sm s t i j ∧ backP s t i j = 0 ∧ n ≤ runP s t i j
instance (s t : ByteArray) (n i j : Nat) : Decidable (startP s t n i j) := by unfold startP; infer_instance
def pieceN (s t : ByteArray) (i j : Nat) : En := ((i : Int), (j : Int), ((runP s t i j : Nat) : Int))
def rowP (s t : ByteArray) (n i m : Nat) : List En := (List.range m).filterMap fun j => if startP s t n i j then some (pieceN s t i j) else none
def piecesN (s t : ByteArray) (n k : Nat) : List En := (List.range k).flatMap fun i => rowP s t n i t.size
def piecesT (s t : ByteArray) (n : Int) : List En := if n < 1 then [] else piecesN s t n.toNat s.size
theorem rowP_zero (s t : ByteArray) (n i : Nat) : rowP s t n i 0 = [] := rfl
theorem rowP_yes {s t : ByteArray} {n i m : Nat} (h : startP s t n i m) : rowP s t n i (m + 1) = rowP s t n i m ++ [pieceN s t i m] := by
  rw [rowP, List.range_succ, List.filterMap_append, List.filterMap_cons, if_pos h]; rfl
theorem rowP_no {s t : ByteArray} {n i m : Nat} (h : ¬ startP s t n i m) : rowP s t n i (m + 1) = rowP s t n i m := by
  rw [rowP, List.range_succ, List.filterMap_append, List.filterMap_cons, if_neg h]; simp [rowP]
theorem rowP_len (s t : ByteArray) (n i m : Nat) : (rowP s t n i m).length ≤ m := by
  induction m with
  | zero => exact Nat.le_refl _
  | succ m ih =>
    by_cases h : startP s t n i m
    · rw [rowP_yes h, List.length_append, List.length_singleton]; omega
    · rw [rowP_no h]; omega
theorem piecesN_zero (s t : ByteArray) (n : Nat) : piecesN s t n 0 = [] := rfl
theorem piecesN_next (s t : ByteArray) (n k : Nat) : piecesN s t n (k + 1) = piecesN s t n k ++ rowP s t n k t.size := by
  rw [piecesN, List.range_succ, List.flatMap_append]; simp [piecesN]
theorem piecesN_len (s t : ByteArray) (n k : Nat) : (piecesN s t n k).length ≤ k * t.size := by
  induction k with
  | zero => exact Nat.zero_le _
  | succ k ih =>
    rw [piecesN_next, List.length_append, Nat.succ_mul]
    have := rowP_len s t n k t.size
    omega
theorem piecesT_bad {s t : ByteArray} {n : Int} (h : n < 1) : piecesT s t n = [] := by rw [piecesT, if_pos h]
theorem piecesT_nat {s t : ByteArray} {n : Nat} (h : 1 ≤ n) : piecesT s t n = piecesN s t n s.size := by rw [piecesT, if_neg (by omega), Int.toNat_natCast]
theorem rowP_mem {s t : ByteArray} {n i m : Nat} {x : En} : x ∈ rowP s t n i m ↔ ∃ j, j < m ∧ startP s t n i j ∧ x = pieceN s t i j := by
  rw [rowP, List.mem_filterMap]
  constructor
  · rintro ⟨j, hj, h⟩
    split at h
    · rename_i h2
      injection h with h
      exact ⟨j, List.mem_range.1 hj, h2, h.symm⟩
    · cases h
  · rintro ⟨j, hj, h, rfl⟩
    exact ⟨j, List.mem_range.2 hj, by rw [if_pos h]⟩
theorem piecesN_mem {s t : ByteArray} {n k : Nat} {x : En} : x ∈ piecesN s t n k ↔ ∃ i j, i < k ∧ startP s t n i j ∧ x = pieceN s t i j := by
  rw [piecesN, List.mem_flatMap]
  constructor
  · rintro ⟨i, hi, h⟩
    obtain ⟨j, _, h2, h3⟩ := rowP_mem.1 h
    exact ⟨i, j, List.mem_range.1 hi, h2, h3⟩
  · rintro ⟨i, j, hi, h, rfl⟩
    exact ⟨i, List.mem_range.2 hi, rowP_mem.2 ⟨j, h.1.2.1, h, rfl⟩⟩
/-- All pieces of n bytes or more. -/
theorem pieces_mem {s t : ByteArray} {n : Nat} (hn : 1 ≤ n) {x : En} : x ∈ piecesT s t n ↔ ∃ i j, startP s t n i j ∧ x = pieceN s t i j := by
  rw [piecesT_nat hn, piecesN_mem]
  constructor
  · rintro ⟨i, j, _, h, h2⟩; exact ⟨i, j, h, h2⟩
  · rintro ⟨i, j, h, h2⟩; exact ⟨i, j, h.1.1, h, h2⟩
theorem rowP_up (s t : ByteArray) (n i m : Nat) : (rowP s t n i m).Pairwise enLt := by
  induction m with
  | zero => exact .nil
  | succ m ih =>
    by_cases h : startP s t n i m
    · rw [rowP_yes h, List.pairwise_append]
      refine ⟨ih, List.pairwise_singleton _ _, fun x hx y hy => ?_⟩
      obtain ⟨j, hj, _, rfl⟩ := rowP_mem.1 hx
      rw [List.mem_singleton] at hy
      subst hy
      exact .inr ⟨rfl, .inl (by simp only [pieceN]; omega)⟩
    · rw [rowP_no h]; exact ih
theorem piecesN_up (s t : ByteArray) (n k : Nat) : (piecesN s t n k).Pairwise enLt := by
  induction k with
  | zero => exact .nil
  | succ k ih =>
    rw [piecesN_next, List.pairwise_append]
    refine ⟨ih, rowP_up s t n k _, fun x hx y hy => ?_⟩
    obtain ⟨i, j, hi, _, rfl⟩ := piecesN_mem.1 hx
    obtain ⟨j2, _, _, rfl⟩ := rowP_mem.1 hy
    exact .inl (by simp only [pieceN]; omega)
theorem pieces_up (s t : ByteArray) (n : Int) : (piecesT s t n).Pairwise enLt := by
  unfold piecesT
  split
  · exact .nil
  · exact piecesN_up s t _ _

/-- Which piece has n bytes from given places on. -/
theorem has_iff {s t : ByteArray} {i j n A B : Nat} (hn : 1 ≤ n) (hs : sm s t A B) (hb : backP s t A B = 0) :
    hasP (pieceN s t A B) i j n ↔ A = i - backP s t i j ∧ B = j - backP s t i j ∧ n ≤ runP s t i j := by
  simp only [hasP, pieceN]
  constructor
  · rintro ⟨_, _, h1, h2, h3, h4, h5⟩
    obtain ⟨d, rfl⟩ : ∃ d, i = A + d := ⟨i - A, by omega⟩
    obtain rfl : j = B + d := by omega
    have hd : d ≤ runP s t A B := by omega
    have h6 := backP_on (s := s) (t := t) (i := A) (j := B) d (fun q hq => runP_same s t A B q (by omega))
    have h7 := runP_on (s := s) (t := t) (i := A) (j := B) d (fun q hq => runP_same s t A B q (by omega))
    rw [hb] at h6
    rw [h6]
    omega
  · rintro ⟨rfl, rfl, h3⟩
    have h1 := backP_le s t i j
    have h2 := runP_back s t i j
    rw [h2]
    omega
theorem pairwise_one {α : Type} {l : List α} {P : α → Bool} (hp : l.Pairwise (· ≠ ·)) {x : α} (hx : x ∈ l) (h1 : P x = true) (h2 : ∀ y ∈ l, P y = true → y = x) : (l.filter P).length = 1 := by
  induction l with
  | nil => cases hx
  | cons y l ih =>
    rw [List.pairwise_cons] at hp
    by_cases hy : P y = true
    · have e := h2 y (by simp) hy
      subst e
      rw [List.filter_cons_of_pos hy, List.length_cons]
      have h3 : l.filter P = [] := by
        rw [List.filter_eq_nil_iff]
        intro z hz hPz
        have := h2 z (by simp [hz]) hPz
        exact hp.1 z hz this.symm
      rw [h3]; rfl
    · rw [List.filter_cons_of_neg hy]
      rcases List.mem_cons.1 hx with rfl | hx
      · exact absurd h1 hy
      · exact ih hp.2 hx (fun z hz hPz => h2 z (by simp [hz]) hPz)
/-- How many pieces have n bytes from given places on: one, if they are the same. -/
theorem many_one {s t : ByteArray} {n i j : Nat} (hn : 1 ≤ n) (h : n ≤ runP s t i j) : ((piecesT s t n).filter fun p => decide (hasP p i j n)).length = 1 := by
  have hsm : sm s t i j := by
    have h1 := runP_same s t i j 0 (by omega)
    exact h1
  have hst : startP s t n (i - backP s t i j) (j - backP s t i j) := by
    refine ⟨?_, backP_first s t i j, by rw [runP_back]; omega⟩
    by_cases hb : backP s t i j = 0
    · rw [hb]; exact hsm
    · exact backP_same s t i j 0 (by omega)
  refine pairwise_one (x := pieceN s t (i - backP s t i j) (j - backP s t i j)) ?_ ((pieces_mem hn).2 ⟨_, _, hst, rfl⟩) ?_ ?_
  · refine List.Pairwise.imp ?_ (pieces_up s t n)
    intro x y hxy e
    subst e
    exact enLt_irrefl _ hxy
  · rw [decide_eq_true_iff]
    exact (has_iff hn hst.1 hst.2.1).2 ⟨rfl, rfl, h⟩
  · intro y hy hP
    rw [decide_eq_true_iff] at hP
    obtain ⟨A, B, hs, rfl⟩ := (pieces_mem hn).1 hy
    obtain ⟨e1, e2, _⟩ := (has_iff hn hs.1 hs.2.1).1 hP
    rw [← e1, ← e2]
theorem many_none {s t : ByteArray} {n i j : Nat} (hn : 1 ≤ n) (h : ¬ n ≤ runP s t i j) : ((piecesT s t n).filter fun p => decide (hasP p i j n)).length = 0 := by
  rw [List.length_eq_zero_iff, List.filter_eq_nil_iff]
  intro y hy hP
  rw [decide_eq_true_iff] at hP
  obtain ⟨A, B, hs, rfl⟩ := (pieces_mem hn).1 hy
  exact h ((has_iff hn hs.1 hs.2.1).1 hP).2.2
/-- The more bytes are asked for, the fewer pieces there are. -/
theorem pieces_more {s t : ByteArray} {n : Nat} (hn : 1 ≤ n) : piecesT s t ((n + 1 : Nat) : Int) = (piecesT s t n).filter fun p => decide ((n : Int) < p.2.2) := by
  refine pairwise_unique enLt_irrefl (fun _ _ => enLt_asymm) (pieces_up s t _) ((pieces_up s t n).filter _) fun x => ?_
  rw [pieces_mem (by omega), List.mem_filter, pieces_mem hn, decide_eq_true_iff]
  constructor
  · rintro ⟨i, j, ⟨h1, h2, h3⟩, rfl⟩
    exact ⟨⟨i, j, ⟨h1, h2, by omega⟩, rfl⟩, by simp only [pieceN]; omega⟩
  · rintro ⟨⟨i, j, ⟨h1, h2, h3⟩, rfl⟩, h4⟩
    simp only [pieceN] at h4
    exact ⟨i, j, ⟨h1, h2, by omega⟩, rfl⟩

/-- The longest one of pieces, the first one of several. -/
def longL : En → List En → En
  | best, [] => best
  | best, p :: l => longL (if best.2.2 < p.2.2 then p else best) l
theorem longL_snoc (best : En) (l : List En) (p : En) : longL best (l ++ [p]) = if (longL best l).2.2 < p.2.2 then p else longL best l := by
  induction l generalizing best with
  | nil => rfl
  | cons x l ih => exact ih _
theorem longL_ge (best : En) (l : List En) : best.2.2 ≤ (longL best l).2.2 ∧ ∀ p ∈ l, p.2.2 ≤ (longL best l).2.2 := by
  induction l generalizing best with
  | nil => exact ⟨Int.le_refl _, by simp⟩
  | cons x l ih =>
    obtain ⟨h1, h2⟩ := ih (if best.2.2 < x.2.2 then x else best)
    have h3 : best.2.2 ≤ (if best.2.2 < x.2.2 then x else best).2.2 ∧ x.2.2 ≤ (if best.2.2 < x.2.2 then x else best).2.2 := by
      split <;> omega
    refine ⟨Int.le_trans h3.1 h1, fun p hp => ?_⟩
    rcases List.mem_cons.1 hp with rfl | hp
    · exact Int.le_trans h3.2 h1
    · exact h2 p hp
theorem longL_in (best : En) (l : List En) : longL best l = best ∨ longL best l ∈ l := by
  induction l generalizing best with
  | nil => exact .inl rfl
  | cons x l ih =>
    rcases ih (if best.2.2 < x.2.2 then x else best) with h | h
    · rw [longL, h]
      split
      · exact .inr (by simp)
      · exact .inl rfl
    · exact .inr (by rw [longL]; exact List.mem_cons_of_mem _ h)
def longT (s t : ByteArray) : En := longL (0, 0, 0) (piecesT s t 1)
theorem longT_ways (s t : ByteArray) : longT s t = (0, 0, 0) ∨ ∃ i j, startP s t 1 i j ∧ longT s t = pieceN s t i j := by
  rcases longL_in (0, 0, 0) (piecesT s t 1) with h | h
  · exact .inl h
  · obtain ⟨i, j, h1, h2⟩ := (pieces_mem (n := 1) (Nat.le_refl _)).1 h
    exact .inr ⟨i, j, h1, h2⟩
/-- No bytes that both have are more. -/
theorem longT_most (s t : ByteArray) (i j : Nat) : ((runP s t i j : Nat) : Int) ≤ (longT s t).2.2 := by
  by_cases h : sm s t i j
  · have hb := runP_back s t i j
    have hst : startP s t 1 (i - backP s t i j) (j - backP s t i j) := by
      refine ⟨?_, backP_first s t i j, by rw [hb]; have := runP_pos h; omega⟩
      by_cases hb2 : backP s t i j = 0
      · rw [hb2]; exact h
      · exact backP_same s t i j 0 (by omega)
    have h1 := (longL_ge (0, 0, 0) (piecesT s t 1)).2 _ ((pieces_mem (n := 1) (Nat.le_refl _)).2 ⟨_, _, hst, rfl⟩)
    simp only [pieceN, hb] at h1
    show _ ≤ (longL (0, 0, 0) (piecesT s t 1)).2.2
    omega
  · rw [runP_zero h]
    exact (longL_ge (0, 0, 0) (piecesT s t 1)).1
theorem longT_turn (s t : ByteArray) : (longT t s).2.2 = (longT s t).2.2 := by
  have key : ∀ s t : ByteArray, (longT t s).2.2 ≤ (longT s t).2.2 := by
    intro s t
    rcases longT_ways t s with h | ⟨i, j, h1, h2⟩
    · rw [h]; exact (longL_ge (0, 0, 0) (piecesT s t 1)).1
    · rw [h2]
      show ((runP t s i j : Nat) : Int) ≤ _
      rw [runP_turn]
      exact longT_most s t j i
  exact Int.le_antisymm (key s t) (key t s)
theorem longT_nonneg (s t : ByteArray) : 0 ≤ (longT s t).2.2 := (longL_ge (0, 0, 0) (piecesT s t 1)).1
theorem longT_none (s t : ByteArray) : piecesT s t ((longT s t).2.2 + 1) = [] := by
  obtain ⟨m, hm⟩ : ∃ m : Nat, (longT s t).2.2 = m := ⟨(longT s t).2.2.toNat, by have := longT_nonneg s t; omega⟩
  rw [hm, show ((m : Int) + 1) = ((m + 1 : Nat) : Int) by omega, List.eq_nil_iff_forall_not_mem]
  intro x hx
  obtain ⟨i, j, h1, rfl⟩ := (pieces_mem (by omega)).1 hx
  have h2 := longT_most s t i j
  have h3 := h1.2.2
  omega
theorem longT_ok (s t : ByteArray) : (longT s t).2.2 = 0 ∨ okP s t (longT s t) := by
  rcases longT_ways s t with h | ⟨i, j, ⟨h0, h1, h2⟩, h3⟩
  · left; rw [h]
  · right
    rw [h3]
    have h4 := runP_room s t i j (Nat.le_of_lt h0.1) (Nat.le_of_lt h0.2.1)
    simp only [okP, pieceN, Int.toNat_natCast]
    omega
theorem longT_self (s : ByteArray) : (longT s s).2.2 = s.size := by
  have h1 := longT_most s s 0 0
  rw [runP_self] at h1
  rcases longT_ways s s with h | ⟨i, j, ⟨h0, _, _⟩, h3⟩
  · rw [h] at h1 ⊢
    simp only at h1 ⊢
    omega
  · rw [h3] at h1 ⊢
    have h4 := runP_room s s i j (Nat.le_of_lt h0.1) (Nat.le_of_lt h0.2.1)
    simp only [pieceN] at h1 ⊢
    omega

/-- Pieces the other way round. -/
def turnE (p : En) : En := (p.2.1, p.1, p.2.2)
def turnL (l : List En) : List En := rowE (l.map turnE)
theorem turnL_next (l : List En) (k : Nat) (hk : k < l.length) : turnL (l.take (k + 1)) = putE (turnE l[k]) (turnL (l.take k)) := by
  rw [turnL, turnL, putE_snoc, List.take_succ_eq_append_getElem hk, List.map_append]
  rfl
theorem turnL_len (l : List En) : (turnL l).length ≤ l.length := by
  have := rowE_len (l.map turnE)
  rwa [List.length_map] at this
/-- The pieces of two texts are those of the texts the other way round, turned. -/
theorem turnL_pieces (s t : ByteArray) (n : Int) : turnL (piecesT s t n) = piecesT t s n := by
  refine rowE_of ⟨pieces_up t s n, fun x => ?_⟩
  by_cases hn : n < 1
  · rw [piecesT_bad hn, piecesT_bad hn]; simp
  · obtain ⟨m, rfl⟩ : ∃ m : Nat, n = m := ⟨n.toNat, by omega⟩
    rw [pieces_mem (by omega), List.mem_map]
    constructor
    · rintro ⟨i, j, ⟨h1, h2, h3⟩, rfl⟩
      refine ⟨pieceN s t j i, (pieces_mem (by omega)).2 ⟨j, i, ⟨sm_turn.1 h1, by rw [backP_turn]; exact h2, by rw [runP_turn]; exact h3⟩, rfl⟩, ?_⟩
      simp only [turnE, pieceN, runP_turn s t j i]
    · rintro ⟨y, hy, rfl⟩
      obtain ⟨i, j, ⟨h1, h2, h3⟩, rfl⟩ := (pieces_mem (by omega)).1 hy
      refine ⟨j, i, ⟨sm_turn.1 h1, by rw [backP_turn]; exact h2, by rw [runP_turn]; exact h3⟩, ?_⟩
      simp only [turnE, pieceN, runP_turn s t i j]

end Go.Proofs.Ytbnagmjhdnnheaa

namespace Go.Proofs.Ytbnagmjhdnnheaa
open Go.RowKit

/-- Such rows as the model holds them. -/
def entC (x : En) : List Value := [.int .i64 x.1, .int .i64 x.2.1, .int .i64 x.2.2]
def entsC (l : List En) : List Value := l.flatMap entC
theorem entC_len (x : En) : (entC x).length = 3 := rfl
theorem entsC_len (l : List En) : (entsC l).length = l.length * 3 := flat_len entC 3 entC_len l
theorem entsC_append (l m : List En) : entsC (l ++ m) = entsC l ++ entsC m := by simp [entsC]
theorem entsC_one (l : List En) : ∀ u ∈ entsC l, u.oneCell' = true := by
  intro u hu
  simp only [entsC, List.mem_flatMap, entC] at hu
  obtain ⟨x, _, hx⟩ := hu
  simp only [List.mem_cons, List.not_mem_nil, or_false] at hx
  rcases hx with rfl | rfl | rfl <;> rfl
theorem entsC_snoc (l : List En) (x : En) : entsC (l ++ [x]) = entsC l ++ [.int .i64 x.1, .int .i64 x.2.1, .int .i64 x.2.2] := by rw [entsC_append]; rfl
theorem entsC_take (l : List En) (k : Nat) : (entsC l).take (k * 3) = entsC (l.take k) := by
  induction l generalizing k with
  | nil => simp [entsC]
  | cons x l ih =>
    cases k with
    | zero => simp [entsC]
    | succ k =>
      rw [List.take_succ_cons]
      show (entC x ++ entsC l).take ((k + 1) * 3) = entC x ++ entsC (l.take k)
      rw [List.take_append, entC_len, show (k + 1) * 3 - 3 = k * 3 by omega, ih, List.take_of_length_le (by rw [entC_len]; omega)]
theorem entsC_drop (l : List En) (k : Nat) : (entsC l).drop (k * 3) = entsC (l.drop k) := by
  induction l generalizing k with
  | nil => simp [entsC]
  | cons x l ih =>
    cases k with
    | zero => simp
    | succ k =>
      rw [List.drop_succ_cons]
      show (entC x ++ entsC l).drop ((k + 1) * 3) = entsC (l.drop k)
      rw [List.drop_append, entC_len, show (k + 1) * 3 - 3 = k * 3 by omega, ih, List.drop_of_length_le (by rw [entC_len]; omega)]
      rfl

theorem CellsAt.ent {w : World} {a : Option Addr} {l : List En} (h : CellsAt w a (entsC l)) (hne : l ≠ []) : ∃ b o, a = some ⟨b, o, none⟩ ∧ b < w.heap.size ∧
    ∀ k (hk : k < l.length), w.cell? ⟨b, o + k * 3, none⟩ = some (.int .i64 l[k].1) ∧ w.cell? ⟨b, o + k * 3 + 1, none⟩ = some (.int .i64 l[k].2.1) ∧ w.cell? ⟨b, o + k * 3 + 2, none⟩ = some (.int .i64 l[k].2.2) := by
  obtain ⟨b, o, ha, hb, hc⟩ := h.spot (fun e => by have := congrArg List.length e; rw [entsC_len] at this; simp at this; exact hne (List.length_eq_zero_iff.1 (by omega)))
  refine ⟨b, o, ha, hb, fun k hk => ⟨?_, ?_, ?_⟩⟩
  · have := hc (k * 3 + 0) (.int .i64 l[k].1) (by rw [entsC, flat_get entC 3 entC_len l k 0 hk (by omega)]; rfl)
    simpa using this
  · have := hc (k * 3 + 1) (.int .i64 l[k].2.1) (by rw [entsC, flat_get entC 3 entC_len l k 1 hk (by omega)]; rfl)
    rwa [← Nat.add_assoc] at this
  · have := hc (k * 3 + 2) (.int .i64 l[k].2.2) (by rw [entsC, flat_get entC 3 entC_len l k 2 hk (by omega)]; rfl)
    rwa [← Nat.add_assoc] at this
theorem ent_cells {w : World} {a : Option Addr} {l : List En} (h : CellsAt w a (entsC l)) {i : Nat} {x y z : Int} (hi : i < l.length) (hm : l[i] = (x, y, z)) :
    ∃ b o, a = some ⟨b, o, none⟩ ∧ b < w.heap.size ∧ w.cell? ⟨b, o + i * 3, none⟩ = some (.int .i64 x) ∧ w.cell? ⟨b, o + i * 3 + 1, none⟩ = some (.int .i64 y) ∧ w.cell? ⟨b, o + i * 3 + 2, none⟩ = some (.int .i64 z) := by
  obtain ⟨b, o, ha, hb, hc⟩ := h.ent (fun e => by rw [e] at hi; simp at hi)
  have h1 := hc i hi
  rw [hm] at h1
  exact ⟨b, o, ha, hb, h1.1, h1.2.1, h1.2.2⟩

theorem ents_len {w : World} {B : Nat} {e : TypeId} {a : Option Addr} {n c : Nat} {l : List En} (h : w.ownsRow B e 3 (.slice a n c) n (entsC l)) : n = l.length := by
  have := h.1
  rw [entsC_len] at this; omega

end Go.Proofs.Ytbnagmjhdnnheaa

namespace Go.Proofs.Ytbnagmjhdnnheaa
open Go.RowKit

theorem Try.uls7 : Try.prog.underlying 9 = some .string := by kernel_rfl
theorem eq7_no {P Q : ByteArray} (h : ¬ P = Q) : (P.toList == Q.toList) = false := by
  rw [ByteArray.toList_eq, ByteArray.toList_eq]
  refine beq_eq_false_iff_ne.2 fun e => h (ByteArray.ext (Array.toList_inj.1 e))
theorem back_test {s t : ByteArray} {i j k : Nat} (hk : k ≤ backP s t i j) : (0 < i - k ∧ 0 < j - k ∧ sm s t (i - k - 1) (j - k - 1)) ↔ k < backP s t i j := by
  have hle := backP_le s t i j
  constructor
  · rintro ⟨h1, h2, h3⟩
    rcases Nat.lt_or_ge k (backP s t i j) with h | h
    · exact h
    · exfalso
      obtain rfl : k = backP s t i j := by omega
      have h4 := backP_first s t i j
      rw [backP_step h1 h2 h3] at h4
      omega
  · intro h
    have h1 := backP_same s t i j (backP s t i j - 1 - k) (by omega)
    rw [show i - backP s t i j + (backP s t i j - 1 - k) = i - k - 1 by omega, show j - backP s t i j + (backP s t i j - 1 - k) = j - k - 1 by omega] at h1
    exact ⟨by omega, by omega, h1⟩
theorem run_test {s t : ByteArray} {i j k : Nat} (hk : k ≤ runP s t i j) : sm s t (i + k) (j + k) ↔ k < runP s t i j := by
  constructor
  · intro h
    rcases Nat.lt_or_ge k (runP s t i j) with h1 | h1
    · exact h1
    · exfalso
      obtain rfl : k = runP s t i j := by omega
      exact runP_stop s t i j h
  · exact runP_same s t i j k
/-- A number that a block holds. -/
def cellN (w : World) (b j : Nat) : Nat := match w.cell? ⟨b, j, none⟩ with
  | some (.int _ a) => a.toNat
  | _ => 0
theorem cellN_is {w : World} {b j : Nat} {a : Int} (h : w.cell? ⟨b, j, none⟩ = some (.int .i64 a)) : cellN w b j = a.toNat := by rw [cellN, h]



end Go.Proofs.Ytbnagmjhdnnheaa
