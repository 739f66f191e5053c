/-
  The contracts of the program's PrintsOf and FindPrint, and of the model's FindPrint. Condition: texts have at most 2^22 bytes.
-/
import Derived.Test.YtclblnkeakkdeaaPrintI
import Derived.Test.YtclblnkeakkdeaaPrintRows
import Derived.Test.YtclblnkeakkdeaaApart
namespace Go.Proofs.Ytclblnkeakkdeaa
open Go.RowKit

theorem One.lit (w : World) (e : TypeId) (v : Value) : One w w.heap.size (w.alloc (.cells #[v] e)) e 1 (some ⟨w.heap.size, 0, none⟩) 1 1 [v] :=
  ⟨World.ownsRow_lit w #[v] 1 (Nat.le_refl _) (by unfold maxLen; omega) (by simp), heap_le_alloc _ _, (Below.refl _ _).alloc (Nat.le_refl _) _⟩

theorem implPrintsOf_bad (s : ByteArray) (k : Int) (w : World) (h : k < 1 ∨ (s.size : Int) < k) :
    Calls Try.prog 47 #[.string s, .int .i64 k] w fun e w' => ∃ a n c, e = .returned (.slice a n c) ∧ One w w.heap.size w' 3 1 a n c (intCells []) := by
  by_cases hk : k < 1
  · clear h
    go_enter Try.func47, Try.ntmps47
    go_wp2
    go_ret
    exact ⟨_, _, _, rfl, One.nil _ _ _⟩
  · by_cases hk2 : (s.size : Int) < k
    · clear h
      go_enter Try.func47, Try.ntmps47
      go_wp2
      go_ret
      exact ⟨_, _, _, rfl, One.nil _ _ _⟩
    · omega

set_option maxHeartbeats 2000000 in
theorem implPrintsOf_ok (s : ByteArray) (k : Nat) (w : World) (hs : s.size ≤ 4194304) (h1 : 0 < k) (h2 : k ≤ s.size) :
    Calls Try.prog 47 #[.string s, .int .i64 k] w fun e w' => ∃ a n c, e = .returned (.slice a n c) ∧ One w w.heap.size w' 3 1 a n c (intCells (printsTo s.data.toList k (s.size - k + 1))) := by
  have hp := prN_lt (pieceL s.data.toList k 0)
  obtain ⟨x, hx⟩ : ∃ x, prN (pieceL s.data.toList k 0) = x := ⟨_, rfl⟩
  have HX := Lib.hid (show prN (s.extract 0 k).data.toList = x by rw [extract_first]; exact hx)
  have HX2 := Lib.hid hx
  have HR := Lib.hid (show intCells (printsTo s.data.toList k 1) = [.int .i64 x] by rw [printsK s.data.toList k 0 hx]; rfl)
  have hxs : (s.extract 0 k).size ≤ 4194305 := by simp only [ByteArray.size_extract]; omega
  rw [hx] at hp
  clear hx
  have hpw : pwZ ((k : Int) - 1) = (pwN (k - 1) : Nat) := by
    unfold pwZ; rw [if_neg (by omega)]; congr 2; omega
  have c0 := fun w => implPrintPower_any ((k : Int) - 1) w (by omega) (by omega)
  obtain ⟨t, ht⟩ : ∃ t, pwZ ((k : Int) - 1) = t := ⟨_, rfl⟩
  rw [ht] at c0 hpw
  have HT := Lib.hid hpw
  have HS := Lib.hid (show s.data.toList.length = s.size from rfl)
  clear ht hpw
  go_enter Try.func47, Try.ntmps47
  go_wp2_with fail
  refine (c0 _).mono ?_
  rintro e w1 ⟨rfl, rfl⟩
  go_wp2_with fail
  refine (implPrintOf_is _ _ _ hxs HX.out).mono ?_
  rintro e w1 ⟨rfl, rfl⟩
  go_wp2
  have h3 := One.lit w 3 (.int .i64 x)
  go_loopw [6, 7, 8] (fun n v q_ wr => ∃ i x q : Nat, q ≤ s.size ∧ q_ = .int .i64 q ∧ n = .int .i64 x ∧ x < 1000003 ∧ Hid (q = i + k ∧ prN (pieceL s.data.toList k i) = x) ∧ i ≤ s.size ∧ ∃ a c, v = .slice a (i + 1) c ∧ One w w.heap.size wr 3 1 a (i + 1) c (intCells (printsTo s.data.toList k (q - k + 1))))
    (fun _ _ q_ _ => s.size - (intOf q_).toNat)
  case atStart => exact ⟨0, x, k, h2, rfl, rfl, hp, Lib.hid ⟨by omega, HX2.out⟩, by omega, _, _, rfl, by rw [Nat.sub_self, HR.out]; exact h3⟩
  case round =>
    obtain ⟨i, x, q, hq, rfl, rfl, hx9, HQ, hi, a, c, rfl, hone⟩ := hrel
    by_cases hlt : q < s.size
    · have hqi := HQ.out.1
      have hii : i < s.size := by omega
      have hy : rollN (prN (pieceL s.data.toList k i)) k s[i].toNat s[q].toNat = prN (pieceL s.data.toList k (i + 1)) := pieces_roll s k i q h1 hqi hlt
      rw [HQ.out.2] at hy
      have hy9 := prN_lt (pieceL s.data.toList k (i + 1))
      obtain ⟨y, hyy⟩ : ∃ y, prN (pieceL s.data.toList k (i + 1)) = y := ⟨_, rfl⟩
      rw [hyy] at hy hy9
      have hki : q - k + 1 = i + 1 := by omega
      have hki2 : q + 1 - k = i + 1 := by omega
      rw [hki] at hone
      have HK := Lib.hid (show intCells (printsTo s.data.toList k (q + 1 - k + 1)) = intCells (printsTo s.data.toList k (i + 1)) ++ [.int .i64 y] by rw [hki2]; exact printsK s.data.toList k (i + 1) hyy)
      have HN := Lib.hid (show q + 1 = (i + 1) + k ∧ prN (pieceL s.data.toList k (i + 1)) = y from ⟨by omega, hyy⟩)
      have HY := Lib.hid hy
      have e1 : IntKind.i64.wrap ((q : Int) - (k : Int)) = (i : Int) := by rw [IntWalk.i64_in _ (by omega)]; omega
      have b1 : s[i].toNat ≤ 255 := by have := s[i].toNat_lt; omega
      have b2 : s[q].toNat ≤ 255 := by have := s[q].toNat_lt; omega
      clear hqi hy hyy HQ hki hki2
      go_wp2
      go_quiet ((go_at_call 89; exact Calls.quiet_of_same ((implRolled_ok _ _ _ _ y _ _ HT.out hx9 b1 b2 HY.out).mono (fun _ _ h => ⟨h.1, h.2.symm⟩))))
      go_wp2_with (at_builtin; refine wpList_append_row rfl (.tmp 46) (.tmp 48) 33 rfl Try.ulI3 Try.infoI3 rfl (by decide) (hone.drewN _) rfl #[.int .i64 y] rfl rfl (by simp [Value.oneCell']) (by unfold maxLen; omega) (by omega) ?_; intro a5 c5 w5 h5)
      go_roundw
      case rel => exact ⟨i + 1, y, q + 1, by omega, by go_num, rfl, hy9, HN, by omega, a5, c5, rfl, by rw [HK.out]; exact h5⟩
      case measure => simp [intOf]; omega
    · obtain rfl : q = s.size := by omega
      have HO := Lib.hid hone
      clear hone
      go_wp2
      go_ret
      exact ⟨_, _, _, rfl, HO.out⟩

theorem printsL_bad {s : List UInt8} {k : Int} (h : k < 1 ∨ (s.length : Int) < k) : printsL s k = [] := by unfold printsL; rw [if_pos h]
theorem printsL_ok {s : List UInt8} {k : Nat} (h1 : 0 < k) (h2 : k ≤ s.length) : printsL s (k : Int) = printsTo s k (s.length - k + 1) := by
  unfold printsL; rw [if_neg (by omega), Int.toNat_natCast]

/-- At every number of bytes. -/
theorem implPrintsOf_is (s : ByteArray) (k : Int) (L : List Int) (w : World) (hs : s.size ≤ 4194304) (hL : printsL s.data.toList k = L) :
    Calls Try.prog 47 #[.string s, .int .i64 k] w fun e w' => ∃ a n c, e = .returned (.slice a n c) ∧ One w w.heap.size w' 3 1 a n c (intCells L) := by
  by_cases h : k < 1 ∨ (s.size : Int) < k
  · rw [printsL_bad h] at hL; subst hL; exact implPrintsOf_bad s k w h
  · obtain ⟨j, rfl⟩ : ∃ j : Nat, k = j := ⟨k.toNat, by omega⟩
    have e := printsL_ok (s := s.data.toList) (k := j) (by omega) (show j ≤ s.size by omega)
    rw [e] at hL; subst hL
    exact implPrintsOf_ok s j w hs (by omega) (by omega)
theorem specPrintsOf_is (s : ByteArray) (k : Int) (L : List Int) (w : World) (hs : s.size ≤ 4194304) (hL : printsL s.data.toList k = L) :
    Calls Try.prog 108 #[.string s, .int .i64 k] w fun e w' => ∃ a n c, e = .returned (.slice a n c) ∧ One w w.heap.size w' 3 1 a n c (intCells L) := by
  by_cases h : k < 1 ∨ (s.size : Int) < k
  · rw [printsL_bad h] at hL; subst hL; exact specPrintsOf_bad s k w h
  · obtain ⟨j, rfl⟩ : ∃ j : Nat, k = j := ⟨k.toNat, by omega⟩
    have e := printsL_ok (s := s.data.toList) (k := j) (by omega) (show j ≤ s.size by omega)
    rw [e] at hL; subst hL
    exact specPrintsOf_ok s j w hs (by omega) (by omega)

/-! ### Places of a piece -/
theorem findTo_len (s p : List UInt8) (m : Nat) : (findTo s p m).length ≤ m := by
  induction m with
  | zero => simp [findTo]
  | succ m ih =>
    unfold findTo
    split
    · simp; omega
    · omega

/-- What a walk over the fingerprints of a piece's length knows of them. -/
structure FindKnown (s p : ByteArray) (L : List Int) (n : Nat) : Prop where
  len : L.length ≤ s.size
  fits : ∀ i, i < L.length → i + p.size ≤ s.size
  print : ∀ i, i < L.length → L.getD i 0 = (prN (pieceL s.data.toList p.size i) : Nat)
  all : findTo s.data.toList p.data.toList L.length = findL s.data.toList p.data.toList
  one : n = prN p.data.toList

theorem find_known (s p : ByteArray) (L : List Int) (n : Nat) (hL : printsL s.data.toList (p.size : Int) = L) (hn : prN p.data.toList = n) : FindKnown s p L n := by
  have hsl : s.data.toList.length = s.size := rfl
  have hpl : p.data.toList.length = p.size := rfl
  by_cases h : (p.size : Int) < 1 ∨ (s.size : Int) < (p.size : Int)
  · rw [printsL_bad h] at hL
    subst hL
    refine ⟨by simp, fun i hi => by simp at hi, fun i hi => by simp at hi, ?_, hn.symm⟩
    unfold findL
    rw [if_pos (by omega)]
    rfl
  · have e := printsL_ok (s := s.data.toList) (k := p.size) (by omega) (by omega)
    rw [e] at hL
    subst hL
    refine ⟨by rw [printsTo_len]; omega, fun i hi => by rw [printsTo_len] at hi; omega, fun i hi => ?_, ?_, hn.symm⟩
    · rw [printsTo_len] at hi
      exact printsTo_get _ _ _ _ hi
    · unfold findL
      rw [if_neg (by omega), printsTo_len, hpl]

theorem toListP_inj {a b : ByteArray} (h : a.toList = b.toList) : a = b := by
  rw [ByteArray.toList_eq, ByteArray.toList_eq] at h
  exact ByteArray.ext (Array.toList_inj.1 h)
theorem eqP_no {a b : ByteArray} (h : a ≠ b) : (a.toList == b.toList) = false := by
  rw [Bool.eq_false_iff]
  intro e
  exact h (toListP_inj (by simpa using e))
theorem extract_piece (s : ByteArray) (i k : Nat) : (s.extract i (i + k)).data.toList = pieceL s.data.toList k i := by
  rw [ByteArray.data_extract, Array.toList_extract, List.extract_eq_take_drop, pieceL]
  congr 1
  omega
theorem piece_iff (s p : ByteArray) (i : Nat) : s.extract i (i + p.size) = p ↔ pieceL s.data.toList p.data.toList.length i = p.data.toList := by
  have hpl : p.data.toList.length = p.size := rfl
  rw [hpl, ← extract_piece]
  constructor
  · intro h; rw [h]
  · intro h; exact ByteArray.ext (Array.toList_inj.1 h)

theorem findTo_yes {s p : List UInt8} {i : Nat} (h : pieceL s p.length i = p) : intCells (findTo s p (i + 1)) = intCells (findTo s p i) ++ [.int .i64 i] := by
  rw [findTo, if_pos h, intCells_append]; rfl
theorem findTo_no {s p : List UInt8} {i : Nat} (h : ¬ pieceL s p.length i = p) : findTo s p (i + 1) = findTo s p i := by
  rw [findTo, if_neg h]

theorem cells_int {w : World} {b o : Nat} {L : List Int} (i : Nat) (x : Int) (hx : L.getD i 0 = x) (hi : i < L.length) (hc : ∀ j v, (intCells L)[j]? = some v → w.cell? ⟨b, o + j, none⟩ = some v) : w.cell? ⟨b, o + i, none⟩ = some (.int .i64 x) := by
  refine hc i _ ?_
  subst hx
  simp [intCells, List.getD, List.getElem?_eq_getElem hi]

end Go.Proofs.Ytclblnkeakkdeaa
