/-
  The contracts of the model's functions PrintsOf and FindPrint. Condition: texts have at most 2^22 bytes.
-/
import Derived.Test.YtclblnkeakkdeaaPrint
import Derived.Test.YtclblnkeakkdeaaMem
import Derived.Deep.QuietTactic
import Derived.BigQuiet
import Derived.IntWalk
import Derived.Outline
namespace Go.Proofs.Ytclblnkeakkdeaa
open Go.RowKit

theorem Try.ulI3 : Try.prog.underlying 33 = some (.slice 3) := by kernel_rfl
theorem Try.infoI3 : (Try.prog.info? 3).map (fun i => (i.zero, i.size, i.bytes)) = some (some (.int .i64 0), 1, 8) := by kernel_rfl

theorem pieces_roll (s : ByteArray) (k i q : Nat) (hk : 0 < k) (hq : q = i + k) (h : q < s.size) :
    rollN (prN (pieceL s.data.toList k i)) k (s[i]'(by omega)).toNat s[q].toNat = prN (pieceL s.data.toList k (i + 1)) := by
  subst hq
  exact roll_piece s.data.toList k i 256 hk h (by decide)

theorem extract_first (s : ByteArray) (k : Nat) : (s.extract 0 k).data.toList = pieceL s.data.toList k 0 := by
  rw [ByteArray.data_extract, Array.toList_extract, List.extract_eq_take_drop, pieceL]
  simp

theorem printsK (s : List UInt8) (k i : Nat) {y : Nat} (hy : prN (pieceL s k i) = y) : intCells (printsTo s k (i + 1)) = intCells (printsTo s k i) ++ [.int .i64 y] := by
  rw [printsTo, intCells_append, hy]; rfl

theorem specPrintOf_is (s : ByteArray) (x : Nat) (w : World) (hs : s.size ≤ 4194304) (hx : prN s.data.toList = x) :
    Calls Try.prog 72 #[.string s] w fun e w' => e = .returned (.int .i64 x) ∧ w = w' := by
  subst hx; exact specPrintOf_any s w hs

theorem specPrintsOf_bad (s : ByteArray) (k : Int) (w : World) (h : k < 1 ∨ (s.size : Int) < k) :
    Calls Try.prog 108 #[.string s, .int .i64 k] w fun e w' => ∃ a n c, e = .returned (.slice a n c) ∧ One w w.heap.size w' 3 1 a n c (intCells []) := by
  by_cases hk : k < 1
  · clear h
    go_enter Try.func108, Try.ntmps108
    go_wp2
    go_ret
    exact ⟨_, _, _, rfl, One.empty _ _ _⟩
  · by_cases hk2 : (s.size : Int) < k
    · clear h
      go_enter Try.func108, Try.ntmps108
      go_wp2
      go_ret
      exact ⟨_, _, _, rfl, One.empty _ _ _⟩
    · omega

set_option maxHeartbeats 2000000 in
theorem specPrintsOf_ok (s : ByteArray) (k : Nat) (w : World) (hs : s.size ≤ 4194304) (h1 : 0 < k) (h2 : k ≤ s.size) :
    Calls Try.prog 108 #[.string s, .int .i64 k] w fun e w' => ∃ a n c, e = .returned (.slice a n c) ∧ One w w.heap.size w' 3 1 a n c (intCells (printsTo s.data.toList k (s.size - k + 1))) := by
  have hp := prN_lt (pieceL s.data.toList k 0)
  obtain ⟨x, hx⟩ : ∃ x, prN (pieceL s.data.toList k 0) = x := ⟨_, rfl⟩
  have HX := Lib.hid (show prN (s.extract 0 k).data.toList = x by rw [extract_first]; exact hx)
  have HX2 := Lib.hid hx
  have HR := Lib.hid (show intCells (printsTo s.data.toList k 1) = [] ++ [.int .i64 x] by rw [printsK s.data.toList k 0 hx]; rfl)
  have hxs : (s.extract 0 k).size ≤ 4194304 := by simp only [ByteArray.size_extract]; omega
  rw [hx] at hp
  clear hx
  go_enter Try.func108, Try.ntmps108
  go_wp2_with fail
  refine (specPrintOf_is _ _ _ hxs HX.out).mono ?_
  rintro e w1 ⟨rfl, hw⟩
  have h0 : One w w.heap.size w1 3 1 (some ⟨w.heap.size, 0, none⟩) 0 0 [] := by rw [← hw]; exact One.empty _ _ _
  clear hw
  go_wp2_with (at_builtin; refine wpList_append_row rfl (.tmp 22) (.tmp 24) 33 rfl Try.ulI3 Try.infoI3 rfl (by decide) h0 rfl #[.int .i64 x] rfl rfl (by simp [Value.oneCell']) (by unfold maxLen; omega) (by omega) ?_; intro a3 c3 w3 h3)
  have HS := Lib.hid (show s.data.toList.length = s.size from rfl)
  go_loopw [5, 6, 7] (fun v n q_ wr => ∃ i x q : Nat, q ≤ s.size ∧ q_ = .int .i64 q ∧ n = .int .i64 x ∧ x < 1000003 ∧ Hid (q = i + k ∧ prN (pieceL s.data.toList k i) = x) ∧ i ≤ s.size ∧ ∃ a c, v = .slice a (i + 1) c ∧ One w w.heap.size wr 3 1 a (i + 1) c (intCells (printsTo s.data.toList k (q - k + 1))))
    (fun _ _ q_ _ => s.size - (intOf q_).toNat)
  case atStart => exact ⟨0, x, k, h2, rfl, rfl, hp, Lib.hid ⟨by omega, HX2.out⟩, by omega, a3, c3, rfl, by rw [Nat.sub_self, HR.out]; exact h3⟩
  case round =>
    obtain ⟨i, x, q, hq, rfl, rfl, hx9, HQ, hi, a, c, rfl, hone⟩ := hrel
    by_cases hlt : q < s.size
    · have hqi := HQ.out.1
      have hii : i < s.size := by omega
      have hy : rollN (prN (pieceL s.data.toList k i)) k s[i].toNat s[q].toNat = prN (pieceL s.data.toList k (i + 1)) := pieces_roll s k i q h1 hqi hlt
      rw [HQ.out.2] at hy
      have hy9 := prN_lt (pieceL s.data.toList k (i + 1))
      obtain ⟨y, hyy⟩ : ∃ y, prN (pieceL s.data.toList k (i + 1)) = y := ⟨_, rfl⟩
      rw [hyy] at hy hy9
      have hki : q - k + 1 = i + 1 := by omega
      have hki2 : q + 1 - k = i + 1 := by omega
      rw [hki] at hone
      have HK := Lib.hid (show intCells (printsTo s.data.toList k (q + 1 - k + 1)) = intCells (printsTo s.data.toList k (i + 1)) ++ [.int .i64 y] by rw [hki2]; exact printsK s.data.toList k (i + 1) hyy)
      have HN := Lib.hid (show q + 1 = (i + 1) + k ∧ prN (pieceL s.data.toList k (i + 1)) = y from ⟨by omega, hyy⟩)
      have HY := Lib.hid hy
      have e1 : IntKind.i64.wrap ((q : Int) - (k : Int)) = (i : Int) := by rw [IntWalk.i64_in _ (by omega)]; omega
      have b1 : s[i].toNat ≤ 255 := by have := s[i].toNat_lt; omega
      have b2 : s[q].toNat ≤ 255 := by have := s[q].toNat_lt; omega
      have k9 : (k : Int) ≤ 9223372036854775807 := by omega
      have K9 := Lib.hid k9
      clear hqi hy hyy HQ k9 hki hki2
      go_wp2
      go_quiet ((go_at_call 121; exact Calls.quiet_of_same ((specRollPrint_ok _ _ _ _ y _ hx9 (by omega) K9.out b1 b2 HY.out).mono (fun _ _ h => ⟨h.1, h.2.symm⟩))))
      go_wp2_with (at_builtin; refine wpList_append_row rfl (.tmp 46) (.tmp 48) 33 rfl Try.ulI3 Try.infoI3 rfl (by decide) (hone.drewN _) rfl #[.int .i64 y] rfl rfl (by simp [Value.oneCell']) (by unfold maxLen; omega) (by omega) ?_; intro a5 c5 w5 h5)
      go_roundw
      case rel => exact ⟨i + 1, y, q + 1, by omega, by go_num, rfl, hy9, HN, by omega, a5, c5, rfl, by rw [HK.out]; exact h5⟩
      case measure => simp [intOf]; omega
    · obtain rfl : q = s.size := by omega
      have HO := Lib.hid hone
      clear hone
      go_wp2
      go_ret
      exact ⟨_, _, _, rfl, HO.out⟩

end Go.Proofs.Ytclblnkeakkdeaa
