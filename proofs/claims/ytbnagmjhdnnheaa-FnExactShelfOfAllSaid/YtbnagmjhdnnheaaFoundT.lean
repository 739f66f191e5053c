/-
  The contract of the program's function ShelfOfAll. Conditions: texts have at most 2^20 bytes together.
-/
import Derived.Test.YtbnagmjhdnnheaaMathGrown
import Derived.Test.YtbnagmjhdnnheaaFoundS
import Derived.Test.YtbnagmjhdnnheaaShelfK
namespace Go.Proofs.Ytbnagmjhdnnheaa
open Go.RowKit

theorem sofTo_len (D : List ByteArray) (k w : Int) (m : Nat) (hm : m ≤ D.length) : (sofTo D k w m).length ≤ totalS (D.take m) := by
  induction m with
  | zero => exact Nat.zero_le _
  | succ m ih =>
    rw [sofTo_next, List.length_append, totalS_take D m (by omega), docAt_get (by omega)]
    have h1 := mkL_len D[m] k w
    have h2 := ih (by omega)
    have h3 := rowE_len (entsOf m (mkL D[m] k w))
    rw [entsOf, List.length_map] at h3
    rw [entsOf]
    omega

set_option maxHeartbeats 8000000 in
theorem implAll_any (D : List ByteArray) (a : Option Addr) (n c : Nat) (k v : Int) (R : List En) (w : World) (hR : allN D k v D.length = R) (hn : n = D.length) (hn9 : n ≤ 1048576) (hT : totalS D ≤ 1048576) (hv9 : v ≤ 9223372036854775807) (hat : CellsAt w a (strsC D)) :
    Calls Try.prog 42 #[.slice a n c, .int .i64 k, .int .i64 v] w fun e w' => ∃ a' n' c', e = .returned (.slice a' n' c') ∧ One w w.heap.size w' 68 3 a' n' c' (entsC R) := by
  subst hR
  have HN := Lib.hid hn
  have HAT := Lib.hid hat
  clear hn hat
  go_enter Try.func42, Try.ntmps42
  go_wp2
  go_loopw [7, 11] (fun u i_ wr => ∃ (i m d : Nat) (a' : Option Addr), i ≤ n ∧ i_ = .int .i64 (i : Int) ∧ u = .slice a' m d ∧ Hid (One w w.heap.size wr 68 3 a' m d (entsC (sofTo D k v i)))) (fun _ i_ _ => n - (intOf i_).toNat)
  case atStart => exact ⟨0, _, _, _, Nat.zero_le _, rfl, rfl, Lib.hid (One.nil w 68 3)⟩
  case round =>
    obtain ⟨i, m, d, a', hi, rfl, rfl, HO⟩ := hrel
    have hm9 : m ≤ 1048576 := by
      have h1 := ents_len HO.out.own
      have h2 := sofTo_len D k v i (by have := HN.out; omega)
      have h3 := totalS_take_le D i
      omega
    by_cases hlt : i < n
    · have hil : i < D.length := by have := HN.out; omega
      obtain ⟨b, o, rfl, hb9, hc⟩ := (HAT.out.below HO.out.below).str (fun e => by rw [e] at hil; simp at hil)
      obtain ⟨s, hs⟩ : ∃ s, D[i] = s := ⟨_, rfl⟩
      have e1 := hc i hil
      rw [hs] at e1
      have hsz : s.size ≤ 1048576 := by have h1 := totalS_get D i hil; rw [hs] at h1; omega
      have z1 : (i : Int) < (n : Int) := by omega
      have z0 : (0 : Int) ≤ (i : Int) := by omega
      obtain ⟨M, hM⟩ : ∃ M, mkL s k v = M := ⟨_, rfl⟩
      have hMl : M.length ≤ 1048576 := by rw [← hM]; exact Nat.le_trans (mkL_len s k v) hsz
      have c1 := fun w => implShelfOf_any (i : Int) s k v M w hM (by omega) hv9
      have hEl : (shelfL (i : Int) M).length ≤ 1048576 := by
        rw [shelfL, if_neg (by omega)]
        have h := rowE_len (M.map fun m => (m.1, (i : Int), m.2))
        rw [List.length_map] at h
        omega
      have HNEXT := Lib.hid (show entsC (sofTo D k v (i + 1)) = entsC (sofTo D k v i) ++ entsC (shelfL (i : Int) M) by
        rw [sofTo_next, docAt_get hil, hs, hM, entsC_append, shelfL, if_neg (by omega)]
        rfl)
      clear hM hs hc
      go_wp2_with fail
      refine (c1 _).mono ?_
      rintro e w2 ⟨a2, n2, d2, rfl, o2⟩
      have HL2 := Lib.hid (show (entsC (shelfL (i : Int) M)).length = n2 * 3 by rw [entsC_len, ← ents_len o2.own])
      have HC2 := Lib.hid o2.at_
      have hn2 : n2 ≤ 1048576 := by have := ents_len o2.own; omega
      have HO2 := Lib.hid (HO.out.later o2.below)
      clear c1 o2 HO hEl
      go_wp2_with (at_builtin; refine wpList_append_src rfl (.tmp 14) (.tmp 22) 24 rfl Try.ulE5 Try.infoE5 rfl (by decide) HO2.out rfl a2 n2 d2 rfl (entsC (shelfL (i : Int) M)) HL2.out HC2.out (entsC_one _) (by unfold maxLen; omega) (by omega) ?_; intro a5 c5 w5 h5)
      go_roundw
      case rel => exact ⟨i + 1, m + n2, c5, a5, by omega, by go_num, rfl, Lib.hid (by rw [HNEXT.out]; exact h5)⟩
      case measure => simp [intOf]; omega
    · have hin : i = D.length := by have := HN.out; omega
      have HE := Lib.hid (show rowE (sofTo D k v i) = allN D k v D.length by rw [hin]; exact sofTo_row D k v D.length)
      have c5 := implSorted_any m (sofTo D k v i) a' m d wr (Nat.le_refl _) (ents_len HO.out.own) (by omega) HO.out.cap.1 HO.out.at_
      have HB := Lib.hid HO.out.below
      clear hin
      go_wp2_with fail
      refine c5.mono ?_
      rintro e w6 ⟨a6, n6, c6, rfl, o6⟩
      go_wp2
      go_ret
      exact ⟨_, _, _, rfl, by rw [← HE.out]; exact o6.under HB.out HB.out.size⟩

end Go.Proofs.Ytbnagmjhdnnheaa
