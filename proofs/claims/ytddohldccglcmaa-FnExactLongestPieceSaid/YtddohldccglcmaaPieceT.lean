/-
  The contract of the program's function TurnedPieces. Condition: rows have at most 2^20 pieces. (Written by wip/tools/ch7_turned.py.)
-/
import Derived.Test.YtddohldccglcmaaPieceJ
namespace Go.Proofs.Ytddohldccglcmaa
open Go.RowKit

theorem turnMap_next (l : List En) (k : Nat) (hk : k < l.length) : (l.take (k + 1)).map turnE = (l.take k).map turnE ++ [turnE l[k]] := by
  rw [List.take_succ_eq_append_getElem hk, List.map_append]; rfl

set_option maxRecDepth 4000 in
set_option maxHeartbeats 8000000 in
theorem implTurned_any (l : List En) (a : Option Addr) (n c : Nat) (w : World) (hn : n = l.length) (hn9 : n ≤ 1048576) (hat : CellsAt w a (entsC l)) :
    Calls Try.prog 27 #[.slice a n c] w fun e w' => ∃ a' n' c', e = .returned (.slice a' n' c') ∧ One w w.heap.size w' 25 3 a' n' c' (entsC (turnL l)) := by
  have HN := Lib.hid hn
  have HAT := Lib.hid hat
  clear hn hat
  go_enter Try.func27, Try.ntmps27
  go_wp2
  go_loopw [3, 7] (fun v k_ wr => ∃ (k d : Nat) (a' : Option Addr), k ≤ n ∧ k_ = .int .i64 (k : Int) ∧ v = .slice a' k d ∧ Hid (One w w.heap.size wr 25 3 a' k d (entsC ((l.take k).map turnE)))) (fun _ k_ _ => n - (intOf k_).toNat)
  case atStart => exact ⟨0, _, _, Nat.zero_le _, rfl, rfl, Lib.hid (One.nil w 25 3)⟩
  case round =>
    obtain ⟨k, d, a', hk, rfl, rfl, HO⟩ := hrel
    by_cases hlt : k < n
    · have hkl : k < l.length := by have := HN.out; omega
      obtain ⟨x, hx⟩ : ∃ x, l[k].1 = x := ⟨_, rfl⟩
      obtain ⟨y, hy⟩ : ∃ x, l[k].2.1 = x := ⟨_, rfl⟩
      obtain ⟨z, hz⟩ : ∃ x, l[k].2.2 = x := ⟨_, rfl⟩
      have hm : l[k] = (x, y, z) := by rw [← hx, ← hy, ← hz]
      obtain ⟨b, o, rfl, hb9, e1, e2, e3⟩ := ent_cells HAT.out hkl hm
      have HKS := Lib.hid (show ∀ w', Below w.heap.size w w' → w'.cell? ⟨b, o + k * 3, none⟩ = some (.int .i64 x) ∧ w'.cell? ⟨b, o + k * 3 + 1, none⟩ = some (.int .i64 y) ∧ w'.cell? ⟨b, o + k * 3 + 2, none⟩ = some (.int .i64 z) from fun w' h => ⟨below_ents7 h hb9 e1, below_ents7 h hb9 e2, below_ents7 h hb9 e3⟩)
      have z1 : (k : Int) < (n : Int) := by omega
      have z0 : (0 : Int) ≤ (k : Int) := by omega
      have HNEXT := Lib.hid (show entsC ((l.take (k + 1)).map turnE) = entsC ((l.take k).map turnE) ++ [.int .i64 y, .int .i64 x, .int .i64 z] by rw [turnMap_next l k hkl, hm, entsC_snoc]; rfl)
      clear hx hy hz hm e1 e2 e3 hkl
      obtain ⟨e1, e2, e3⟩ := HKS.out wr HO.out.below
      go_wp2
      go_region_held3 (fun w' => w'.cell? ⟨b, o + k * 3, none⟩ = some (.int .i64 x) ∧ w'.cell? ⟨b, o + k * 3 + 1, none⟩ = some (.int .i64 y) ∧ w'.cell? ⟨b, o + k * 3 + 2, none⟩ = some (.int .i64 z)) (first | go_keep | exact HKS.out _ h3.below)
        ((refine step_append_to w w.heap.size a' k d (entsC ((l.take k).map turnE)) (some ⟨wr.heap.size, 0, none⟩) 1 1 [.int .i64 y, .int .i64 x, .int .i64 z] (k + 1) (entsC ((l.take (k + 1)).map turnE)) (by rfl) (by exact HNEXT.out.symm) (by rfl) (.tmp 10) (.tmp 27) 32 (by rfl) (by rfl) (by rfl) Try.ulP7 Try.infoP7 rfl (by decide) (by rfl) (by simp [Value.oneCell']) (by unfold maxLen; omega) (by omega) (by repeat (first | exact HO.out | refine One.drew ?_ | exact One.drewN HO.out _ | refine One.alloc ?_ _)) (by repeat (first | exact cellsAt_rec37 _ _ _ _ _ _ rfl | refine CellsAt.drewW ?_)) ?_; intro a3 c3 w3 h3 g3))
      go_wp2
      go_roundw
      case rel => exact ⟨k + 1, c3, a3, by omega, by go_num, rfl, Lib.hid h3⟩
      case measure => simp [intOf]; omega
    · obtain rfl : k = n := by omega
      have HE := Lib.hid (show l.take k = l from List.take_of_length_le (by have := HN.out; omega))
      have HM := Lib.hid (show k = (l.map turnE).length by rw [List.length_map]; exact HN.out)
      have HO := Lib.hid (show One w w.heap.size wr 25 3 a' k d (entsC (l.map turnE)) by have h := HO.out; rw [HE.out] at h; exact h)
      have hkd := HO.out.cap.1
      have HB := Lib.hid HO.out.below
      have c5 := implSorted7_any k (l.map turnE) a' k d wr (Nat.le_refl _) HM.out (by omega) hkd HO.out.at_
      clear hkd
      go_wp2_with fail
      refine c5.mono ?_
      rintro e w6 ⟨a6, n6, c6, rfl, o6⟩
      go_wp2
      go_ret
      exact ⟨_, _, _, rfl, o6.under HB.out HB.out.size⟩

end Go.Proofs.Ytddohldccglcmaa
