/-
  The contract of the program's function ShelfDocs. Condition: shelves have at most 2^22 entries.
-/
import Derived.Test.YtclblnkeakkdeaaShelfF
import Derived.Test.YtclblnkeakkdeaaShelfL
import Derived.Test.YtclblnkeakkdeaaNums
namespace Go.Proofs.Ytclblnkeakkdeaa
open Go.RowKit

set_option maxHeartbeats 4000000 in
theorem implDocs5_any (l : List En) (a : Option Addr) (n c : Nat) (w : World) (hn : n = l.length) (hl : n ≤ 4194304) (hat : CellsAt w a (entsC l)) :
    Calls Try.prog 23 #[.slice a n c] w fun e w' => ∃ a' n' c', e = .returned (.slice a' n' c') ∧ One w w.heap.size w' 3 1 a' n' c' (intCells (docsL5 l)) := by
  by_cases hok : shOk l
  · have c1 := fun w h => implShelfOk_is true l a n c w ⟨fun _ => hok, fun _ => rfl⟩ hn hl h
    have HR := Lib.hid (docsL5_ok hok)
    have HN := Lib.hid hn
    have HAT := Lib.hid hat
    clear hn hok hat
    go_enter Try.func23, Try.ntmps23
    go_wp2_with fail
    refine (c1 _ HAT.out).mono ?_
    rintro e w2 ⟨rfl, hb2⟩
    have hone0 : One w w.heap.size w2 3 1 none 0 0 (intCells ((l.take 0).map fun x => x.2.1)) := (One.nil w 3 1).later hb2
    clear hb2 c1
    go_wp2
    go_loopw [3, 10] (fun o_ k_ wr => ∃ k : Nat, k ≤ n ∧ k_ = .int .i64 k ∧ ∃ a' c', o_ = .slice a' k c' ∧ One w w.heap.size wr 3 1 a' k c' (intCells ((l.take k).map fun x => x.2.1))) (fun _ k_ _ => n - (intOf k_).toNat)
    case atStart => exact ⟨0, Nat.zero_le _, rfl, _, _, rfl, hone0⟩
    case round =>
      clear hone0
      obtain ⟨k, hk, rfl, a', c', rfl, hone⟩ := hrel
      by_cases hlt : k < n
      · have hkl : k < l.length := by have := HN.out; omega
        obtain ⟨x, hx⟩ : ∃ x, l[k].1 = x := ⟨_, rfl⟩
        obtain ⟨y, hy⟩ : ∃ y, l[k].2.1 = y := ⟨_, rfl⟩
        obtain ⟨z, hz⟩ : ∃ z, l[k].2.2 = z := ⟨_, rfl⟩
        have hm : l[k] = (x, y, z) := by rw [← hx, ← hy, ← hz]
        obtain ⟨b, o, rfl, hb9, g1, g2, g3⟩ := ent_cells (HAT.out.below hone.below) hkl hm
        have HS := Lib.hid (show intCells ((l.take (k + 1)).map fun x => x.2.1) = intCells ((l.take k).map fun x => x.2.1) ++ [.int .i64 y] by
          rw [List.take_succ_eq_append_getElem hkl, List.map_append, hm]; exact intCells_snoc _ _)
        have z1 : (k : Int) < (n : Int) := by omega
        have z0 : (0 : Int) ≤ (k : Int) := by omega
        clear hx hy hz hm
        go_wp2_with (at_builtin; refine wpList_append_row rfl (.tmp 13) (.tmp 19) 33 rfl Try.ulI3 Try.infoI3 rfl (by decide) hone rfl #[.int .i64 y] rfl rfl (by simp [Value.oneCell']) (by unfold maxLen; omega) (by omega) ?_; intro a5 c5 w5 h5)
        go_roundw
        case rel => exact ⟨k + 1, by omega, by go_num, a5, c5, rfl, by rw [HS.out]; exact h5⟩
        case measure => simp [intOf]; omega
      · have hO : One w w.heap.size wr 3 1 a' k c' (intCells (l.map fun x => x.2.1)) := by
          have h := hone
          rwa [List.take_of_length_le (by have := HN.out; omega)] at h
        have c3 := implUp_any k (l.map fun x => x.2.1) a' k c' wr (Nat.le_refl _) (ints_len5 hO.own) (by omega) hO.cap.1 hO.at_
        have HB := Lib.hid hO.below
        clear hone hO
        go_wp2_with fail
        refine c3.mono ?_
        rintro e w4 ⟨a5, n5, c5, rfl, h4⟩
        go_wp2
        go_ret
        exact ⟨_, _, _, rfl, by rw [HR.out]; exact h4.under HB.out HB.out.size⟩
  · have c1 := fun w h => implShelfOk_is false l a n c w ⟨(fun h => absurd h (by decide)), (fun h => absurd h hok)⟩ hn hl h
    rw [docsL5_not hok]
    have HAT := Lib.hid hat
    clear hn hok hat
    go_enter Try.func23, Try.ntmps23
    go_wp2_with fail
    refine (c1 _ HAT.out).mono ?_
    rintro e w2 ⟨rfl, hb2⟩
    clear c1
    go_wp2
    go_ret
    exact ⟨_, _, _, rfl, (One.nil w2 3 1).under hb2 hb2.size⟩

end Go.Proofs.Ytclblnkeakkdeaa
