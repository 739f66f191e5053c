/-
  The contract of the model's function ShelfDocs. Condition: rows have at most 2^21 entries. (Written by wip/tools/ch5_docs.py.)
-/
import Derived.Test.YtclblnkeakkdeaaShelfE
import Derived.Test.YtclblnkeakkdeaaMathDocs
namespace Go.Proofs.Ytclblnkeakkdeaa
open Go.RowKit

open Classical in
/-- The texts of a shelf. -/
noncomputable def docsL5 (l : List En) : List Int := if shOk l then rowI (l.map fun x => x.2.1) else []
theorem docsL5_not {l : List En} (h : ¬ shOk l) : docsL5 l = [] := by rw [docsL5, if_neg h]
theorem docsL5_ok {l : List En} (h : shOk l) : docsL5 l = rowI (l.map fun x => x.2.1) := by rw [docsL5, if_pos h]

theorem ints_len5 {w : World} {B : Nat} {e : TypeId} {a : Option Addr} {n c : Nat} {l : List Int} (h : w.ownsRow B e 1 (.slice a n c) n (intCells l)) : n = l.length := by
  have := h.1
  simp only [intCells, List.length_map] at this; omega
theorem intCells_at5 {w : World} {b o : Nat} {L : List Int} (hc : CellsAt w (some ⟨b, o, none⟩) (intCells L)) (i : Nat) (x : Int) (hi : i < L.length) (hx : L[i] = x) : w.cell? ⟨b, o + i, none⟩ = some (.int .i64 x) := by
  obtain ⟨b', o', ha, _, h⟩ := hc.spot (fun e => by have := congrArg List.length e; simp [intCells] at this; rw [this] at hi; simp at hi)
  obtain ⟨rfl, rfl⟩ := (by simpa using ha : b = b' ∧ o = o')
  refine h i _ ?_
  simp [intCells, hi, hx]

set_option maxRecDepth 8000 in
set_option maxHeartbeats 40000000 in
theorem specDocs5_any (l : List En) (a : Option Addr) (n c : Nat) (w : World) (hn : n = l.length) (hl : n ≤ 2097152) (hat : CellsAt w a (entsC l)) :
    Calls Try.prog 29 #[.slice a n c] w fun e w' => ∃ g' n' c', e = .returned (.slice (some ⟨g', 0, none⟩) n' c') ∧ One w w.heap.size w' 3 1 (some ⟨g', 0, none⟩) n' c' (intCells (docsL5 l)) := by
  by_cases hok : shOk l
  · have c1 := fun w h => specShelfOk_is true l a n c w ⟨fun _ => hok, fun _ => rfl⟩ hn (by omega) h
    have HR := Lib.hid (docsL5_ok hok)
    have HN := Lib.hid hn
    have HAT := Lib.hid hat
    clear hn hok hat
    go_enter Try.func29, Try.ntmps29
    go_wp2_with fail
    refine (c1 _ (HAT.out.allocW _)).mono ?_
    rintro e w2 ⟨rfl, hb2⟩
    have hone0 : One w w.heap.size w2 3 1 (some ⟨w.heap.size, 0, none⟩) 0 0 (intCells (rowI ((l.take 0).map fun x => x.2.1))) := (One.empty w 3 1).later hb2
    clear hb2 c1
    go_wp2
    go_loopw [3, 4] (fun o_ k_ wr => ∃ k : Nat, k ≤ n ∧ k_ = .int .i64 k ∧ ∃ g m d, o_ = .slice (some ⟨g, 0, none⟩) m d ∧ m ≤ k ∧ One w w.heap.size wr 3 1 (some ⟨g, 0, none⟩) m d (intCells (rowI ((l.take k).map fun x => x.2.1)))) (fun _ k_ _ => n - (intOf k_).toNat)
    case atStart => exact ⟨0, Nat.zero_le _, rfl, _, 0, _, rfl, Nat.le_refl _, hone0⟩
    case round =>
      clear hone0
      obtain ⟨k, hk, rfl, g, m, d, rfl, hmk, hone⟩ := hrel
      by_cases hlt : k < n
      · have hkl : k < l.length := by have := HN.out; omega
        obtain ⟨x, hx⟩ : ∃ x, l[k].1 = x := ⟨_, rfl⟩
        obtain ⟨y, hy⟩ : ∃ y, l[k].2.1 = y := ⟨_, rfl⟩
        obtain ⟨z, hz⟩ : ∃ z, l[k].2.2 = z := ⟨_, rfl⟩
        have hm : l[k] = (x, y, z) := by rw [← hx, ← hy, ← hz]
        obtain ⟨b, o, rfl, hb9, f1, f2, f3⟩ := ent_cells HAT.out hkl hm
        obtain ⟨C, hC⟩ : ∃ C, rowI ((l.take k).map fun x => x.2.1) = C := ⟨_, rfl⟩
        have HNX := Lib.hid (show rowI ((l.take (k + 1)).map fun x => x.2.1) = putI y C by
          rw [List.take_succ_eq_append_getElem hkl, List.map_append, hm, ← hC, putI_snoc]; rfl)
        rw [hC] at hone
        have HM := Lib.hid (ints_len5 hone.own)
        obtain ⟨hmd, hd9⟩ := hone.cap
        have HG := Lib.hid (show ∀ w', Below w.heap.size w w' → w'.cell? ⟨b, o + k * 3 + 1, none⟩ = some (.int .i64 y) from fun w' h => below_ents h hb9 f2)
        have HO := Lib.hid hone
        have z1 : (k : Int) < (n : Int) := by omega
        have z2 : (0 : Int) ≤ (k : Int) := by omega
        have hB0 := hone.below
        clear hx hy hz hm f1 f2 f3 hC hone
        go_wp2
        go_loopw [5] (fun p_ wi => ∃ p : Nat, p ≤ m ∧ p_ = .int .i64 p ∧ Hid (∀ i, i < p → ∀ h : i < C.length, C[i] < y) ∧ ∃ q, wi = wr.drewN q) (fun p_ _ => m - (intOf p_).toNat)
        case atStart => exact ⟨0, Nat.zero_le _, rfl, Lib.hid (fun i h => absurd h (Nat.not_lt_zero _)), 0, rfl⟩
        case round =>
          obtain ⟨p, hp, rfl, HP, q, rfl⟩ := hrel
          have g5 := HG.out _ hB0
          by_cases hpm : p < m
          · have hpC : p < C.length := by have := HM.out; omega
            obtain ⟨u, hu⟩ : ∃ u, C[p] = u := ⟨_, rfl⟩
            have g6 : wr.cell? ⟨g, p, none⟩ = some (.int .i64 u) := by have h := intCells_at5 HO.out.at_ p u hpC hu; rwa [Nat.zero_add] at h
            have z3 : (p : Int) < (m : Int) := by omega
            have z4 : (0 : Int) ≤ (p : Int) := by omega
            have t1 : decide (p < m) = true := decide_eq_true hpm
            have t2 : (p == m) = false := by simp; omega
            have t3 : ((p : Int) == (m : Int)) = false := by simp; omega
            have HU := Lib.hid hu
            clear hu
            by_cases huy : u < y
            · have HP2 := Lib.hid (show ∀ i, i < p + 1 → ∀ h : i < C.length, C[i] < y from fun i h1 h2 => by
                by_cases e : i = p
                · subst e; rw [HU.out]; exact huy
                · exact HP.out i (by omega) h2)
              clear HP
              go_wp2
              go_quiet (fail)
              go_wp2
              go_roundw
              case rel => exact ⟨p + 1, by omega, by go_num, HP2, _, rfl⟩
              case measure => simp [intOf]; omega
            · have hput := putI_at (X := y) (by have := HM.out; omega) HP.out (fun h => by rw [HU.out]; exact huy)
              rw [List.getElem?_eq_getElem hpC, HU.out] at hput
              have t4 : decide (u < y) = false := decide_eq_false huy
              by_cases he : u = y
              · have HE := Lib.hid (show putI y C = C by rw [hput, if_pos (by rw [he])])
                have t5 : (u == y) = true := by rw [he]; exact beq_self_eq_true _
                have t6 : (u != y) = false := by rw [bne, t5]; rfl
                clear HP hput he huy
                go_wp2
                go_quiet (fail)
                go_wp2
                go_quiet (fail)
                go_wp2
                go_roundw
                case rel => exact ⟨k + 1, by omega, by go_num, g, m, d, rfl, by omega, by rw [HNX.out, HE.out]; exact HO.out.drewN _⟩
                case measure => simp [intOf]; omega
              · have HE := Lib.hid (hput.trans (if_neg (fun h => he (by injection h))))
                have t5 : (u == y) = false := by simpa using he
                have t6 : (u != y) = true := by rw [bne, t5]; rfl
                clear HP hput he huy
                go_wp2
                go_quiet (fail)
                go_wp2
                go_quiet (fail)
                go_wp2_with fail
                generalize hW : World.drewN _ _ = wz
                have HOz := Lib.hid (show One w w.heap.size wz 3 1 (some ⟨g, 0, none⟩) m d (intCells C) by rw [← hW]; first | exact HO.out.drewN _ | exact (HO.out.drewN _).drewN _ | exact ((HO.out.drewN _).drewN _).drewN _)
                clear hW g5 g6
                have g5 := HG.out _ HOz.out.below
                have hbz : w.heap.size ≤ wz.heap.size := HOz.out.base
                have hbel := HOz.out.below
                have HTs := Lib.hid (show CellsAt wz (some ⟨g, 0, none⟩) (intCells (C.take p)) by rw [← intCells_takeE]; exact HOz.out.at_.upTo p)
                have HL1 := Lib.hid (show (intCells (C.take p)).length = p by simp only [intCells, List.length_map, List.length_take]; have := HM.out; omega)
                have HD := Lib.hid (fun (w' : World) (hb : Below wz.heap.size wz w') => (show CellsAt wz (some ⟨g, p, none⟩) (intCells (C.drop p)) by rw [← intCells_drop]; have h := HOz.out.at_.from_lit p; rwa [Nat.zero_add] at h).below hb)
                have HL2 := Lib.hid (show (intCells (C.drop p)).length = m - p by simp only [intCells, List.length_map, List.length_drop]; have := HM.out; omega)
                have i5 : ¬ d = p := by omega
                have i1 : (0 : Int) ≤ (p : Int) := by omega
                have i2 : (p : Int) ≤ (d : Int) := by omega
                have i3 : (p : Int) ≤ (m : Int) := by omega
                have i4 : p ≤ d := by omega
                go_region_held3 (fun w' => w'.cell? ⟨b, o + k * 3 + 1, none⟩ = some (.int .i64 y))
                  (first | exact g3 | (refine HG.out _ ?_; first | exact hbel.trans (hs5.below.mono hbz) | exact hbel.trans (hs4.below.mono hbz) | (refine hbel.trans ?_; refine Below.mono ?_ hbz; (repeat (first | exact hs3.below | refine Below.drew ?_ | refine Below.alloc ?_ (by first | exact hs3.base | omega | (simp; omega)) _)); done) | ((repeat (first | exact hbel | refine Below.drew ?_ | refine Below.alloc ?_ (by first | exact Nat.le_refl _ | omega | (simp; done) | (simp; omega)) _)); done)))
                  ((first
                    | (refine step_append_to wz wz.heap.size (some ⟨wz.heap.size, 0, none⟩) 0 0 [] (some ⟨g, 0, none⟩) p d (intCells (C.take p)) p (intCells (C.take p)) (by omega) (by simp) rfl (.tmp 51) (.tmp 54) 33 (by rfl) (by rfl) (by rfl) Try.ulI3 Try.infoI3 rfl (by decide) (by rw [HL1.out]; omega) (intCells_one _) (by unfold maxLen; omega) (by omega) (by repeat (first | exact One.empty _ _ _ | exact One.second _ _ _ _ | refine One.drew ?_ | refine One.alloc ?_ _)) (by repeat (first | exact HTs.out | refine CellsAt.drewW ?_ | refine CellsAt.allocW ?_ _)) ?_; intro as3 cs3 ws3 hs3 gs3)
                    | (refine step_append_to wz wz.heap.size (some ⟨wz.heap.size + 1, 0, none⟩) 0 0 [] (some ⟨g, 0, none⟩) p d (intCells (C.take p)) p (intCells (C.take p)) (by omega) (by simp) rfl (.tmp 51) (.tmp 54) 33 (by rfl) (by rfl) (by rfl) Try.ulI3 Try.infoI3 rfl (by decide) (by rw [HL1.out]; omega) (intCells_one _) (by unfold maxLen; omega) (by omega) (by repeat (first | exact One.empty _ _ _ | exact One.second _ _ _ _ | refine One.drew ?_ | refine One.alloc ?_ _)) (by repeat (first | exact HTs.out | refine CellsAt.drewW ?_ | refine CellsAt.allocW ?_ _)) ?_; intro as3 cs3 ws3 hs3 gs3)
                    | (refine step_append_to wz wz.heap.size as3 p cs3 (intCells (C.take p)) (some ⟨ws3.heap.size, 0, none⟩) 1 1 [.int .i64 y] (p + 1) (intCells (C.take p) ++ [.int .i64 y]) (by omega) (by rfl) rfl (.tmp 55) (.tmp 61) 33 (by rfl) (by rfl) (by rfl) Try.ulI3 Try.infoI3 rfl (by decide) (by rfl) (by simp [Value.oneCell']) (by unfold maxLen; omega) (by omega) (by repeat (first | exact hs3 | refine One.drew ?_ | refine One.alloc ?_ _)) (by repeat (first | exact cellsAt_new _ _ _ _ (by rfl) | refine CellsAt.drewW ?_ | refine CellsAt.allocW ?_ _)) ?_; intro as4 cs4 ws4 hs4 gs4)
                    | (refine step_append_to wz wz.heap.size as3 p cs3 (intCells (C.take p)) (some ⟨wz.heap.size + 1, 0, none⟩) 1 1 [.int .i64 y] (p + 1) (intCells (C.take p) ++ [.int .i64 y]) (by omega) (by rfl) rfl (.tmp 55) (.tmp 61) 33 (by rfl) (by rfl) (by rfl) Try.ulI3 Try.infoI3 rfl (by decide) (by rfl) (by simp [Value.oneCell']) (by unfold maxLen; omega) (by omega) (by repeat (first | exact hs3 | refine One.drew ?_ | refine One.alloc ?_ _)) (by repeat (first | exact cellsAt_new _ _ _ _ (by simp) | refine CellsAt.drewW ?_ | refine CellsAt.allocW ?_ _ | (refine CellsAt.grown ?_ gs3 ?_) | (intro b o hh; simp at hh; simp [Value.ownBlock]; omega))) ?_; intro as4 cs4 ws4 hs4 gs4)
                    | (refine step_append_to wz wz.heap.size as3 p cs3 (intCells (C.take p)) (some ⟨wz.heap.size, 0, none⟩) 1 1 [.int .i64 y] (p + 1) (intCells (C.take p) ++ [.int .i64 y]) (by omega) (by rfl) rfl (.tmp 55) (.tmp 61) 33 (by rfl) (by rfl) (by rfl) Try.ulI3 Try.infoI3 rfl (by decide) (by rfl) (by simp [Value.oneCell']) (by unfold maxLen; omega) (by omega) (by repeat (first | exact hs3 | refine One.drew ?_ | refine One.alloc ?_ _)) (by repeat (first | exact cellsAt_new _ _ _ _ (by simp) | refine CellsAt.drewW ?_ | refine CellsAt.allocW ?_ _ | (refine CellsAt.grown ?_ gs3 ?_) | (intro b o hh; simp at hh; simp [Value.ownBlock]; omega))) ?_; intro as4 cs4 ws4 hs4 gs4)
                    | (refine step_append_to wz wz.heap.size as4 (p + 1) cs4 (intCells (C.take p) ++ [.int .i64 y]) (some ⟨g, p, none⟩) (m - p) (d - p) (intCells (C.drop p)) (p + 1 + (m - p)) (intCells (C.take p) ++ [.int .i64 y] ++ intCells (C.drop p)) (by omega) (by simp) rfl (.tmp 62) (.tmp 65) 33 (by rfl) (by rfl) (by rfl) Try.ulI3 Try.infoI3 rfl (by decide) (by rw [HL2.out]; omega) (intCells_one _) (by unfold maxLen; omega) (by omega) (by repeat (first | exact hs4 | refine One.drew ?_)) (by repeat (first | exact HD.out _ hs4.below | refine CellsAt.drewW ?_)) ?_; intro as5 cs5 ws5 hs5 gs5)))
                all_goals go_wp2
                all_goals (
                  obtain ⟨gs, rfl⟩ := hs5.addr (by omega)
                  have hfin := hs5.under HOz.out.below HOz.out.base
                  have HF := Lib.hid (show One w w.heap.size ws5 3 1 (some ⟨gs, 0, none⟩) (p + 1 + (m - p)) cs5 (intCells (rowI ((l.take (k + 1)).map fun x => x.2.1))) by
                    rw [HNX.out, HE.out, intCells_append]
                    have e9 : intCells (y :: C.drop p) = [.int .i64 y] ++ intCells (C.drop p) := by rfl
                    rw [e9, ← List.append_assoc]
                    exact hfin)
                  clear hfin hs5
                  go_roundw
                  case rel => exact ⟨k + 1, by omega, by go_num, gs, _, cs5, rfl, by omega, HF.out⟩
                  case measure => simp [intOf]; omega)
          · obtain rfl : p = m := by omega
            have HE : Hid (putI y C = C.take p ++ y :: C.drop p) := Lib.hid (by
              rw [putI_at (X := y) (by have := HM.out; omega) HP.out (fun h => by have := HM.out; omega)]
              rw [if_neg (by rw [List.getElem?_eq_none (by have := HM.out; omega)]; simp)])
            clear HP hp hpm
            go_wp2
            go_quiet (fail)
            go_wp2
            go_quiet (fail)
            go_wp2_with fail
            generalize hW : World.drewN _ _ = wz
            have HOz := Lib.hid (show One w w.heap.size wz 3 1 (some ⟨g, 0, none⟩) p d (intCells C) by rw [← hW]; first | exact HO.out.drewN _ | exact (HO.out.drewN _).drewN _ | exact ((HO.out.drewN _).drewN _).drewN _)
            clear hW g5
            have g5 := HG.out _ HOz.out.below
            have hbz : w.heap.size ≤ wz.heap.size := HOz.out.base
            have hbel := HOz.out.below
            have HTs := Lib.hid (show CellsAt wz (some ⟨g, 0, none⟩) (intCells (C.take p)) by rw [← intCells_takeE]; exact HOz.out.at_.upTo p)
            have HL1 := Lib.hid (show (intCells (C.take p)).length = p by simp only [intCells, List.length_map, List.length_take]; have := HM.out; omega)
            have i1 : (0 : Int) ≤ (p : Int) := by omega
            have i2 : (p : Int) ≤ (d : Int) := by omega
            have i3 : (p : Int) ≤ (p : Int) := by omega
            have i4 : p ≤ d := by omega
            go_region_held3 (fun w' => w'.cell? ⟨b, o + k * 3 + 1, none⟩ = some (.int .i64 y))
              (first | exact g3 | (refine HG.out _ ?_; first | exact hbel.trans (hs5.below.mono hbz) | exact hbel.trans (hs4.below.mono hbz) | (refine hbel.trans ?_; refine Below.mono ?_ hbz; (repeat (first | exact hs3.below | refine Below.drew ?_ | refine Below.alloc ?_ (by first | exact hs3.base | omega | (simp; omega)) _)); done) | ((repeat (first | exact hbel | refine Below.drew ?_ | refine Below.alloc ?_ (by first | exact Nat.le_refl _ | omega | (simp; done) | (simp; omega)) _)); done)))
              ((first
                | (refine step_append_to wz wz.heap.size (some ⟨wz.heap.size, 0, none⟩) 0 0 [] (some ⟨g, 0, none⟩) p d (intCells (C.take p)) p (intCells (C.take p)) (by omega) (by simp) rfl (.tmp 51) (.tmp 54) 33 (by rfl) (by rfl) (by rfl) Try.ulI3 Try.infoI3 rfl (by decide) (by rw [HL1.out]; omega) (intCells_one _) (by unfold maxLen; omega) (by omega) (by repeat (first | exact One.empty _ _ _ | exact One.second _ _ _ _ | refine One.drew ?_ | refine One.alloc ?_ _)) (by repeat (first | exact HTs.out | refine CellsAt.drewW ?_ | refine CellsAt.allocW ?_ _)) ?_; intro as3 cs3 ws3 hs3 gs3)
                | (refine step_append_to wz wz.heap.size (some ⟨wz.heap.size + 1, 0, none⟩) 0 0 [] (some ⟨g, 0, none⟩) p d (intCells (C.take p)) p (intCells (C.take p)) (by omega) (by simp) rfl (.tmp 51) (.tmp 54) 33 (by rfl) (by rfl) (by rfl) Try.ulI3 Try.infoI3 rfl (by decide) (by rw [HL1.out]; omega) (intCells_one _) (by unfold maxLen; omega) (by omega) (by repeat (first | exact One.empty _ _ _ | exact One.second _ _ _ _ | refine One.drew ?_ | refine One.alloc ?_ _)) (by repeat (first | exact HTs.out | refine CellsAt.drewW ?_ | refine CellsAt.allocW ?_ _)) ?_; intro as3 cs3 ws3 hs3 gs3)
                | (refine step_append_to wz wz.heap.size as3 p cs3 (intCells (C.take p)) (some ⟨ws3.heap.size, 0, none⟩) 1 1 [.int .i64 y] (p + 1) (intCells (C.take p) ++ [.int .i64 y]) (by omega) (by rfl) rfl (.tmp 55) (.tmp 61) 33 (by rfl) (by rfl) (by rfl) Try.ulI3 Try.infoI3 rfl (by decide) (by rfl) (by simp [Value.oneCell']) (by unfold maxLen; omega) (by omega) (by repeat (first | exact hs3 | refine One.drew ?_ | refine One.alloc ?_ _)) (by repeat (first | exact cellsAt_new _ _ _ _ (by rfl) | refine CellsAt.drewW ?_ | refine CellsAt.allocW ?_ _)) ?_; intro as4 cs4 ws4 hs4 gs4)
                | (refine step_append_to wz wz.heap.size as3 p cs3 (intCells (C.take p)) (some ⟨wz.heap.size + 1, 0, none⟩) 1 1 [.int .i64 y] (p + 1) (intCells (C.take p) ++ [.int .i64 y]) (by omega) (by rfl) rfl (.tmp 55) (.tmp 61) 33 (by rfl) (by rfl) (by rfl) Try.ulI3 Try.infoI3 rfl (by decide) (by rfl) (by simp [Value.oneCell']) (by unfold maxLen; omega) (by omega) (by repeat (first | exact hs3 | refine One.drew ?_ | refine One.alloc ?_ _)) (by repeat (first | exact cellsAt_new _ _ _ _ (by simp) | refine CellsAt.drewW ?_ | refine CellsAt.allocW ?_ _ | (refine CellsAt.grown ?_ gs3 ?_) | (intro b o hh; simp at hh; simp [Value.ownBlock]; omega))) ?_; intro as4 cs4 ws4 hs4 gs4)
                | (refine step_append_to wz wz.heap.size as3 p cs3 (intCells (C.take p)) (some ⟨wz.heap.size, 0, none⟩) 1 1 [.int .i64 y] (p + 1) (intCells (C.take p) ++ [.int .i64 y]) (by omega) (by rfl) rfl (.tmp 55) (.tmp 61) 33 (by rfl) (by rfl) (by rfl) Try.ulI3 Try.infoI3 rfl (by decide) (by rfl) (by simp [Value.oneCell']) (by unfold maxLen; omega) (by omega) (by repeat (first | exact hs3 | refine One.drew ?_ | refine One.alloc ?_ _)) (by repeat (first | exact cellsAt_new _ _ _ _ (by simp) | refine CellsAt.drewW ?_ | refine CellsAt.allocW ?_ _ | (refine CellsAt.grown ?_ gs3 ?_) | (intro b o hh; simp at hh; simp [Value.ownBlock]; omega))) ?_; intro as4 cs4 ws4 hs4 gs4)
                | (refine step_append_to wz wz.heap.size as4 (p + 1) cs4 (intCells (C.take p) ++ [.int .i64 y]) _ 0 _ (intCells []) (p + 1 + 0) (intCells (C.take p) ++ [.int .i64 y] ++ intCells []) (by omega) (by simp) rfl (.tmp 62) (.tmp 65) 33 (by rfl) (by rfl) (by rfl) Try.ulI3 Try.infoI3 rfl (by decide) (by rfl) (intCells_one _) (by unfold maxLen; omega) (by omega) (by repeat (first | exact hs4 | refine One.drew ?_)) (by repeat (first | exact cellsAt_nil _ _ | refine CellsAt.drewW ?_)) ?_; intro as5 cs5 ws5 hs5 gs5)))
            all_goals go_wp2
            all_goals (
              obtain ⟨gs, rfl⟩ := hs5.addr (by omega)
              have hfin := hs5.under HOz.out.below HOz.out.base
              have HF := Lib.hid (show One w w.heap.size ws5 3 1 (some ⟨gs, 0, none⟩) (p + 1 + 0) cs5 (intCells (rowI ((l.take (k + 1)).map fun x => x.2.1))) by
                rw [HNX.out, HE.out, intCells_append]
                have e9 : intCells (y :: C.drop p) = [.int .i64 y] ++ intCells [] := by rw [List.drop_of_length_le (by have := HM.out; omega)]; rfl
                rw [e9, ← List.append_assoc]
                exact hfin)
              clear hfin hs5
              go_roundw
              case rel => exact ⟨k + 1, by omega, by go_num, gs, _, cs5, rfl, by omega, HF.out⟩
              case measure => simp [intOf]; omega)
      · have HF := Lib.hid (show One w w.heap.size wr 3 1 (some ⟨g, 0, none⟩) m d (intCells (docsL5 l)) by
          have h := hone
          rw [List.take_of_length_le (by have := HN.out; omega)] at h
          rw [HR.out]
          exact h)
        clear hone
        go_wp2
        go_ret
        exact ⟨_, _, _, rfl, HF.out⟩
  · have c1 := fun w h => specShelfOk_is false l a n c w ⟨(fun h => absurd h (by decide)), (fun h => absurd h hok)⟩ hn (by omega) h
    rw [docsL5_not hok]
    have HAT := Lib.hid hat
    clear hn hok hat
    go_enter Try.func29, Try.ntmps29
    go_wp2_with fail
    refine (c1 _ (HAT.out.allocW _)).mono ?_
    rintro e w2 ⟨rfl, hb2⟩
    have hone0 : One w w.heap.size w2 3 1 (some ⟨w.heap.size, 0, none⟩) 0 0 (intCells []) := (One.empty w 3 1).later hb2
    clear hb2 c1
    go_wp2
    go_ret
    exact ⟨_, _, _, rfl, hone0⟩

end Go.Proofs.Ytclblnkeakkdeaa
