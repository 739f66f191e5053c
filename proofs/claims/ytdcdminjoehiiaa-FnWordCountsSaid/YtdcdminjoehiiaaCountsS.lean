/-
  The contract of the model's function WordCounts. Condition: the texts and their bytes are at most 2^20 together. (Written by wip/tools/ch2_specwc.py.)
-/
import Derived.Test.YtdcdminjoehiiaaCountsI
import Derived.Deep.RegionHeld3
namespace Go.Proofs.Ytdcdminjoehiiaa
open Go.RowKit

theorem insC_bound {l : List (ByteArray × Nat)} {N : Nat} (h : ∀ q ∈ l, q.2 ≤ N) (t : ByteArray) : ∀ q ∈ insC l t, q.2 ≤ N + 1 := by
  induction l with
  | nil => intro q hq; simp [insC] at hq; subst hq; simp
  | cons p r ih =>
    obtain ⟨x, m⟩ := p
    have hm := h (x, m) (by simp)
    have hr : ∀ q ∈ r, q.2 ≤ N := fun q hq => h q (by simp [hq])
    simp only at hm
    intro q hq
    rcases cmp3 x t with hc | rfl | hc
    · rw [insC_lt hc] at hq
      rcases List.mem_cons.1 hq with rfl | hq
      · simp only; omega
      · exact ih hr q hq
    · rw [insC_eq] at hq
      rcases List.mem_cons.1 hq with rfl | hq
      · simp only; omega
      · have := hr q hq; omega
    · rw [insC_gt hc] at hq
      rcases List.mem_cons.1 hq with rfl | hq
      · simp
      · have := h q hq; omega

theorem countC_bound (xs : List ByteArray) : ∀ q ∈ countC xs, q.2 ≤ xs.length := by
  have key : ∀ (xs : List ByteArray) (l : List (ByteArray × Nat)) (N : Nat), (∀ q ∈ l, q.2 ≤ N) → ∀ q ∈ xs.foldl insC l, q.2 ≤ N + xs.length := by
    intro xs
    induction xs with
    | nil => intro l N h q hq; exact h q hq
    | cons x xs ih =>
      intro l N h q hq
      have := ih (insC l x) (N + 1) (insC_bound h x) q hq
      simp only [List.length_cons]; omega
  intro q hq
  have := key xs [] 0 (by simp) q hq
  omega

theorem insW {C : List (ByteArray × Nat)} {t : ByteArray} {p : Nat} (h : insC C t = C.take p ++ (t, 1) :: C.drop p) : strsC (cntW (insC C t)) = strsC ((cntW C).take p) ++ [Value.string t] ++ strsC ((cntW C).drop p) := by
  rw [h]; simp [cntW, strsC, List.map_take, List.map_drop]
theorem insN {C : List (ByteArray × Nat)} {t : ByteArray} {p : Nat} (h : insC C t = C.take p ++ (t, 1) :: C.drop p) : intCells (cntN (insC C t)) = intCells ((cntN C).take p) ++ [Value.int .i64 1] ++ intCells ((cntN C).drop p) := by
  rw [h]; simp [cntN, intCells, List.map_take, List.map_drop]
theorem insL {C : List (ByteArray × Nat)} {t : ByteArray} {p m : Nat} (h : insC C t = C.take p ++ (t, 1) :: C.drop p) (hm : m = C.length) (hp : p ≤ m) : p + 1 + (m - p) = (insC C t).length := by
  rw [h]; simp; omega

set_option maxRecDepth 8000 in
set_option maxHeartbeats 40000000 in
theorem specWordCounts_any (xs : List ByteArray) (a : Option Addr) (n c : Nat) (w : World) (hn : n = xs.length) (hl : n ≤ 1048576) (hat : CellsAt w a (strsC xs)) :
    Calls Try.prog 35 #[.slice a n c] w fun e w' => ∃ a1 n1 c1 a2 n2 c2, e = .returned (.tuple #[.slice a1 n1 c1, .slice a2 n2 c2]) ∧
      Two w w.heap.size w' 9 1 a1 n1 c1 (strsC (cntW (countC xs))) 3 1 a2 n2 c2 (intCells (cntN (countC xs))) := by
  have HN := Lib.hid hn
  clear hn
  go_enter Try.func35, Try.ntmps35
  go_wp2
  go_loopw [4, 5, 6, 7] (fun v u i p wr => ∃ k : Nat, k ≤ n ∧ i = .int .i64 k ∧ ∃ b1 c1 g c2 m, v = .slice (some ⟨b1, 0, none⟩) m c1 ∧ u = .slice (some ⟨g, 0, none⟩) m c2 ∧ Hid (m = (countC (xs.take k)).length) ∧
      Two w w.heap.size wr 9 1 (some ⟨b1, 0, none⟩) m c1 (strsC (cntW (countC (xs.take k)))) 3 1 (some ⟨g, 0, none⟩) m c2 (intCells (cntN (countC (xs.take k)))))
    (fun _ _ i _ _ => n - (intOf i).toNat)
  case atStart => exact ⟨0, Nat.zero_le _, rfl, _, _, _, _, 0, rfl, rfl, Lib.hid rfl, (World.ownsRow_lit w #[] 0 (Nat.le_refl _) (Nat.zero_le _) rfl).alloc _, own_second _ _ _ _, by decide, heap_le_alloc2 _ _ _, below_alloc2 _ _ _⟩
  case round =>
    obtain ⟨k, hk, rfl, b1, c1, g, c2, m, rfl, rfl, HM, htwo⟩ := hrel
    obtain ⟨wo, rfl⟩ : ∃ wo, wo = wr := ⟨_, rfl⟩
    by_cases hlt : k < n
    · have hkl : k < xs.length := by rw [← HN.out]; exact hlt
      obtain ⟨b, o, rfl, hb0, hc⟩ := hat.str (fun e => by rw [e] at hkl; simp at hkl)
      obtain ⟨t, ht⟩ : ∃ t, xs[k] = t := ⟨_, rfl⟩
      have HG := Lib.hid (show ∀ w', Below w.heap.size w w' → w'.cell? ⟨b, o + k, none⟩ = some (.string t) from fun w' hb => by rw [hb.cell (p := ⟨b, o + k, none⟩) hb0, hc k hkl, ht])
      have hm9 : m ≤ 1048576 := by have h1 := countC_len (xs.take k); rw [← HM.out, List.length_take] at h1; omega
      obtain ⟨C, hC⟩ : ∃ C, countC (xs.take k) = C := ⟨_, rfl⟩
      have HK := Lib.hid (show countC (xs.take (k + 1)) = insC C t by rw [countC_take hkl, hC, ht])
      have HCB := Lib.hid (show ∀ q ∈ C, q.2 ≤ 1048576 from fun q hq => by
        rw [← hC] at hq
        have h := countC_bound _ q hq
        rw [List.length_take] at h; omega)
      rw [hC] at HM htwo
      have HCW := Lib.hid (cntW_len C)
      have HCN := Lib.hid (cntN_len C)
      obtain ⟨hcap1, hcap2⟩ := (show One w w.heap.size wo 9 1 (some ⟨b1, 0, none⟩) m c1 (strsC (cntW C)) from ⟨htwo.one, htwo.base, htwo.below⟩).cap
      obtain ⟨hcap3, hcap4⟩ := (show One w w.heap.size wo 3 1 (some ⟨g, 0, none⟩) m c2 (intCells (cntN C)) from ⟨htwo.two, htwo.base, htwo.below⟩).cap
      clear hc ht hC
      go_wp2
      go_loopw [7] (fun i wi => ∃ p : Nat, p ≤ m ∧ i = .int .i64 p ∧ (∃ q, wi = wo.drewN q) ∧ Hid (∀ i (hi : i < p) (h2 : i < C.length), ltB C[i].1 t = true)) (fun i _ => m - (intOf i).toNat)
      case atStart => exact ⟨0, Nat.zero_le _, rfl, ⟨0, rfl⟩, Lib.hid (fun i hi => by omega)⟩
      case round =>
        obtain ⟨p, hp, rfl, ⟨q, rfl⟩, HP⟩ := hrel
        by_cases hpm : p < m
        · have hpC : p < C.length := by rw [← HM.out]; exact hpm
          have g1 : wo.cell? ⟨b1, p, none⟩ = some (.string ((cntW C)[p]'(by rw [HCW.out]; exact hpC))) := by
            rw [htwo.one.cellAt p (by omega)]
            exact strsC_get _ p (by rw [HCW.out]; exact hpC)
          have g2 := HG.out _ htwo.below
          obtain ⟨x, hx⟩ : ∃ x, C[p].1 = x := ⟨_, rfl⟩
          have hx2 : (cntW C)[p]'(by rw [HCW.out]; exact hpC) = x := by simp [cntW, hx]
          rw [hx2] at g1
          clear hx2
          by_cases hlx : Op.bytesLess x.toList t.toList = true
          · have HP2 := Lib.hid (show ∀ i (hi : i < p + 1) (h2 : i < C.length), ltB C[i].1 t = true from fun i hi h2 => by
              by_cases hip : i = p
              · subst hip; rw [hx]; exact hlx
              · exact HP.out i (by omega) h2)
            clear hx HP
            go_wp2
            go_quiet (fail)
            go_wp2
            go_roundw
            case rel => exact ⟨p + 1, by omega, by go_num, ⟨_, rfl⟩, HP2⟩
            case measure => simp [intOf]; omega
          · have hlx' : Op.bytesLess x.toList t.toList = false := by simpa using hlx
            have hins := insC_at C t p (by omega) (fun i hi => HP.out i hi (by omega)) (fun _ => by rw [hx]; exact hlx')
            rw [dif_pos hpC, hx] at hins
            clear hlx
            by_cases hxt : x = t
            · subst hxt
              rw [if_pos (eqB_self x)] at hins
              obtain ⟨z, hz⟩ : ∃ z, C[p].2 = z := ⟨_, rfl⟩
              have hz9 := HCB.out C[p] (List.getElem_mem hpC)
              rw [hz] at hins hz9
              have HW : Hid (strsC (cntW (countC (xs.take (k + 1)))) = strsC (cntW C)) := Lib.hid (by
                rw [HK.out, hins, cntW, List.map_set]
                congr 1
                exact List.ext_getElem (by simp [cntW]) (fun i h1 h2 => by
                  by_cases hip : p = i
                  · subst hip; simp [cntW, hx]
                  · rw [List.getElem_set_ne hip]; simp [cntW]))
              have HX : Hid (intCells (cntN (countC (xs.take (k + 1)))) = (intCells (cntN C)).set p (.int .i64 ((z : Int) + 1))) := Lib.hid (by
                rw [HK.out, hins, cntN, List.map_set, intCells, List.map_set]; rfl)
              have HM2 := Lib.hid (show m = (countC (xs.take (k + 1))).length by rw [HK.out, hins, List.length_set]; exact HM.out)
              have hf := htwo.two.frozenAt p
              have hcell : wo.cell? ⟨g, p, none⟩ = some (.int .i64 z) := by
                rw [htwo.two.cellAt p (by omega)]
                simp [intCells, cntN, List.getElem?_eq_getElem hpC, hz]
              have hst := htwo.stored2 p (.int .i64 ((z : Int) + 1))
              rw [← HX.out, ← HW.out] at hst
              have hst2 : ∀ q, Two w w.heap.size ((wo.setCell ⟨g, p, none⟩ (.int .i64 ((z : Int) + 1))).drewN q) 9 1 (some ⟨b1, 0, none⟩) m c1 (strsC (cntW (countC (xs.take (k + 1))))) 3 1 (some ⟨g, 0, none⟩) m c2 (intCells (cntN (countC (xs.take (k + 1))))) := fun q => hst.drewN q
              have HST := Lib.hid hst2
              clear hst hst2 htwo HX HW HK hx hz hins HP
              go_wp2
              go_quiet (fail)
              go_wp2
              go_quiet (fail)
              go_wp2
              go_roundw
              case rel => exact ⟨k + 1, by omega, by go_num, _, _, _, _, m, rfl, rfl, HM2, HST.out _⟩
              case measure => simp [intOf]; omega
            · rw [if_neg (by rw [eqB_no hxt]; simp)] at hins
              have t6 : (x.toList == t.toList) = false := eqB_no hxt
              have HINS := Lib.hid hins
              clear hins hx hxt
              go_wp2
              go_quiet (fail)
              go_wp2
              go_quiet (fail)
              go_wp2_with fail
              generalize hW : World.drewN _ _ = wz
              have htz : Two w w.heap.size wz 9 1 (some ⟨b1, 0, none⟩) m c1 (strsC (cntW C)) 3 1 (some ⟨g, 0, none⟩) m c2 (intCells (cntN C)) := by rw [← hW]; exact ((htwo.drewN _).drewN _).drewN _
              clear hW g1 g2
              have g3 := HG.out _ htz.below
              have hbz : w.heap.size ≤ wz.heap.size := htz.base
              have hbel := htz.below
              have HTs := Lib.hid (show CellsAt wz (some ⟨b1, 0, none⟩) (strsC ((cntW C).take p)) by rw [← strsC_takeE]; exact (cellsAt_own htz.one).upTo p)
              have hl1 : (strsC ((cntW C).take p)).length = p := by rw [strsC_len, List.length_take, HCW.out]; have := HM.out; omega
              have HL1 := Lib.hid hl1
              have hk1 : (intCells ((cntN C).take p)).length = p := by simp only [intCells, List.length_map, List.length_take, HCN.out]; have := HM.out; omega
              have HK1 := Lib.hid hk1
              have HD := Lib.hid (fun (w' : World) (hb : Below wz.heap.size wz w') => (show CellsAt wz (some ⟨b1, p, none⟩) (strsC ((cntW C).drop p)) by rw [← strsC_drop]; have h := (cellsAt_own htz.one).from_lit p; rwa [Nat.zero_add] at h).below hb)
              have hl2 : (strsC ((cntW C).drop p)).length = m - p := by rw [strsC_len, List.length_drop, HCW.out, ← HM.out]
              have HL2 := Lib.hid hl2
              have hk2 : (intCells ((cntN C).drop p)).length = m - p := by simp only [intCells, List.length_map, List.length_drop, HCN.out, ← HM.out]
              have HK2 := Lib.hid hk2
              have i5 : ¬ c1 = p := by omega
              have i8 : ¬ c2 = p := by omega
              clear hl2 hk2
              have HTZ := Lib.hid htz
              clear htwo hl1 hk1 htz
              have i1 : (0 : Int) ≤ (p : Int) := by omega
              have i2 : (p : Int) ≤ (c1 : Int) := by omega
              have i3 : (p : Int) ≤ (m : Int) := by omega
              have i4 : p ≤ c1 := by omega
              have i6 : (0 : Int) ≤ (k : Int) := by omega
              have i7 : (k : Int) < (n : Int) := by omega
              have i9 : (p : Int) ≤ (c2 : Int) := by omega
              go_region_held3 (fun w' => w'.cell? ⟨b, o + k, none⟩ = some (.string t))
                (first | exact g3 | (refine HG.out _ ?_; first | exact hbel.trans (hs5.below.mono hbz) | exact hbel.trans (hs4.below.mono hbz) | (refine hbel.trans ?_; refine Below.mono ?_ hbz; (repeat (first | exact hs3.below | refine Below.drew ?_ | refine Below.alloc ?_ (by first | exact hs3.base | omega | (simp; omega)) _)); done) | ((repeat (first | exact hbel | refine Below.drew ?_ | refine Below.alloc ?_ (by first | omega | (simp; omega)) _)); done)))
                ((first
                  | (refine step_append_to wz wz.heap.size (some ⟨wz.heap.size, 0, none⟩) 0 0 [] (some ⟨b1, 0, none⟩) p c1 (strsC ((cntW C).take p)) p (strsC ((cntW C).take p)) (by omega) (by simp) rfl (.tmp 54) (.tmp 57) 33 (by rfl) (by rfl) (by rfl) Try.ulS Try.infoS rfl (by decide) (by rw [HL1.out]; omega) (strsC_one _) (by unfold maxLen; omega) (by omega) (by repeat (first | exact One.empty _ _ _ | exact One.second _ _ _ _ | refine One.drew ?_ | refine One.alloc ?_ _)) (by repeat (first | exact HTs.out | refine CellsAt.drewW ?_ | refine CellsAt.allocW ?_ _)) ?_; intro as3 cs3 ws3 hs3 gs3)
                  | (refine step_append_to wz wz.heap.size (some ⟨wz.heap.size + 1, 0, none⟩) 0 0 [] (some ⟨b1, 0, none⟩) p c1 (strsC ((cntW C).take p)) p (strsC ((cntW C).take p)) (by omega) (by simp) rfl (.tmp 54) (.tmp 57) 33 (by rfl) (by rfl) (by rfl) Try.ulS Try.infoS rfl (by decide) (by rw [HL1.out]; omega) (strsC_one _) (by unfold maxLen; omega) (by omega) (by repeat (first | exact One.empty _ _ _ | exact One.second _ _ _ _ | refine One.drew ?_ | refine One.alloc ?_ _)) (by repeat (first | exact HTs.out | refine CellsAt.drewW ?_ | refine CellsAt.allocW ?_ _)) ?_; intro as3 cs3 ws3 hs3 gs3)
                  | (refine step_append_to wz wz.heap.size as3 p cs3 (strsC ((cntW C).take p)) (some ⟨ws3.heap.size, 0, none⟩) 1 1 [.string t] (p + 1) (strsC ((cntW C).take p) ++ [.string t]) (by omega) (by rfl) rfl (.tmp 58) (.tmp 63) 33 (by rfl) (by rfl) (by rfl) Try.ulS Try.infoS rfl (by decide) (by rfl) (by simp [Value.oneCell']) (by unfold maxLen; omega) (by omega) (by repeat (first | exact hs3 | refine One.drew ?_ | refine One.alloc ?_ _)) (by repeat (first | exact cellsAt_new _ _ _ _ (by rfl) | refine CellsAt.drewW ?_ | refine CellsAt.allocW ?_ _)) ?_; intro as4 cs4 ws4 hs4 gs4)
                  | (refine step_append_to wz wz.heap.size as3 p cs3 (strsC ((cntW C).take p)) (some ⟨wz.heap.size + 1, 0, none⟩) 1 1 [.string t] (p + 1) (strsC ((cntW C).take p) ++ [.string t]) (by omega) (by rfl) rfl (.tmp 58) (.tmp 63) 33 (by rfl) (by rfl) (by rfl) Try.ulS Try.infoS rfl (by decide) (by rfl) (by simp [Value.oneCell']) (by unfold maxLen; omega) (by omega) (by repeat (first | exact hs3 | refine One.drew ?_ | refine One.alloc ?_ _)) (by repeat (first | exact cellsAt_new _ _ _ _ (by simp) | refine CellsAt.drewW ?_ | refine CellsAt.allocW ?_ _ | (refine CellsAt.grown ?_ gs3 ?_) | (intro b o hh; simp at hh; simp [Value.ownBlock]; omega))) ?_; intro as4 cs4 ws4 hs4 gs4)
                  | (refine step_append_to wz wz.heap.size as3 p cs3 (strsC ((cntW C).take p)) (some ⟨wz.heap.size, 0, none⟩) 1 1 [.string t] (p + 1) (strsC ((cntW C).take p) ++ [.string t]) (by omega) (by rfl) rfl (.tmp 58) (.tmp 63) 33 (by rfl) (by rfl) (by rfl) Try.ulS Try.infoS rfl (by decide) (by rfl) (by simp [Value.oneCell']) (by unfold maxLen; omega) (by omega) (by repeat (first | exact hs3 | refine One.drew ?_ | refine One.alloc ?_ _)) (by repeat (first | exact cellsAt_new _ _ _ _ (by simp) | refine CellsAt.drewW ?_ | refine CellsAt.allocW ?_ _ | (refine CellsAt.grown ?_ gs3 ?_) | (intro b o hh; simp at hh; simp [Value.ownBlock]; omega))) ?_; intro as4 cs4 ws4 hs4 gs4)
                  | (refine step_append_to wz wz.heap.size as4 (p + 1) cs4 (strsC ((cntW C).take p) ++ [.string t]) (some ⟨b1, p, none⟩) (m - p) (c1 - p) (strsC ((cntW C).drop p)) (p + 1 + (m - p)) (strsC ((cntW C).take p) ++ [.string t] ++ strsC ((cntW C).drop p)) (by omega) (by simp) rfl (.tmp 64) (.tmp 67) 33 (by rfl) (by rfl) (by rfl) Try.ulS Try.infoS rfl (by decide) (by rw [HL2.out]; omega) (strsC_one _) (by unfold maxLen; omega) (by omega) (by repeat (first | exact hs4 | refine One.drew ?_)) (by repeat (first | exact HD.out _ hs4.below | refine CellsAt.drewW ?_)) ?_; intro as5 cs5 ws5 hs5 gs5)))
              all_goals (
                have HTi : Hid (CellsAt ws5 (some ⟨g, 0, none⟩) (intCells ((cntN C).take p))) := Lib.hid (by rw [← intCells_takeE]; exact ((cellsAt_own HTZ.out.two).upTo p).below hs5.below)
                have HDi := Lib.hid (fun (w' : World) (hb : Below ws5.heap.size ws5 w') => (show CellsAt ws5 (some ⟨g, p, none⟩) (intCells ((cntN C).drop p)) by rw [← intCells_drop]; have h := ((cellsAt_own HTZ.out.two).from_lit p).below hs5.below; rwa [Nat.zero_add] at h).below hb)
                go_wp2_with fail
                all_goals (
                  go_region_held3 (fun _ => True)
                    (trivial)
                    ((first
                      | (refine step_append_to ws5 ws5.heap.size (some ⟨ws5.heap.size, 0, none⟩) 0 0 [] (some ⟨g, 0, none⟩) p c2 (intCells ((cntN C).take p)) p (intCells ((cntN C).take p)) (by omega) (by simp) rfl (.tmp 69) (.tmp 72) 27 (by rfl) (by rfl) (by rfl) Try.ulI Try.infoI2 rfl (by decide) (by rw [HK1.out]; omega) (intCells_one _) (by unfold maxLen; omega) (by omega) (by repeat (first | exact One.empty _ _ _ | exact One.second _ _ _ _ | refine One.drew ?_ | refine One.alloc ?_ _)) (by repeat (first | exact HTi.out | refine CellsAt.drewW ?_ | refine CellsAt.allocW ?_ _)) ?_; intro ai3 ci3 wi3 hi3 gi3)
                      | (refine step_append_to ws5 ws5.heap.size (some ⟨ws5.heap.size + 1, 0, none⟩) 0 0 [] (some ⟨g, 0, none⟩) p c2 (intCells ((cntN C).take p)) p (intCells ((cntN C).take p)) (by omega) (by simp) rfl (.tmp 69) (.tmp 72) 27 (by rfl) (by rfl) (by rfl) Try.ulI Try.infoI2 rfl (by decide) (by rw [HK1.out]; omega) (intCells_one _) (by unfold maxLen; omega) (by omega) (by repeat (first | exact One.empty _ _ _ | exact One.second _ _ _ _ | refine One.drew ?_ | refine One.alloc ?_ _)) (by repeat (first | exact HTi.out | refine CellsAt.drewW ?_ | refine CellsAt.allocW ?_ _)) ?_; intro ai3 ci3 wi3 hi3 gi3)
                      | (refine step_append_to ws5 ws5.heap.size ai3 p ci3 (intCells ((cntN C).take p)) (some ⟨wi3.heap.size, 0, none⟩) 1 1 [.int .i64 1] (p + 1) (intCells ((cntN C).take p) ++ [.int .i64 1]) (by omega) (by rfl) rfl (.tmp 73) (.tmp 74) 27 (by rfl) (by rfl) (by rfl) Try.ulI Try.infoI2 rfl (by decide) (by rfl) (by simp [Value.oneCell']) (by unfold maxLen; omega) (by omega) (by repeat (first | exact hi3 | refine One.drew ?_ | refine One.alloc ?_ _)) (by repeat (first | exact cellsAt_new _ _ _ _ (by rfl) | refine CellsAt.drewW ?_ | refine CellsAt.allocW ?_ _)) ?_; intro ai4 ci4 wi4 hi4 gi4)
                      | (refine step_append_to ws5 ws5.heap.size ai3 p ci3 (intCells ((cntN C).take p)) (some ⟨ws5.heap.size + 1, 0, none⟩) 1 1 [.int .i64 1] (p + 1) (intCells ((cntN C).take p) ++ [.int .i64 1]) (by omega) (by rfl) rfl (.tmp 73) (.tmp 74) 27 (by rfl) (by rfl) (by rfl) Try.ulI Try.infoI2 rfl (by decide) (by rfl) (by simp [Value.oneCell']) (by unfold maxLen; omega) (by omega) (by repeat (first | exact hi3 | refine One.drew ?_ | refine One.alloc ?_ _)) (by repeat (first | exact cellsAt_new _ _ _ _ (by simp) | refine CellsAt.drewW ?_ | refine CellsAt.allocW ?_ _ | (refine CellsAt.grown ?_ gi3 ?_) | (intro b o hh; simp at hh; simp [Value.ownBlock]; omega))) ?_; intro ai4 ci4 wi4 hi4 gi4)
                      | (refine step_append_to ws5 ws5.heap.size ai3 p ci3 (intCells ((cntN C).take p)) (some ⟨ws5.heap.size, 0, none⟩) 1 1 [.int .i64 1] (p + 1) (intCells ((cntN C).take p) ++ [.int .i64 1]) (by omega) (by rfl) rfl (.tmp 73) (.tmp 74) 27 (by rfl) (by rfl) (by rfl) Try.ulI Try.infoI2 rfl (by decide) (by rfl) (by simp [Value.oneCell']) (by unfold maxLen; omega) (by omega) (by repeat (first | exact hi3 | refine One.drew ?_ | refine One.alloc ?_ _)) (by repeat (first | exact cellsAt_new _ _ _ _ (by simp) | refine CellsAt.drewW ?_ | refine CellsAt.allocW ?_ _ | (refine CellsAt.grown ?_ gi3 ?_) | (intro b o hh; simp at hh; simp [Value.ownBlock]; omega))) ?_; intro ai4 ci4 wi4 hi4 gi4)
                      | (refine step_append_to ws5 ws5.heap.size ai4 (p + 1) ci4 (intCells ((cntN C).take p) ++ [.int .i64 1]) (some ⟨g, p, none⟩) (m - p) (c2 - p) (intCells ((cntN C).drop p)) (p + 1 + (m - p)) (intCells ((cntN C).take p) ++ [.int .i64 1] ++ intCells ((cntN C).drop p)) (by omega) (by simp) rfl (.tmp 75) (.tmp 78) 27 (by rfl) (by rfl) (by rfl) Try.ulI Try.infoI2 rfl (by decide) (by rw [HK2.out]; omega) (intCells_one _) (by unfold maxLen; omega) (by omega) (by repeat (first | exact hi4 | refine One.drew ?_)) (by repeat (first | exact HDi.out _ hi4.below | refine CellsAt.drewW ?_)) ?_; intro ai5 ci5 wi5 hi5 gi5)))
                  all_goals (
                    go_wp2
                    all_goals (
                      obtain ⟨gs, rfl⟩ := hs5.addr (by omega)
                      obtain ⟨gi, rfl⟩ := hi5.addr (by omega)
                      have hfin : Two w w.heap.size wi5 9 1 (some ⟨gs, 0, none⟩) (p + 1 + (m - p)) cs5 (strsC (cntW (countC (xs.take (k + 1))))) 3 1 (some ⟨gi, 0, none⟩) (p + 1 + (m - p)) ci5 (intCells (cntN (countC (xs.take (k + 1))))) := by
                        rw [HK.out, insW HINS.out, insN HINS.out]
                        have h1 := (hs5.later hi5.below).under HTZ.out.below HTZ.out.base
                        have h2 := (hi5.under hs5.below hs5.base).under HTZ.out.below HTZ.out.base
                        exact ⟨h1.own, h2.own, by decide, h1.base, h1.below⟩
                      have HM2 := Lib.hid (show p + 1 + (m - p) = (countC (xs.take (k + 1))).length by rw [HK.out]; exact insL HINS.out HM.out hp)
                      go_roundw
                      case rel => exact ⟨k + 1, by omega, by go_num, _, _, _, _, _, rfl, rfl, HM2, hfin⟩
                      case measure => simp [intOf]; omega))))
        · obtain rfl : p = m := by omega
          have hins := insC_at C t p (by have := HM.out; omega) (fun i hi => HP.out i hi (by have := HM.out; omega)) (fun h => absurd h (by have := HM.out; omega))
          rw [dif_neg (by have := HM.out; omega)] at hins
          have HINS := Lib.hid hins
          have HDn := Lib.hid (show strsC ((cntW C).drop p) = strsC [] by rw [List.drop_of_length_le (by rw [HCW.out, ← HM.out]; exact Nat.le_refl _)])
          have HDi := Lib.hid (show intCells ((cntN C).drop p) = intCells [] by rw [List.drop_of_length_le (by rw [HCN.out, ← HM.out]; exact Nat.le_refl _)])
          clear hins
          go_wp2
          go_quiet (fail)
          go_wp2
          go_quiet (fail)
          go_wp2_with fail
          generalize hW : World.drewN _ _ = wz
          have htz : Two w w.heap.size wz 9 1 (some ⟨b1, 0, none⟩) p c1 (strsC (cntW C)) 3 1 (some ⟨g, 0, none⟩) p c2 (intCells (cntN C)) := by rw [← hW]; exact ((htwo.drewN _).drewN _).drewN _
          clear hW
          have g3 := HG.out _ htz.below
          have hbz : w.heap.size ≤ wz.heap.size := htz.base
          have hbel := htz.below
          have HTs := Lib.hid (show CellsAt wz (some ⟨b1, 0, none⟩) (strsC ((cntW C).take p)) by rw [← strsC_takeE]; exact (cellsAt_own htz.one).upTo p)
          have hl1 : (strsC ((cntW C).take p)).length = p := by rw [strsC_len, List.length_take, HCW.out]; have := HM.out; omega
          have HL1 := Lib.hid hl1
          have hk1 : (intCells ((cntN C).take p)).length = p := by simp only [intCells, List.length_map, List.length_take, HCN.out]; have := HM.out; omega
          have HK1 := Lib.hid hk1
          have HTZ := Lib.hid htz
          clear htwo hl1 hk1 htz
          have i1 : (0 : Int) ≤ (p : Int) := by omega
          have i2 : (p : Int) ≤ (c1 : Int) := by omega
          have i3 : (p : Int) ≤ (p : Int) := by omega
          have i4 : p ≤ c1 := by omega
          have i6 : (0 : Int) ≤ (k : Int) := by omega
          have i7 : (k : Int) < (n : Int) := by omega
          have i9 : (p : Int) ≤ (c2 : Int) := by omega
          go_region_held3 (fun w' => w'.cell? ⟨b, o + k, none⟩ = some (.string t))
            (first | exact g3 | (refine HG.out _ ?_; first | exact hbel.trans (hs5.below.mono hbz) | exact hbel.trans (hs4.below.mono hbz) | (refine hbel.trans ?_; refine Below.mono ?_ hbz; (repeat (first | exact hs3.below | refine Below.drew ?_ | refine Below.alloc ?_ (by first | exact hs3.base | omega | (simp; omega)) _)); done) | ((repeat (first | exact hbel | refine Below.drew ?_ | refine Below.alloc ?_ (by first | omega | (simp; omega)) _)); done)))
            ((first
              | (refine step_append_to wz wz.heap.size (some ⟨wz.heap.size, 0, none⟩) 0 0 [] (some ⟨b1, 0, none⟩) p c1 (strsC ((cntW C).take p)) p (strsC ((cntW C).take p)) (by omega) (by simp) rfl (.tmp 54) (.tmp 57) 33 (by rfl) (by rfl) (by rfl) Try.ulS Try.infoS rfl (by decide) (by rw [HL1.out]; omega) (strsC_one _) (by unfold maxLen; omega) (by omega) (by repeat (first | exact One.empty _ _ _ | exact One.second _ _ _ _ | refine One.drew ?_ | refine One.alloc ?_ _)) (by repeat (first | exact HTs.out | refine CellsAt.drewW ?_ | refine CellsAt.allocW ?_ _)) ?_; intro as3 cs3 ws3 hs3 gs3)
              | (refine step_append_to wz wz.heap.size (some ⟨wz.heap.size + 1, 0, none⟩) 0 0 [] (some ⟨b1, 0, none⟩) p c1 (strsC ((cntW C).take p)) p (strsC ((cntW C).take p)) (by omega) (by simp) rfl (.tmp 54) (.tmp 57) 33 (by rfl) (by rfl) (by rfl) Try.ulS Try.infoS rfl (by decide) (by rw [HL1.out]; omega) (strsC_one _) (by unfold maxLen; omega) (by omega) (by repeat (first | exact One.empty _ _ _ | exact One.second _ _ _ _ | refine One.drew ?_ | refine One.alloc ?_ _)) (by repeat (first | exact HTs.out | refine CellsAt.drewW ?_ | refine CellsAt.allocW ?_ _)) ?_; intro as3 cs3 ws3 hs3 gs3)
              | (refine step_append_to wz wz.heap.size as3 p cs3 (strsC ((cntW C).take p)) (some ⟨ws3.heap.size, 0, none⟩) 1 1 [.string t] (p + 1) (strsC ((cntW C).take p) ++ [.string t]) (by omega) (by rfl) rfl (.tmp 58) (.tmp 63) 33 (by rfl) (by rfl) (by rfl) Try.ulS Try.infoS rfl (by decide) (by rfl) (by simp [Value.oneCell']) (by unfold maxLen; omega) (by omega) (by repeat (first | exact hs3 | refine One.drew ?_ | refine One.alloc ?_ _)) (by repeat (first | exact cellsAt_new _ _ _ _ (by rfl) | refine CellsAt.drewW ?_ | refine CellsAt.allocW ?_ _)) ?_; intro as4 cs4 ws4 hs4 gs4)
              | (refine step_append_to wz wz.heap.size as3 p cs3 (strsC ((cntW C).take p)) (some ⟨wz.heap.size + 1, 0, none⟩) 1 1 [.string t] (p + 1) (strsC ((cntW C).take p) ++ [.string t]) (by omega) (by rfl) rfl (.tmp 58) (.tmp 63) 33 (by rfl) (by rfl) (by rfl) Try.ulS Try.infoS rfl (by decide) (by rfl) (by simp [Value.oneCell']) (by unfold maxLen; omega) (by omega) (by repeat (first | exact hs3 | refine One.drew ?_ | refine One.alloc ?_ _)) (by repeat (first | exact cellsAt_new _ _ _ _ (by simp) | refine CellsAt.drewW ?_ | refine CellsAt.allocW ?_ _ | (refine CellsAt.grown ?_ gs3 ?_) | (intro b o hh; simp at hh; simp [Value.ownBlock]; omega))) ?_; intro as4 cs4 ws4 hs4 gs4)
              | (refine step_append_to wz wz.heap.size as3 p cs3 (strsC ((cntW C).take p)) (some ⟨wz.heap.size, 0, none⟩) 1 1 [.string t] (p + 1) (strsC ((cntW C).take p) ++ [.string t]) (by omega) (by rfl) rfl (.tmp 58) (.tmp 63) 33 (by rfl) (by rfl) (by rfl) Try.ulS Try.infoS rfl (by decide) (by rfl) (by simp [Value.oneCell']) (by unfold maxLen; omega) (by omega) (by repeat (first | exact hs3 | refine One.drew ?_ | refine One.alloc ?_ _)) (by repeat (first | exact cellsAt_new _ _ _ _ (by simp) | refine CellsAt.drewW ?_ | refine CellsAt.allocW ?_ _ | (refine CellsAt.grown ?_ gs3 ?_) | (intro b o hh; simp at hh; simp [Value.ownBlock]; omega))) ?_; intro as4 cs4 ws4 hs4 gs4)
              | (refine step_append_to wz wz.heap.size as4 (p + 1) cs4 (strsC ((cntW C).take p) ++ [.string t]) _ 0 _ (strsC []) (p + 1 + 0) (strsC ((cntW C).take p) ++ [.string t] ++ strsC []) (by omega) (by simp) rfl (.tmp 64) (.tmp 67) 33 (by rfl) (by rfl) (by rfl) Try.ulS Try.infoS rfl (by decide) (by rfl) (strsC_one _) (by unfold maxLen; omega) (by omega) (by repeat (first | exact hs4 | refine One.drew ?_)) (by repeat (first | exact cellsAt_nil _ _ | refine CellsAt.drewW ?_)) ?_; intro as5 cs5 ws5 hs5 gs5)))
          all_goals (
            have HTi : Hid (CellsAt ws5 (some ⟨g, 0, none⟩) (intCells ((cntN C).take p))) := Lib.hid (by rw [← intCells_takeE]; exact ((cellsAt_own HTZ.out.two).upTo p).below hs5.below)
            go_wp2_with fail
            all_goals (
              go_region_held3 (fun _ => True)
                (trivial)
                ((first
                  | (refine step_append_to ws5 ws5.heap.size (some ⟨ws5.heap.size, 0, none⟩) 0 0 [] (some ⟨g, 0, none⟩) p c2 (intCells ((cntN C).take p)) p (intCells ((cntN C).take p)) (by omega) (by simp) rfl (.tmp 69) (.tmp 72) 27 (by rfl) (by rfl) (by rfl) Try.ulI Try.infoI2 rfl (by decide) (by rw [HK1.out]; omega) (intCells_one _) (by unfold maxLen; omega) (by omega) (by repeat (first | exact One.empty _ _ _ | exact One.second _ _ _ _ | refine One.drew ?_ | refine One.alloc ?_ _)) (by repeat (first | exact HTi.out | refine CellsAt.drewW ?_ | refine CellsAt.allocW ?_ _)) ?_; intro ai3 ci3 wi3 hi3 gi3)
                  | (refine step_append_to ws5 ws5.heap.size (some ⟨ws5.heap.size + 1, 0, none⟩) 0 0 [] (some ⟨g, 0, none⟩) p c2 (intCells ((cntN C).take p)) p (intCells ((cntN C).take p)) (by omega) (by simp) rfl (.tmp 69) (.tmp 72) 27 (by rfl) (by rfl) (by rfl) Try.ulI Try.infoI2 rfl (by decide) (by rw [HK1.out]; omega) (intCells_one _) (by unfold maxLen; omega) (by omega) (by repeat (first | exact One.empty _ _ _ | exact One.second _ _ _ _ | refine One.drew ?_ | refine One.alloc ?_ _)) (by repeat (first | exact HTi.out | refine CellsAt.drewW ?_ | refine CellsAt.allocW ?_ _)) ?_; intro ai3 ci3 wi3 hi3 gi3)
                  | (refine step_append_to ws5 ws5.heap.size ai3 p ci3 (intCells ((cntN C).take p)) (some ⟨wi3.heap.size, 0, none⟩) 1 1 [.int .i64 1] (p + 1) (intCells ((cntN C).take p) ++ [.int .i64 1]) (by omega) (by rfl) rfl (.tmp 73) (.tmp 74) 27 (by rfl) (by rfl) (by rfl) Try.ulI Try.infoI2 rfl (by decide) (by rfl) (by simp [Value.oneCell']) (by unfold maxLen; omega) (by omega) (by repeat (first | exact hi3 | refine One.drew ?_ | refine One.alloc ?_ _)) (by repeat (first | exact cellsAt_new _ _ _ _ (by rfl) | refine CellsAt.drewW ?_ | refine CellsAt.allocW ?_ _)) ?_; intro ai4 ci4 wi4 hi4 gi4)
                  | (refine step_append_to ws5 ws5.heap.size ai3 p ci3 (intCells ((cntN C).take p)) (some ⟨ws5.heap.size + 1, 0, none⟩) 1 1 [.int .i64 1] (p + 1) (intCells ((cntN C).take p) ++ [.int .i64 1]) (by omega) (by rfl) rfl (.tmp 73) (.tmp 74) 27 (by rfl) (by rfl) (by rfl) Try.ulI Try.infoI2 rfl (by decide) (by rfl) (by simp [Value.oneCell']) (by unfold maxLen; omega) (by omega) (by repeat (first | exact hi3 | refine One.drew ?_ | refine One.alloc ?_ _)) (by repeat (first | exact cellsAt_new _ _ _ _ (by simp) | refine CellsAt.drewW ?_ | refine CellsAt.allocW ?_ _ | (refine CellsAt.grown ?_ gi3 ?_) | (intro b o hh; simp at hh; simp [Value.ownBlock]; omega))) ?_; intro ai4 ci4 wi4 hi4 gi4)
                  | (refine step_append_to ws5 ws5.heap.size ai3 p ci3 (intCells ((cntN C).take p)) (some ⟨ws5.heap.size, 0, none⟩) 1 1 [.int .i64 1] (p + 1) (intCells ((cntN C).take p) ++ [.int .i64 1]) (by omega) (by rfl) rfl (.tmp 73) (.tmp 74) 27 (by rfl) (by rfl) (by rfl) Try.ulI Try.infoI2 rfl (by decide) (by rfl) (by simp [Value.oneCell']) (by unfold maxLen; omega) (by omega) (by repeat (first | exact hi3 | refine One.drew ?_ | refine One.alloc ?_ _)) (by repeat (first | exact cellsAt_new _ _ _ _ (by simp) | refine CellsAt.drewW ?_ | refine CellsAt.allocW ?_ _ | (refine CellsAt.grown ?_ gi3 ?_) | (intro b o hh; simp at hh; simp [Value.ownBlock]; omega))) ?_; intro ai4 ci4 wi4 hi4 gi4)
                  | (refine step_append_to ws5 ws5.heap.size ai4 (p + 1) ci4 (intCells ((cntN C).take p) ++ [.int .i64 1]) _ 0 _ (intCells []) (p + 1 + 0) (intCells ((cntN C).take p) ++ [.int .i64 1] ++ intCells []) (by omega) (by simp) rfl (.tmp 75) (.tmp 78) 27 (by rfl) (by rfl) (by rfl) Try.ulI Try.infoI2 rfl (by decide) (by rfl) (intCells_one _) (by unfold maxLen; omega) (by omega) (by repeat (first | exact hi4 | refine One.drew ?_)) (by repeat (first | exact cellsAt_nil _ _ | refine CellsAt.drewW ?_)) ?_; intro ai5 ci5 wi5 hi5 gi5)))
              all_goals (
                go_wp2
                all_goals (
                  obtain ⟨gs, rfl⟩ := hs5.addr (by omega)
                  obtain ⟨gi, rfl⟩ := hi5.addr (by omega)
                  have hfin : Two w w.heap.size wi5 9 1 (some ⟨gs, 0, none⟩) (p + 1 + 0) cs5 (strsC (cntW (countC (xs.take (k + 1))))) 3 1 (some ⟨gi, 0, none⟩) (p + 1 + 0) ci5 (intCells (cntN (countC (xs.take (k + 1))))) := by
                    rw [HK.out, insW HINS.out, insN HINS.out]
                    have h1 := (hs5.later hi5.below).under HTZ.out.below HTZ.out.base
                    have h2 := (hi5.under hs5.below hs5.base).under HTZ.out.below HTZ.out.base
                    exact ⟨by rw [HDn.out]; exact h1.own, by rw [HDi.out]; exact h2.own, by decide, h1.base, h1.below⟩
                  have HM2 := Lib.hid (show p + 1 + 0 = (countC (xs.take (k + 1))).length by rw [HK.out]; have h := insL HINS.out HM.out (Nat.le_refl _); omega)
                  go_roundw
                  case rel => exact ⟨k + 1, by omega, by go_num, _, _, _, _, _, rfl, rfl, HM2, hfin⟩
                  case measure => simp [intOf]; omega))))
    · obtain rfl : k = n := by omega
      have hE : xs.take k = xs := List.take_of_length_le (by rw [HN.out]; exact Nat.le_refl _)
      rw [hE] at htwo
      clear hE
      go_wp2
      go_ret2
      exact ⟨_, _, _, _, _, _, rfl, htwo⟩

end Go.Proofs.Ytdcdminjoehiiaa
