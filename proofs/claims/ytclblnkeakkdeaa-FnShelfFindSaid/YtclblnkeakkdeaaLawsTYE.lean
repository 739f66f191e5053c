/-
  The walk of the table's law ShelfFind: it returns true, and nothing that was there is written. No conditions. (Written by wip/tools/ch5_find.py.)
-/
import Derived.Test.YtclblnkeakkdeaaHelpE
import Derived.Test.YtclblnkeakkdeaaMathLawsS
import Derived.Test.YtclblnkeakkdeaaDrawG
namespace Go.Proofs.Ytclblnkeakkdeaa
open Go.RowKit

set_option maxRecDepth 4000 in
set_option maxHeartbeats 16000000 in
theorem walkFnShelfFind (a : Option Addr) (len cap : Nat) (zs : List Int) (w : World) (h : IsRowK .u8 w a len cap zs) :
    Calls Try.prog 4 #[.slice a len cap] w fun e w' => e = .returned (.bool true) ∧ Below w.heap.size w w' := by
  by_cases hs : 1048576 < len
  · have h2 : (1048576 : Int) < (len : Int) := by omega
    go_enter Try.func4, Try.ntmps4
    go_wp2
    go_ret
    exact ⟨rfl, Below.refl _ _⟩
  go_enter Try.func4, Try.ntmps4
  go_wp2_with fail
  refine (DrawShelfFind_any _ _ _ _ _ h).mono ?_
  rintro e wk0 ⟨L, a1, n1, c1, p, rfl, hL, hc9, hE1, hbw⟩
  have hn1 := hE1.len
  have hn9 : n1 ≤ 40 := by omega
  have HN := Lib.hid hn1
  have E1 := Lib.hid hE1
  have HBW := Lib.hid hbw
  have BK0 : Below wk0.heap.size wk0 wk0 := Below.refl _ _
  have hR9 := findL5_len L p
  have HYes := Lib.hid (fun (h : shOk L) => findL5_ok h p)
  have HNo := Lib.hid (fun (h : ¬ shOk L) => findL5_not h p)
  obtain ⟨R, hR⟩ : ∃ R, findL5 L p = R := ⟨_, rfl⟩
  rw [hR] at hR9 HYes HNo
  have HR := Lib.hid hR
  clear h hE1 hbw hs hR hn1
  go_wp2_with fail
  refine (implFind_w L p R _ _ _ _ HR.out (E1.out.later BK0) (by omega)).mono ?_
  rintro e wk1 ⟨aF1, nF1, cF1, rfl, F1, hx⟩
  have BK1 := BK0.trans (hx.mono BK0.size)
  clear hx BK0
  go_wp2_with fail
  refine (specFind_w L p R _ _ _ _ HR.out (E1.out.later BK1) (by omega) hc9).mono ?_
  rintro e wk2 ⟨aF2, nF2, cF2, rfl, F2, hx⟩
  have BK2 := BK1.trans (hx.mono BK1.size)
  replace F1 := F1.later hx
  clear hx BK1
  go_wp2_with fail
  refine (sameEnts_w R _ _ _ _ _ _ _ F1 F2 (by omega)).mono ?_
  rintro e wk3 ⟨rfl, hx⟩
  have BK3 := BK2.trans (hx.mono BK2.size)
  replace F1 := F1.later hx
  replace F2 := F2.later hx
  clear hx BK2
  clear F2
  obtain ⟨wb, hwb⟩ : ∃ wb, wb = wk3 := ⟨_, rfl⟩
  subst hwb
  have HF := Lib.hid F1
  have HBB := Lib.hid BK3
  have hone0 : One wb wb.heap.size (wb.alloc (.cells #[] 31)) 31 3 (some ⟨wb.heap.size, 0, none⟩) 0 0 (entsC ((L.take 0).filter (fun x => x.1 == p))) := One.empty wb 31 3
  clear F1 BK3
  by_cases hok : shOk L
  · have HK := Lib.hid hok
    have HY := Lib.hid (HYes.out hok)
    clear hok
    go_wp2
    go_loopw [6, 7] (fun o_ k_ wr => ∃ k : Nat, k ≤ n1 ∧ k_ = .int .i64 k ∧ ∃ a' n' c', o_ = .slice a' n' c' ∧ n' ≤ k ∧ One wb wb.heap.size wr 31 3 a' n' c' (entsC ((L.take k).filter (fun x => x.1 == p)))) (fun _ k_ _ => n1 - (intOf k_).toNat)
    case atStart => exact ⟨0, Nat.zero_le _, rfl, _, _, _, rfl, Nat.le_refl _, hone0⟩
    case round =>
      clear hone0
      obtain ⟨k, hk, rfl, a', n', c', rfl, hn', hone⟩ := hrel
      by_cases hlt : k < n1
      · have hkl : k < L.length := by have := HN.out; omega
        obtain ⟨x, hx⟩ : ∃ x, L[k].1 = x := ⟨_, rfl⟩
        obtain ⟨y, hy⟩ : ∃ y, L[k].2.1 = y := ⟨_, rfl⟩
        obtain ⟨z, hz⟩ : ∃ z, L[k].2.2 = z := ⟨_, rfl⟩
        have hm : L[k] = (x, y, z) := by rw [← hx, ← hy, ← hz]
        have HM := Lib.hid hm
        have hyes := filter_yes (P := fun x => x.1 == p) hkl
        have hno := filter_no (P := fun x => x.1 == p) hkl
        rw [hm] at hyes hno
        have z1 : (k : Int) < (n1 : Int) := by omega
        have z0 : (0 : Int) ≤ (k : Int) := by omega
        have BK0 := HBB.out.trans (hone.below.mono HBB.out.size)
        obtain ⟨b, o, hbo, _, _, _, _⟩ := ent_cells (E1.out.later BK0).at_ hkl hm
        have c5 := implOk_w true L _ _ _ _ ⟨fun _ => HK.out, fun _ => rfl⟩ (E1.out.later BK0) (by omega)
        have HCL := Lib.hid (show ∀ w', Below wb.heap.size wb w' → w'.cell? ⟨b, o + k * 3, none⟩ = some (.int .i64 x) ∧ w'.cell? ⟨b, o + k * 3 + 1, none⟩ = some (.int .i64 y) ∧ w'.cell? ⟨b, o + k * 3 + 2, none⟩ = some (.int .i64 z) from fun w' hb => by
          obtain ⟨b', o', h1, _, h2, h3, h4⟩ := ent_cells (E1.out.later (HBB.out.trans (hb.mono HBB.out.size))).at_ hkl HM.out
          obtain ⟨rfl, rfl⟩ := (by simpa using hbo.symm.trans h1 : b = b' ∧ o = o')
          exact ⟨h2, h3, h4⟩)
        subst hbo
        clear hx hy hz hm BK0
        go_wp2_with fail
        refine c5.mono ?_
        rintro e w2 ⟨rfl, hx2⟩
        have hone2 := hone.later hx2
        obtain ⟨g1, g2, g3⟩ := HCL.out w2 hone2.below
        clear hx2 hone c5
        by_cases hd : x = p
        · have t1 : (x == p) = true := by rw [hd]; exact beq_self_eq_true _
          have HS := Lib.hid (show entsC ((L.take (k + 1)).filter (fun x => x.1 == p)) = entsC ((L.take k).filter (fun x => x.1 == p)) ++ [.int .i64 x, .int .i64 y, .int .i64 z] by rw [hyes t1, entsC_snoc])
          clear hyes hno hd
          go_wp2_with (at_builtin; refine wpList_append_row rfl (.tmp 43) (.tmp 48) 23 rfl Try.ulE5 Try.infoE5 rfl (by decide) hone2 rfl #[.int .i64 x, .int .i64 y, .int .i64 z] rfl rfl (by simp [Value.oneCell']) (by unfold maxLen; omega) (by omega) ?_; intro a5 c5 w5 h5)
          go_roundw
          case rel => exact ⟨k + 1, by omega, by go_num, a5, n' + 1, c5, rfl, by omega, by rw [HS.out]; exact h5⟩
          case measure => simp [intOf]; omega
        · have t1 : (x == p) = false := by simpa using hd
          have HS := Lib.hid (hno t1)
          clear hyes hno hd
          go_wp2
          go_roundw
          case rel => exact ⟨k + 1, by omega, by go_num, a', n', c', rfl, by omega, by rw [HS.out]; exact hone2⟩
          case measure => simp [intOf]; omega
      · have F3 : EnAt wr a' n' c' R := by
          have h := hone
          rw [List.take_of_length_le (by have := HN.out; omega), ← HY.out] at h
          exact enAt_of h.own
        have BS := hone.below
        have F1 := HF.out.later BS
        clear hone
        go_wp2_with fail
        refine (sameEnts_w R _ _ _ _ _ _ _ F1 F3 (by omega)).mono ?_
        rintro e w3 ⟨rfl, hx3⟩
        have BS3 := BS.trans (hx3.mono BS.size)
        clear hx3 F1 F3 BS
        go_wp2_with fail
        refine (alive_any _).mono ?_
        rintro e wq ⟨rfl, rfl⟩
        have BK0 := HBB.out.trans (BS3.mono HBB.out.size)
        go_wp2
        go_ret
        exact ⟨rfl, HBW.out.trans (BK0.mono HBW.out.size)⟩
  · have HK := Lib.hid hok
    have hRn : R = [] := HNo.out hok
    subst hRn
    clear hok
    go_wp2
    go_loopw [6, 7] (fun o_ k_ wr => k_ = .int .i64 (0 : Nat) ∧ ∃ a' n' c', o_ = .slice a' n' c' ∧ EnAt wr a' n' c' [] ∧ Below wb.heap.size wb wr) (fun _ k_ _ => 1)
    case atStart => exact ⟨rfl, _, _, _, rfl, enAt_of hone0.own, hone0.below⟩
    case round =>
      clear hone0
      obtain ⟨rfl, a', n', c', rfl, F3, BS⟩ := hrel
      by_cases hlt : 0 < n1
      · have z1 : (0 : Int) < (n1 : Int) := by omega
        have BK0 := HBB.out.trans (BS.mono HBB.out.size)
        go_wp2_with fail
        refine (implOk_w false L _ _ _ _ ⟨(fun h => absurd h (by decide)), (fun h => absurd h HK.out)⟩ (E1.out.later BK0) (by omega)).mono ?_
        rintro e w2 ⟨rfl, hx2⟩
        have F4 := F3.later hx2
        have BS2 := BS.trans (hx2.mono BS.size)
        have F1 := HF.out.later BS2
        clear hx2 F3 BS BK0
        go_wp2_with fail
        refine (sameEnts_w [] _ _ _ _ _ _ _ F1 F4 (by simp)).mono ?_
        rintro e w3 ⟨rfl, hx3⟩
        have BS3 := BS2.trans (hx3.mono BS2.size)
        clear hx3 F1 F4 BS2
        go_wp2_with fail
        refine (alive_any _).mono ?_
        rintro e wq ⟨rfl, rfl⟩
        have BK0 := HBB.out.trans (BS3.mono HBB.out.size)
        go_wp2
        go_ret
        exact ⟨rfl, HBW.out.trans (BK0.mono HBW.out.size)⟩
      · have hz : n1 = 0 := by omega
        have t1 : decide ((0 : Int) < (n1 : Int)) = false := decide_eq_false (by omega)
        have t2 : decide (0 < n1) = false := decide_eq_false (by omega)
        have F1 := HF.out.later BS
        clear hz
        go_wp2_with fail
        refine (sameEnts_w [] _ _ _ _ _ _ _ F1 F3 (by simp)).mono ?_
        rintro e w3 ⟨rfl, hx3⟩
        have BS3 := BS.trans (hx3.mono BS.size)
        clear hx3 F1 F3 BS
        go_wp2_with fail
        refine (alive_any _).mono ?_
        rintro e wq ⟨rfl, rfl⟩
        have BK0 := HBB.out.trans (BS3.mono HBB.out.size)
        go_wp2
        go_ret
        exact ⟨rfl, HBW.out.trans (BK0.mono HBW.out.size)⟩

end Go.Proofs.Ytclblnkeakkdeaa
