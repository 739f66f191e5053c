/-
  The walk of the table's law ShelfDocs: it returns true, and nothing that was there is written. No conditions. (Written by wip/tools/ch5_lose.py.)
-/
import Derived.Test.YtclblnkeakkdeaaHelpE
import Derived.Test.YtclblnkeakkdeaaMathLawsS
namespace Go.Proofs.Ytclblnkeakkdeaa
open Go.RowKit

set_option maxRecDepth 4000 in
set_option maxHeartbeats 16000000 in
theorem walkFnShelfDocs (a : Option Addr) (len cap : Nat) (zs : List Int) (w : World) (h : IsRowK .u8 w a len cap zs) :
    Calls Try.prog 5 #[.slice a len cap] w fun e w' => e = .returned (.bool true) ∧ Below w.heap.size w w' := by
  by_cases hs : 1048576 < len
  · have h2 : (1048576 : Int) < (len : Int) := by omega
    go_enter Try.func5, Try.ntmps5
    go_wp2
    go_ret
    exact ⟨rfl, Below.refl _ _⟩
  go_enter Try.func5, Try.ntmps5
  go_wp2_with fail
  refine (DrawShelfDocs_any _ _ _ _ _ h).mono ?_
  rintro e wk0 ⟨L, a1, n1, c1, rfl, hL, hE1, hbw⟩
  have hn1 := hE1.len
  have hn9 : n1 ≤ 40 := by omega
  have HN := Lib.hid hn1
  have E1 := Lib.hid hE1
  have HBW := Lib.hid hbw
  have BK0 : Below wk0.heap.size wk0 wk0 := Below.refl _ _
  have hD9 := docsL5_len L
  have HUP := Lib.hid (docs_pair L)
  have HHas := Lib.hid (fun (h : shOk L) i (hi : i < L.length) => docs_has h hi)
  have HFew := Lib.hid (fun d (hd : d ∈ docsL5 L) => docs_fewer hd)
  obtain ⟨D, hD⟩ : ∃ D, docsL5 L = D := ⟨_, rfl⟩
  rw [hD] at hD9 HUP HHas HFew
  have HD := Lib.hid hD
  clear h hE1 hbw hs hD hn1
  go_wp2_with fail
  refine (implDocs_w L D _ _ _ _ HD.out (E1.out.later BK0) (by omega)).mono ?_
  rintro e wk1 ⟨aF1, nF1, cF1, rfl, F1, hx⟩
  have BK1 := BK0.trans (hx.mono BK0.size)
  clear hx BK0
  go_wp2_with fail
  refine (specDocs_w L D _ _ _ _ HD.out (E1.out.later BK1) (by omega)).mono ?_
  rintro e wk2 ⟨aF2, nF2, cF2, rfl, F2, hx⟩
  have BK2 := BK1.trans (hx.mono BK1.size)
  replace F1 := F1.later hx
  clear hx BK1
  go_wp2_with fail
  refine (sameInts_w D _ _ _ _ _ _ _ F1 F2 (by omega)).mono ?_
  rintro e wk3 ⟨rfl, hx⟩
  have BK3 := BK2.trans (hx.mono BK2.size)
  replace F1 := F1.later hx
  replace F2 := F2.later hx
  clear hx BK2
  clear F2
  go_wp2_with fail
  refine (rising_w D _ _ _ _ F1 (by omega) HUP.out).mono ?_
  rintro e wk4 ⟨rfl, hx⟩
  have BK4 := BK3.trans (hx.mono BK3.size)
  replace F1 := F1.later hx
  clear hx BK3
  have HF := Lib.hid F1
  have HNF := Lib.hid F1.len
  have hnf9 : nF1 ≤ 40 := by have := HNF.out; omega
  obtain ⟨wb, hwb⟩ : ∃ wb, wb = wk4 := ⟨_, rfl⟩
  subst hwb
  have HBB := Lib.hid BK4
  have BS : Below wb.heap.size wb wb := Below.refl _ _
  clear F1 BK4
  go_wp2
  go_loopw [5] (fun k_ wr => ∃ k : Nat, k ≤ n1 ∧ k_ = .int .i64 k ∧ Below wb.heap.size wb wr) (fun k_ _ => n1 - (intOf k_).toNat)
  case atStart => exact ⟨0, Nat.zero_le _, rfl, BS⟩
  case round =>
    clear BS
    obtain ⟨k, hk, rfl, BS⟩ := hrel
    obtain ⟨wk0', hwk0'⟩ : ∃ w', w' = wk0 := ⟨_, rfl⟩
    have BK0 := HBB.out.trans (BS.mono HBB.out.size)
    by_cases hlt : k < n1
    · have hkl : k < L.length := by have := HN.out; omega
      obtain ⟨x, hx⟩ : ∃ x, L[k].1 = x := ⟨_, rfl⟩
      obtain ⟨y, hy⟩ : ∃ y, L[k].2.1 = y := ⟨_, rfl⟩
      obtain ⟨z, hz⟩ : ∃ z, L[k].2.2 = z := ⟨_, rfl⟩
      have hm : L[k] = (x, y, z) := by rw [← hx, ← hy, ← hz]
      have z1 : (k : Int) < (n1 : Int) := by omega
      have z0 : (0 : Int) ≤ (k : Int) := by omega
      have HM := Lib.hid hm
      clear hwk0' hx hz hm
      by_cases hok : shOk L
      · have HK := Lib.hid hok
        have hmem := HHas.out hok k hkl
        rw [hy] at hmem
        have HMem := Lib.hid hmem
        clear hok hmem hy
        go_wp2_with fail
        refine (implOk_w true L _ _ _ _ ⟨fun _ => HK.out, fun _ => rfl⟩ (E1.out.later BK0) (by omega)).mono ?_
        rintro e w2 ⟨rfl, hx2⟩
        have BS2 := BS.trans (hx2.mono BS.size)
        have BK2 := BK0.trans (hx2.mono BK0.size)
        clear hx2 BS BK0
        obtain ⟨b, o, hbo, hb9, g1, g2, g3⟩ := ent_cells (E1.out.later BK2).at_ hkl HM.out
        have c5 := hasInt_w true D y _ _ _ w2 ⟨fun _ => HMem.out, fun _ => rfl⟩ (HF.out.later BS2) (by omega)
        have HBO := Lib.hid hbo
        subst hbo
        go_wp2_with fail
        refine c5.mono ?_
        rintro e w3 ⟨rfl, hx3⟩
        have BS3 := BS2.trans (hx3.mono BS2.size)
        clear hx3 BS2 BK2 g1 g2 g3 hb9
        go_wp2
        go_roundw
        case rel => exact ⟨k + 1, by omega, by go_num, BS3⟩
        case measure => simp [intOf]; omega
      · have HK := Lib.hid hok
        clear hok hy
        go_wp2_with fail
        refine (implOk_w false L _ _ _ _ ⟨(fun h => absurd h (by decide)), (fun h => absurd h HK.out)⟩ (E1.out.later BK0) (by omega)).mono ?_
        rintro e w2 ⟨rfl, hx2⟩
        have BS2 := BS.trans (hx2.mono BS.size)
        clear hx2 BS BK0
        go_wp2
        go_roundw
        case rel => exact ⟨k + 1, by omega, by go_num, BS2⟩
        case measure => simp [intOf]; omega
    · clear BK0 hwk0'
      go_wp2
      go_loopw [6] (fun k_ wr => ∃ k : Nat, k ≤ nF1 ∧ k_ = .int .i64 k ∧ Below wb.heap.size wb wr) (fun k_ _ => nF1 - (intOf k_).toNat)
      case atStart => exact ⟨0, Nat.zero_le _, rfl, BS⟩
      case round =>
        clear BS
        obtain ⟨j, hj, rfl, BS⟩ := hrel
        by_cases hlj : j < nF1
        · have hjD : j < D.length := by have := HNF.out; omega
          obtain ⟨y, hy⟩ : ∃ y, D[j] = y := ⟨_, rfl⟩
          have BK0 := HBB.out.trans (BS.mono HBB.out.size)
          obtain ⟨b, o, hbo, hb9, g1⟩ := int_cell (HF.out.later BS).at_ hjD hy
          have hfew := HFew.out y (by rw [← hy]; exact List.getElem_mem hjD)
          obtain ⟨R, hR⟩ : ∃ R, loseL L y = R := ⟨_, rfl⟩
          rw [hR] at hfew
          have c5 := implLose_w L y R _ _ _ wr hR (E1.out.later BK0) (by omega)
          have z1 : (j : Int) < (nF1 : Int) := by omega
          have z0 : (0 : Int) ≤ (j : Int) := by omega
          subst hbo
          clear hy hR BK0 hb9
          go_wp2_with fail
          refine c5.mono ?_
          rintro e w2 ⟨a2, n2, c2, rfl, F2, hx2⟩
          have hn2 : n2 < n1 := by have h1 := F2.len; have := HN.out; omega
          have t2 : decide ((n1 : Int) ≤ (n2 : Int)) = false := decide_eq_false (by omega)
          have t3 : decide (n1 ≤ n2) = false := decide_eq_false (by omega)
          have BS2 := BS.trans (hx2.mono BS.size)
          clear hx2 BS F2 g1 hfew
          go_wp2
          go_roundw
          case rel => exact ⟨j + 1, by omega, by go_num, BS2⟩
          case measure => simp [intOf]; omega
        · have BK0 := HBB.out.trans (BS.mono HBB.out.size)
          clear BS
          go_wp2_with fail
          refine (alive_any _).mono ?_
          rintro e wq ⟨rfl, rfl⟩
          go_wp2
          go_ret
          exact ⟨rfl, HBW.out.trans (BK0.mono HBW.out.size)⟩

end Go.Proofs.Ytclblnkeakkdeaa
