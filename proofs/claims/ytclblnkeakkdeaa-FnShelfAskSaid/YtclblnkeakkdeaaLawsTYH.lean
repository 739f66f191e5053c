/-
  The walk of the table's law ShelfAsk: it returns true, and nothing that was there is written. No conditions. (Written by wip/tools/ch5_ask.py.)
-/
import Derived.Test.YtclblnkeakkdeaaHelpE
import Derived.Test.YtclblnkeakkdeaaMathLawsS
import Derived.Test.YtclblnkeakkdeaaTwinsI
namespace Go.Proofs.Ytclblnkeakkdeaa
open Go.RowKit

theorem ask_at {D : List Int} {f : Int → List (Int × Int)} {i : Nat} (hi : i < D.length) {x : Int × Int} (hf : f D[i] = [x]) : ∃ h : ((D.take i).flatMap f).length < (D.flatMap f).length, (D.flatMap f)[((D.take i).flatMap f).length] = x := by
  have e : D.flatMap f = (D.take i).flatMap f ++ (x :: (D.drop (i + 1)).flatMap f) := by
    conv => lhs; rw [← List.take_append_drop i D]
    rw [List.flatMap_append, List.drop_eq_getElem_cons hi, List.flatMap_cons, hf]
    rfl
  have hl : ((D.take i).flatMap f).length < (D.flatMap f).length := by
    rw [e, List.length_append, List.length_cons]; omega
  refine ⟨hl, ?_⟩
  have h2 : (D.flatMap f)[((D.take i).flatMap f).length]? = some x := by
    rw [e, List.getElem?_append_right (Nat.le_refl _), Nat.sub_self]; rfl
  rw [List.getElem?_eq_getElem hl] at h2
  exact Option.some.inj h2
theorem ask_step {D : List Int} {f : Int → List (Int × Int)} {i : Nat} (hi : i < D.length) : ((D.take (i + 1)).flatMap f).length = ((D.take i).flatMap f).length + (f D[i]).length := by
  rw [List.take_succ_eq_append_getElem hi, List.flatMap_append, List.length_append]; simp
theorem askD_is {L : List En} (h : shOk L) (M : List (Int × Int)) (d : Int) {t : Nat} (ht : (twinsL (ownM L d) M).length = t) : askD L M d = if t = 0 then [] else [(d, (t : Int))] := by
  rw [twins_own, sD_is h] at ht
  rw [askD, ht]

/-- A row of pairs of numbers that can be read. -/
structure PaAt (w : World) (a : Option Addr) (n : Nat) (S : List (Int × Int)) : Prop where
  len : n = S.length
  at_ : CellsAt w a (pairsC S)
theorem PaAt.later {w w' : World} {a : Option Addr} {n : Nat} {S : List (Int × Int)} (h : PaAt w a n S) (hb : Below w.heap.size w w') : PaAt w' a n S := ⟨h.len, h.at_.below hb⟩

theorem implAsk_w (L : List En) (M S : List (Int × Int)) (a : Option Addr) (n c : Nat) (b : Option Addr) (m f : Nat) (w : World) (hS : askL5 L M = S) (ha : EnAt w a n c L) (hm : m = M.length) (hb : CellsAt w b (pairsC M)) (hL : L.length ≤ 1048576) (hM : M.length ≤ 1048576) :
    Calls Try.prog 32 #[.slice a n c, .slice b m f] w fun e w' => ∃ a' n' c', e = .returned (.slice a' n' c') ∧ PaAt w' a' n' S ∧ Below w.heap.size w w' := by
  subst hS
  refine (implAsk5_any L M a n c b m f w ha.len hm (by have := ha.len; omega) (by omega) ha.at_ hb).mono ?_
  rintro e w2 ⟨a', n', c', he, ho⟩
  exact ⟨a', n', c', he, ⟨pairs_len ho.own, ho.at_⟩, ho.below⟩
theorem specAsk_w (L : List En) (M S : List (Int × Int)) (a : Option Addr) (n c : Nat) (b : Option Addr) (m f : Nat) (w : World) (hS : askL5 L M = S) (ha : EnAt w a n c L) (hc9 : c ≤ maxLen) (hm : m = M.length) (hb : CellsAt w b (pairsC M)) (hL : L.length ≤ 1048576) (hM : M.length ≤ 1048576) :
    Calls Try.prog 34 #[.slice a n c, .slice b m f] w fun e w' => ∃ a' n' c', e = .returned (.slice a' n' c') ∧ PaAt w' a' n' S ∧ Below w.heap.size w w' := by
  subst hS
  refine (specAsk5_any L M a n c b m f w ha.len hm (by have := ha.len; omega) (by omega) ha.cap hc9 ha.at_ hb).mono ?_
  rintro e w2 ⟨a', n', c', he, ho⟩
  exact ⟨a', n', c', he, ⟨pairs_len ho.own, ho.at_⟩, ho.below⟩

set_option maxRecDepth 4000 in
set_option maxHeartbeats 16000000 in
theorem walkFnShelfAsk (a : Option Addr) (len cap : Nat) (zs : List Int) (w : World) (h : IsRowK .u8 w a len cap zs) :
    Calls Try.prog 6 #[.slice a len cap] w fun e w' => e = .returned (.bool true) ∧ Below w.heap.size w w' := by
  by_cases hs : 1048576 < len
  · have h2 : (1048576 : Int) < (len : Int) := by omega
    go_enter Try.func6, Try.ntmps6
    go_wp2
    go_ret
    exact ⟨rfl, Below.refl _ _⟩
  go_enter Try.func6, Try.ntmps6
  go_wp2_with fail
  refine (DrawShelfAsk_any _ _ _ _ _ h).mono ?_
  rintro e wk0 ⟨L, a1, n1, c1, M, a2, n2, c2, rfl, hL, hc9, hE1, hm2, hM9, hmc, hbw⟩
  clear h hs
  have hn1 := hE1.len
  have hn9 : n1 ≤ 40 := by omega
  have hn29 : n2 ≤ 14 := by omega
  have HN := Lib.hid hn1
  have E1 := Lib.hid hE1
  have HM2 := Lib.hid hm2
  have HMC := Lib.hid hmc
  have HBW := Lib.hid hbw
  have BK0 : Below wk0.heap.size wk0 wk0 := Below.refl _ _
  have hS9 := askL5_len L M
  have hD9 := docsL5_len L
  have HOK := Lib.hid (show ∀ i, i < (docsL5 L).length → shOk L from fun i hi => by
    by_cases h : shOk L
    · exact h
    · rw [docsL5_not h] at hi; simp at hi)
  have HSD := Lib.hid (show askL5 L M = (docsL5 L).flatMap (askD L M) from rfl)
  obtain ⟨D, hD⟩ : ∃ D, docsL5 L = D := ⟨_, rfl⟩
  obtain ⟨S, hS⟩ : ∃ S, askL5 L M = S := ⟨_, rfl⟩
  rw [hD] at hD9 HOK HSD
  rw [hS] at hS9 HSD
  have HD := Lib.hid hD
  have HS := Lib.hid hS
  clear hE1 hbw hD hS hn1 hm2 hmc
  go_wp2_with fail
  refine (implAsk_w L M S _ _ _ _ _ _ _ HS.out (E1.out.later BK0) HM2.out (HMC.out.below BK0) (by omega) (by omega)).mono ?_
  rintro e wk1 ⟨aO, nO, cO, rfl, FO, hx⟩
  have BK1 := BK0.trans (hx.mono BK0.size)
  clear hx BK0
  go_wp2_with fail
  refine (specAsk_w L M S _ _ _ _ _ _ _ HS.out (E1.out.later BK1) hc9 HM2.out (HMC.out.below BK1) (by omega) (by omega)).mono ?_
  rintro e wk2 ⟨aP, nP, cP, rfl, FP, hx⟩
  have BK2 := BK1.trans (hx.mono BK1.size)
  replace FO := FO.later hx
  clear hx BK1
  go_wp2_with fail
  refine (sameShares_w S _ _ _ _ _ _ _ FO.len FP.len FO.at_ FP.at_ (by omega)).mono ?_
  rintro e wk3 ⟨rfl, hx⟩
  have BK3 := BK2.trans (hx.mono BK2.size)
  replace FO := FO.later hx
  clear hx BK2 FP
  go_wp2_with fail
  refine (implDocs_w L D _ _ _ _ HD.out (E1.out.later BK3) (by omega)).mono ?_
  rintro e wb ⟨aD, nD, cD, rfl, F1, hx⟩
  have HBB := Lib.hid (BK3.trans (hx.mono BK3.size))
  have HNO := Lib.hid FO.len
  have HCO := Lib.hid (FO.later hx).at_
  have HND := Lib.hid F1.len
  have HF := Lib.hid F1
  have hnO9 : nO ≤ 40 := by have := HNO.out; omega
  have hnD9 : nD ≤ 40 := by have := HND.out; omega
  have BS : Below wb.heap.size wb wb := Below.refl _ _
  clear hx BK3 FO F1
  go_wp2
  go_loopw [7, 8] (fun q_ i_ wr => ∃ i q : Nat, i ≤ nD ∧ q ≤ i ∧ i_ = .int .i64 i ∧ q_ = .int .i64 q ∧ Hid (q = ((D.take i).flatMap (askD L M)).length) ∧ Below wb.heap.size wb wr) (fun _ i_ _ => nD - (intOf i_).toNat)
  case atStart => exact ⟨0, 0, Nat.zero_le _, Nat.le_refl _, rfl, rfl, Lib.hid (by simp), BS⟩
  case round =>
    clear BS
    obtain ⟨i, q, hi, hqi, rfl, rfl, HQ, BS⟩ := hrel
    obtain ⟨wo, hwo⟩ : ∃ wo, wo = wr := ⟨_, rfl⟩
    subst hwo
    have HBo := Lib.hid BS
    by_cases hlt : i < nD
    · have hiD : i < D.length := by have := HND.out; omega
      obtain ⟨d, hd⟩ : ∃ d, D[i] = d := ⟨_, rfl⟩
      obtain ⟨db, dd, hdo, _, _⟩ := int_cell HF.out.at_ hiD hd
      have HDC := Lib.hid (show ∀ w', Below wo.heap.size wo w' → w'.cell? ⟨db, dd + i, none⟩ = some (.int .i64 d) from fun w' hb => by
        obtain ⟨b', o', h1, _, h2⟩ := int_cell (HF.out.later (HBo.out.trans (hb.mono HBo.out.size))).at_ hiD hd
        obtain ⟨rfl, rfl⟩ := (by simpa using hdo.symm.trans h1 : db = b' ∧ dd = o')
        exact h2)
      have HAD := Lib.hid (fun t (ht : (twinsL (ownM L d) M).length = t) => askD_is (HOK.out i hiD) M d ht)
      have HST := Lib.hid (show ((D.take (i + 1)).flatMap (askD L M)).length = ((D.take i).flatMap (askD L M)).length + (askD L M d).length by rw [ask_step hiD, hd])
      have HAT := Lib.hid (show ∀ x, askD L M d = [x] → ∃ h : q < S.length, S[q] = x from fun x hx => by
        have h1 := ask_at (f := askD L M) hiD (x := x) (by rw [hd]; exact hx)
        rw [← HQ.out] at h1
        simp only [← HSD.out] at h1
        exact h1)
      have hone0 : One wo wo.heap.size (wo.alloc (.cells #[] 46)) 46 2 (some ⟨wo.heap.size, 0, none⟩) 0 0 (pairsC (ownM (L.take 0) d)) := One.empty wo 46 2
      have y1 : (i : Int) < (nD : Int) := by omega
      have y0 : (0 : Int) ≤ (i : Int) := by omega
      subst hdo
      clear hd BS
      go_wp2
      go_loopw [9, 10] (fun o_ k_ wr => ∃ k : Nat, k ≤ n1 ∧ k_ = .int .i64 k ∧ ∃ a' n' c', o_ = .slice a' n' c' ∧ n' ≤ k ∧ One wo wo.heap.size wr 46 2 a' n' c' (pairsC (ownM (L.take k) d))) (fun _ k_ _ => n1 - (intOf k_).toNat)
      case atStart => exact ⟨0, Nat.zero_le _, rfl, _, _, _, rfl, Nat.le_refl _, hone0⟩
      case round =>
        clear hone0
        obtain ⟨k, hk, rfl, a', n', c', rfl, hn', hone⟩ := hrel
        have g0 := HDC.out wr hone.below
        by_cases hlk : k < n1
        · have hkl : k < L.length := by have := HN.out; omega
          obtain ⟨x, hx⟩ : ∃ x, L[k].1 = x := ⟨_, rfl⟩
          obtain ⟨y, hy⟩ : ∃ y, L[k].2.1 = y := ⟨_, rfl⟩
          obtain ⟨z, hz⟩ : ∃ z, L[k].2.2 = z := ⟨_, rfl⟩
          have hm : L[k] = (x, y, z) := by rw [← hx, ← hy, ← hz]
          have HM := Lib.hid hm
          have hyes := ownM_yes (d := d) hkl
          have hno := ownM_no (d := d) hkl
          rw [hm] at hyes hno
          obtain ⟨lb, lo, hlo, _, _, _, _⟩ := ent_cells E1.out.at_ hkl hm
          have HLC := Lib.hid (show ∀ w', Below wo.heap.size wo w' → w'.cell? ⟨lb, lo + k * 3, none⟩ = some (.int .i64 x) ∧ w'.cell? ⟨lb, lo + k * 3 + 1, none⟩ = some (.int .i64 y) ∧ w'.cell? ⟨lb, lo + k * 3 + 2, none⟩ = some (.int .i64 z) from fun w' hb => by
            obtain ⟨b', o', h1, _, h2, h3, h4⟩ := ent_cells (E1.out.later (HBB.out.trans ((HBo.out.trans (hb.mono HBo.out.size)).mono HBB.out.size))).at_ hkl HM.out
            obtain ⟨rfl, rfl⟩ := (by simpa using hlo.symm.trans h1 : lb = b' ∧ lo = o')
            exact ⟨h2, h3, h4⟩)
          obtain ⟨g1, g2, g3⟩ := HLC.out wr hone.below
          have y3 : (k : Int) < (n1 : Int) := by omega
          have y4 : (0 : Int) ≤ (k : Int) := by omega
          subst hlo
          clear hx hy hz hm
          by_cases hyd : y = d
          · have t1 : (y == d) = true := by rw [hyd]; exact beq_self_eq_true _
            have HE := Lib.hid (show pairsC (ownM (L.take (k + 1)) d) = pairsC (ownM (L.take k) d) ++ [.int .i64 x, .int .i64 z] by rw [hyes hyd, pairsC_append]; rfl)
            clear hyes hno hyd
            go_wp2
            go_quiet (fail)
            go_wp2
            go_region_held3 (fun w' => w'.cell? ⟨lb, lo + k * 3, none⟩ = some (.int .i64 x) ∧ w'.cell? ⟨lb, lo + k * 3 + 2, none⟩ = some (.int .i64 z)) (first | go_keep | exact ⟨(HLC.out _ h3.below).1, (HLC.out _ h3.below).2.2⟩)
              ((refine step_append_to wo wo.heap.size a' n' c' (pairsC (ownM (L.take k) d)) (some ⟨wr.heap.size, 0, none⟩) 1 1 [.int .i64 x, .int .i64 z] (n' + 1) (pairsC (ownM (L.take (k + 1)) d)) (by rfl) (by exact HE.out.symm) (by rfl) (.tmp 54) (.tmp 66) 39 (by rfl) (by rfl) (by rfl) Try.ulM4 Try.infoM4 rfl (by decide) (by rfl) (by simp [Value.oneCell']) (by unfold maxLen; omega) (by omega) (by repeat (first | exact hone | refine One.drew ?_ | exact One.drewN hone _ | refine One.alloc ?_ _)) (by repeat (first | exact cellsAt_lit _ _ _ _ rfl | refine CellsAt.drewW ?_)) ?_; intro a3 c3 w3 h3 g3))
            go_wp2
            go_roundw
            case rel => exact ⟨k + 1, by omega, by go_num, a3, n' + 1, c3, rfl, by omega, h3⟩
            case measure => simp [intOf]; omega
          · have t1 : (y == d) = false := by simpa using hyd
            have HE := Lib.hid (hno hyd)
            clear hyes hno hyd
            go_wp2
            go_quiet (fail)
            go_wp2
            go_roundw
            case rel => exact ⟨k + 1, by omega, by go_num, a', n', c', rfl, by omega, by rw [HE.out]; exact hone.drewN _⟩
            case measure => simp [intOf]; omega
        · have hO : One wo wo.heap.size wr 46 2 a' n' c' (pairsC (ownM L d)) := by
            have h := hone
            rwa [List.take_of_length_le (by have := HN.out; omega)] at h
          have hBr := hO.below
          have hBb := HBB.out.trans ((HBo.out.trans (hBr.mono HBo.out.size)).mono HBB.out.size)
          have c7 := implTwins_any (ownM L d) M a' n' c' a2 n2 c2 wr (pairs_len hO.own) HM2.out (by omega) (by omega) hO.at_ (HMC.out.below hBb)
          have HBr := Lib.hid hBr
          clear hone hO hBb hBr
          go_wp2_with fail
          refine c7.mono ?_
          rintro e w7 ⟨aT, nT, cT, rfl, o7⟩
          have HNT := Lib.hid (pairs_len o7.own)
          have hnT9 : nT ≤ 1048576000 := by
            have h1 := HNT.out
            have h2 := twinsL_len (ownM L d) M 14 hM9
            have h3 := ownM_len L d
            have h4 : (ownM L d).length * 14 ≤ 40 * 14 := Nat.mul_le_mul_right _ (by omega)
            omega
          have HB7 := Lib.hid (HBr.out.trans (o7.below.mono HBr.out.size))
          have g7 := HDC.out w7 HB7.out
          clear o7 c7 g0
          by_cases ht0 : nT = 0
          · have HAE := Lib.hid (show (askD L M d).length = 0 by rw [HAD.out nT HNT.out.symm, if_pos ht0]; rfl)
            have HQ2 := Lib.hid (show q = ((D.take (i + 1)).flatMap (askD L M)).length by rw [HST.out, HAE.out, ← HQ.out]; rfl)
            have t1 : ((nT : Int) == 0) = true := by rw [ht0]; rfl
            have t2 : (nT == 0) = true := by rw [ht0]; rfl
            clear ht0
            go_wp2
            go_roundw
            case rel => exact ⟨i + 1, q, by omega, by omega, by go_num, rfl, HQ2, HBo.out.trans (HB7.out.mono HBo.out.size)⟩
            case measure => simp [intOf]; omega
          · have HAE := Lib.hid (show askD L M d = [(d, (nT : Int))] by rw [HAD.out nT HNT.out.symm, if_neg ht0])
            have HQ2 := Lib.hid (show q + 1 = ((D.take (i + 1)).flatMap (askD L M)).length by rw [HST.out, HAE.out, ← HQ.out]; rfl)
            obtain ⟨hqS, hSq⟩ := HAT.out _ HAE.out
            obtain ⟨sb, so, rfl, _, k1, k2⟩ := pair_at5 (HCO.out.below (HBo.out.trans (HB7.out.mono HBo.out.size))) hqS hSq
            have hqO : q < nO := by have := HNO.out; omega
            have t1 : ((nT : Int) == 0) = false := by simp; omega
            have t2 : (nT == 0) = false := by simp; omega
            have t3 : decide (nO ≤ q) = false := decide_eq_false (by omega)
            have t4 : decide ((nO : Int) ≤ (q : Int)) = false := decide_eq_false (by omega)
            have y5 : (q : Int) < (nO : Int) := by omega
            have y6 : (0 : Int) ≤ (q : Int) := by omega
            have tx : (d == d) = true := beq_self_eq_true _
            have ty : ((nT : Int) == (nT : Int)) = true := beq_self_eq_true _
            clear ht0 hSq
            go_wp2
            go_quiet (fail)
            go_wp2
            go_roundw
            case rel => exact ⟨i + 1, q + 1, by omega, by omega, by go_num, by go_num, HQ2, below_drewN' (HBo.out.trans (HB7.out.mono HBo.out.size)) _⟩
            case measure => simp [intOf]; omega
    · have hqO : q = nO := by
        have h := HQ.out
        rw [List.take_of_length_le (by have := HND.out; omega), ← HSD.out, ← HNO.out] at h
        exact h
      have t1 : ((q : Int) == (nO : Int)) = true := by rw [hqO]; exact beq_self_eq_true _
      have t2 : (q == nO) = true := by rw [hqO]; exact beq_self_eq_true _
      have hBb := HBB.out.trans (BS.mono HBB.out.size)
      clear hqO
      go_wp2_with fail
      refine (alive_any _).mono ?_
      rintro e wq ⟨rfl, rfl⟩
      go_wp2
      go_ret
      exact ⟨rfl, HBW.out.trans (hBb.mono HBW.out.size)⟩

end Go.Proofs.Ytclblnkeakkdeaa
