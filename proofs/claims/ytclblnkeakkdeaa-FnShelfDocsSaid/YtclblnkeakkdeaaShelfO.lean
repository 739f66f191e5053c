/-
  The contract of the program's function ShelfAsk. Condition: rows have at most 2^21 elements.
-/
import Derived.Test.YtclblnkeakkdeaaShelfN
import Derived.StillTailTactics
namespace Go.Proofs.Ytclblnkeakkdeaa
open Go.RowKit

theorem cntM_cons (l : List En) (m : Int × Int) (M : List (Int × Int)) (d : Int) : cntM l (m :: M) d = cntF (findL5 l m.1) d + cntM l M d := by
  rw [cntM, cntM, List.map_cons, List.sum_cons]
theorem sD_is {l : List En} (h : shOk l) (M : List (Int × Int)) (d : Int) : sD l M d = cntM l M d := by
  induction M with
  | nil => rw [sD_nil]; rfl
  | cons m M ih => rw [sD_cons, cntM_cons, ih, findL5_ok h]; rfl
theorem docs_up {l : List En} (h : shOk l) : UpI (docsL5 l) := fun i j hij hj => by
  by_cases e : i = j
  · subst e; exact Int.le_refl _
  · have h1 : (docsL5 l).Pairwise ltI := by rw [docsL5_ok h]; exact (rowI_is _).up
    have h2 := gup_at h1 (show i < j by omega) hj
    unfold ltI at h2
    omega
theorem docs_at {l : List En} (h : shOk l) {i : Nat} (hi : i < l.length) {y : Int} (hy : l[i].2.1 = y) : ∃ q, posI (docsL5 l) y = q ∧ ∃ hq : q < (docsL5 l).length, (docsL5 l)[q] = y := by
  have hm : y ∈ docsL5 l := by
    rw [docsL5_ok h, rowI_mem]
    exact List.mem_map.2 ⟨l[i], List.getElem_mem hi, hy⟩
  obtain ⟨j, hj, he⟩ := List.getElem_of_mem hm
  have h1 : (docsL5 l).Pairwise ltI := by rw [docsL5_ok h]; exact (rowI_is _).up
  have h2 := posI_mem h1 hj
  rw [he] at h2
  exact ⟨j, h2, hj, he⟩
theorem docs_apart {l : List En} (h : shOk l) {i j : Nat} (hi : i < (docsL5 l).length) (hj : j < (docsL5 l).length) (he : (docsL5 l)[i] = (docsL5 l)[j]) : i = j := by
  have h1 : (docsL5 l).Pairwise ltI := by rw [docsL5_ok h]; exact (rowI_is _).up
  have e1 := posI_mem h1 hi
  have e2 := posI_mem h1 hj
  rw [he] at e1
  omega

/-- What has been counted for the text at a place when so many entries were seen. -/
def cnt5 (l : List En) (M : List (Int × Int)) (D : List Int) (i e : Nat) : Int := (sD (l.take i) M (D.getD e 0) : Int)

set_option maxRecDepth 4000 in
set_option maxHeartbeats 16000000 in
theorem implAsk5_any (l : List En) (M : List (Int × Int)) (a : Option Addr) (n c : Nat) (b : Option Addr) (m f : Nat) (w : World) (hn : n = l.length) (hm : m = M.length) (hl : n ≤ 2097152) (hm9 : m ≤ 2097152) (hat : CellsAt w a (entsC l)) (hbt : CellsAt w b (pairsC M)) :
    Calls Try.prog 32 #[.slice a n c, .slice b m f] w fun e w' => ∃ a' n' c', e = .returned (.slice a' n' c') ∧ One w w.heap.size w' 50 2 a' n' c' (pairsC (askL5 l M)) := by
  by_cases hok : shOk l
  · have c1 := fun w h => implShelfOk_is true l a n c w ⟨fun _ => hok, fun _ => rfl⟩ hn (by omega) h
    have c2 := fun w h => implDocs5_any l a n c w hn (by omega) h
    have c3 := fun w h1 h2 => implTimes_any l M a n c b m f w hn hm hl hm9 (shOk_upI hok) h1 h2
    have HUD := Lib.hid (docs_up hok)
    have HDA := Lib.hid (fun i (hi : i < l.length) y (hy : l[i].2.1 = y) => docs_at hok hi hy)
    have HDP := Lib.hid (fun i j => docs_apart (i := i) (j := j) hok)
    have HSD := Lib.hid (fun d => sD_is hok M d)
    obtain ⟨D, hD⟩ : ∃ D, docsL5 l = D := ⟨_, rfl⟩
    have HR := Lib.hid (show askL5 l M = D.flatMap (askD l M) by rw [askL5, hD])
    have hDl : D.length ≤ n := by rw [← hD, hn]; exact docsL5_len l
    rw [hD] at HUD HDA HDP c2
    have HDL := Lib.hid hDl
    have HN := Lib.hid hn
    have HM := Lib.hid hm
    have HAT := Lib.hid hat
    have HBT := Lib.hid hbt
    clear hn hm hok hat hbt hD hDl
    go_enter Try.func32, Try.ntmps32
    go_wp2_with fail
    refine (c1 _ HAT.out).mono ?_
    rintro e w2 ⟨rfl, hb2⟩
    have d2 := c2 w2 (HAT.out.below hb2)
    clear c1 c2
    go_wp2_with fail
    refine d2.mono ?_
    rintro e w3 ⟨gD, nD, cD, rfl, h3⟩
    have hB3 : Below w.heap.size w w3 := hb2.trans (h3.below.mono hb2.size)
    have d3 := c3 w3 (HAT.out.below hB3) (HBT.out.below hB3)
    clear c3 d2
    go_wp2_with fail
    refine d3.mono ?_
    rintro e w4 ⟨gT, rfl, h4⟩
    have hB4 : Below w.heap.size w w4 := hB3.trans (h4.below.mono hB3.size)
    have HND := Lib.hid (ints_len5 h3.own)
    have hnD9 : nD ≤ 2097152 := by have := HND.out; have := HDL.out; omega
    have HDat := Lib.hid (h3.later h4.below).at_
    have HTat := Lib.hid h4.at_
    have hnDc := (h3.cap).1
    have HB4 := Lib.hid hB4
    clear h3 h4 hb2 hB3 d3 hB4
    obtain ⟨w5, hmk, hone⟩ := make_zeros w4 nD (by omega)
    obtain ⟨g, hg⟩ : ∃ g, w4.heap.size = g := ⟨_, rfl⟩
    have HG := Lib.hid hg
    rw [hg] at hmk
    have hone0 : One w4 w4.heap.size w5 3 1 (some ⟨g, 0, none⟩) nD nD (intCells (vecI nD (cnt5 l M D 0))) := by
      rw [hg] at hone ⊢
      rw [vecI_same (f := cnt5 l M D 0) (g := fun _ => 0) (fun i _ => by simp [cnt5, sD])]
      exact hone
    clear hone hg
    go_wp2
    clear hmk
    go_loopw [24] (fun i_ wr => ∃ i : Nat, i ≤ n ∧ i_ = .int .i64 i ∧ One w4 w4.heap.size wr 3 1 (some ⟨g, 0, none⟩) nD nD (intCells (vecI nD (cnt5 l M D i)))) (fun i_ _ => n - (intOf i_).toNat)
    case atStart => exact ⟨0, Nat.zero_le _, rfl, hone0⟩
    case round =>
      clear hone0
      obtain ⟨i, hi, rfl, hone⟩ := hrel
      by_cases hlt : i < n
      · have hil : i < l.length := by have := HN.out; omega
        obtain ⟨x, hx⟩ : ∃ x, l[i].1 = x := ⟨_, rfl⟩
        obtain ⟨y, hy⟩ : ∃ x, l[i].2.1 = x := ⟨_, rfl⟩
        obtain ⟨z, hz⟩ : ∃ x, l[i].2.2 = x := ⟨_, rfl⟩
        have hml : l[i] = (x, y, z) := by rw [← hx, ← hy, ← hz]
        obtain ⟨q, hq, hqD, hqy⟩ := HDA.out i hil y hy
        have c4 := fun w' (h : Below w4.heap.size w4 w') => implFirstN_any D y gD nD cD w' HND.out (by omega) HUD.out (HDat.out.below h)
        simp only [hq] at c4
        have hqn : q < nD := by have := HND.out; omega
        obtain ⟨t, ht⟩ : ∃ t, cM M x = t := ⟨_, rfl⟩
        obtain ⟨v, hv⟩ : ∃ v, sD (l.take i) M y = v := ⟨_, rfl⟩
        have hqg : D.getD q 0 = y := by rw [getD_at D q hqD, hqy]
        have hv1 : cnt5 l M D i q = (v : Int) := by rw [cnt5, hqg, hv]
        have hv2 : cnt5 l M D (i + 1) q = (v : Int) + (t : Int) := by rw [cnt5, hqg, sD_snoc M hil, hy, if_pos rfl, hv, hx, ht]; simp
        have hv3 : ∀ j, j < nD → j ≠ q → cnt5 l M D (i + 1) j = cnt5 l M D i j := fun j hj hne => by
          have hjD : j < D.length := by have := HND.out; omega
          rw [cnt5, cnt5, sD_snoc M hil, if_neg, Nat.add_zero]
          intro e
          rw [getD_at D j hjD, hy, ← hqy] at e
          exact hne (HDP.out j q hjD hqD e.symm)
        have ht9 : t ≤ 2097152 := by rw [← ht]; have := cM_len M x; have := HM.out; omega
        have hv9 : v ≤ 4398046511104 := by
          rw [← hv]
          have h1 := sD_le (l.take i) M y
          rw [List.length_take] at h1
          refine Nat.le_trans h1 (Nat.le_trans (Nat.mul_le_mul (show min i l.length ≤ 2097152 by omega) (show M.length ≤ 2097152 by have := HM.out; omega)) (by decide))
        have kq := vec_cell hone hqn hv1
        have hfz := hone.frozen q
        have HST := Lib.hid (show ∀ s, One w4 w4.heap.size ((wr.setCell ⟨g, q, none⟩ (.int .i64 ((v : Int) + (t : Int)))).drewN s) 3 1 (some ⟨g, 0, none⟩) nD nD (intCells (vecI nD (cnt5 l M D (i + 1)))) from fun s => (vec_stored hone hv2 hv3).drewN s)
        have hBr := hone.below
        obtain ⟨ab, ao, rfl, hab, k1, k2, k3⟩ := ent_cells (HAT.out.below (HB4.out.trans (hBr.mono HB4.out.size))) hil hml
        have kt : wr.cell? ⟨gT, i, none⟩ = some (.int .i64 (t : Int)) := by
          have h := intCells_at5 (HTat.out.below hBr) i (t : Int) (by rw [vecI_len]; exact hlt) (by
            rw [vecI_get _ _ _ hlt, getD_at (prL l) i (by rw [prL_len]; exact hil), prL_get l i hil, hx, ht])
          rwa [Nat.zero_add] at h
        have HBr := Lib.hid hBr
        have ev : IntKind.i64.wrap ((v : Int) + (t : Int)) = (v : Int) + (t : Int) := IntWalk.i64_in _ (by omega)
        have z1 : (i : Int) < (n : Int) := by omega
        have z2 : (0 : Int) ≤ (i : Int) := by omega
        have z3 : (q : Int) < (nD : Int) := by omega
        have z4 : (0 : Int) ≤ (q : Int) := by omega
        clear hx hy hz hml hqy hqD hq ht hv hqg hv1 hv2 hv3 hone hil hBr
        go_wp2
        go_still_tail 16, (by kernel_rfl)
        still_call (Calls.mono (c4 wr.drew HBr.out.drew) (fun e w' h => And.intro h.1 h.2.symm))
        repeat still_step
        refine wpStill_nil ?_
        change wpList _ _ _ _ _ wr.drew
        go_wp2
        go_roundw
        case rel => exact ⟨i + 1, by omega, by go_num, HST.out 1⟩
        case measure => simp [intOf]; omega
      · obtain rfl : i = n := by omega
        have HC := Lib.hid (show ∀ e (h : e < D.length) w', Below wr.heap.size wr w' → w'.cell? ⟨g, e, none⟩ = some (.int .i64 (cntM l M D[e] : Nat)) from fun e h w' hb => by
          have h1 := vec_cell (hone.later hb) (show e < nD by have := HND.out; omega) (v := (cntM l M D[e] : Nat)) (by
            rw [cnt5, List.take_of_length_le (by have := HN.out; omega), HSD.out, getD_at D e h])
          exact h1)
        have HBr := Lib.hid hone.below
        have HDr := Lib.hid (HDat.out.below hone.below)
        have HCle := Lib.hid (show ∀ d, cntM l M d ≤ 4398046511104 from fun d => by
          rw [← HSD.out]
          exact Nat.le_trans (sD_le l M d) (Nat.le_trans (Nat.mul_le_mul (show l.length ≤ 2097152 by have := HN.out; omega) (show M.length ≤ 2097152 by have := HM.out; omega)) (by decide)))
        have hone0 : One wr wr.heap.size wr 50 2 none 0 0 (pairsC ((D.take 0).flatMap (askD l M))) := One.nil _ _ _
        obtain ⟨wo, hwo⟩ : ∃ wo, wo = wr := ⟨_, rfl⟩
        rw [← hwo] at HC HBr HDr hone0
        rw [← hwo]
        clear hone hwo
        go_wp2
        go_loopw [9, 46] (fun o_ e_ wr => ∃ e : Nat, e ≤ nD ∧ e_ = .int .i64 e ∧ ∃ a' n' c', o_ = .slice a' n' c' ∧ n' ≤ e ∧ One wo wo.heap.size wr 50 2 a' n' c' (pairsC ((D.take e).flatMap (askD l M)))) (fun _ e_ _ => nD - (intOf e_).toNat)
        case atStart => exact ⟨0, Nat.zero_le _, rfl, _, _, _, rfl, Nat.le_refl _, hone0⟩
        case round =>
          clear hone0
          obtain ⟨e, he, rfl, a', n', c', rfl, hn', hone⟩ := hrel
          by_cases hlt : e < nD
          · have heD : e < D.length := by have := HND.out; omega
            have k1 := HC.out e heD wr hone.below
            obtain ⟨d, hd⟩ : ∃ d, D[e] = d := ⟨_, rfl⟩
            rw [hd] at k1
            have HCC := Lib.hid (fun w' h => HC.out e heD w' h)
            have HNX := Lib.hid (show (D.take (e + 1)).flatMap (askD l M) = (D.take e).flatMap (askD l M) ++ askD l M d by
              rw [List.take_succ_eq_append_getElem heD, List.flatMap_append, hd]; simp)
            obtain ⟨db, dd, rfl, hdb, k2⟩ := int_cell (HDr.out.below hone.below) heD hd
            have hq9 := HCle.out d
            obtain ⟨q, hq⟩ : ∃ q, cntM l M d = q := ⟨_, rfl⟩
            rw [hd] at HCC
            rw [hq] at k1 hq9 HCC
            have z1 : (e : Int) < (nD : Int) := by omega
            have z2 : (0 : Int) ≤ (e : Int) := by omega
            have HQ := Lib.hid hq
            clear hq
            by_cases hq0 : q = 0
            · have HE := Lib.hid (show (D.take (e + 1)).flatMap (askD l M) = (D.take e).flatMap (askD l M) by rw [HNX.out, askD, if_pos (by rw [HQ.out]; exact hq0)]; simp)
              have t1 : decide ((0 : Int) < (q : Int)) = false := decide_eq_false (by omega)
              have t2 : decide (0 < q) = false := decide_eq_false (by omega)
              clear hq0 hd heD
              go_wp2
              go_roundw
              case rel => exact ⟨e + 1, by omega, by go_num, a', n', c', rfl, by omega, by rw [HE.out]; exact hone⟩
              case measure => simp [intOf]; omega
            · have HE := Lib.hid (show pairsC ((D.take (e + 1)).flatMap (askD l M)) = pairsC ((D.take e).flatMap (askD l M)) ++ [.int .i64 d, .int .i64 (q : Int)] by
                rw [HNX.out, askD, if_neg (by rw [HQ.out]; exact hq0), pairsC_append, HQ.out]; rfl)
              have t1 : decide ((0 : Int) < (q : Int)) = true := decide_eq_true (by omega)
              have t2 : decide (0 < q) = true := decide_eq_true (by omega)
              have t3 : (0 : Int) < (q : Int) := by omega
              have HDD := Lib.hid (show ∀ w', Below wo.heap.size wo w' → w'.cell? ⟨db, dd + e, none⟩ = some (.int .i64 d) from fun w' h => by
                obtain ⟨b', o', h1, _, h2⟩ := int_cell (HDr.out.below h) heD hd
                obtain ⟨rfl, rfl⟩ := (by simpa using h1 : db = b' ∧ dd = o')
                exact h2)
              clear hq0 hd heD
              go_wp2
              go_region_held3 (fun w' => w'.cell? ⟨g, e, none⟩ = some (.int .i64 (q : Int)) ∧ w'.cell? ⟨db, dd + e, none⟩ = some (.int .i64 d)) (first | go_keep | exact ⟨HCC.out _ h3.below, HDD.out _ h3.below⟩)
                ((refine step_append_to wo wo.heap.size a' n' c' (pairsC ((D.take e).flatMap (askD l M))) (some ⟨wr.heap.size, 0, none⟩) 1 1 [.int .i64 d, .int .i64 (q : Int)] (n' + 1) (pairsC ((D.take (e + 1)).flatMap (askD l M))) (by rfl) (by exact HE.out.symm) (by rfl) (.tmp 54) (.tmp 64) 42 (by rfl) (by rfl) (by rfl) Try.ulS5 Try.infoS5 rfl (by decide) (by rfl) (by simp [Value.oneCell']) (by unfold maxLen; omega) (by omega) (by repeat (first | exact hone | refine One.drew ?_ | exact One.drewN hone _ | refine One.alloc ?_ _)) (by repeat (first | exact cellsAt_lit _ _ _ _ rfl | refine CellsAt.drewW ?_)) ?_; intro a3 c3 w3 h3 g3))
              go_wp2
              go_roundw
              case rel => exact ⟨e + 1, by omega, by go_num, a3, n' + 1, c3, rfl, by omega, h3⟩
              case measure => simp [intOf]; omega
          · have HO := Lib.hid (show One wo wo.heap.size wr 50 2 a' n' c' (pairsC (askL5 l M)) by
              have h := hone
              rw [List.take_of_length_le (by have := HND.out; omega)] at h
              rw [HR.out]
              exact h)
            clear hone
            have HBB := HB4.out.trans (HBr.out.mono HB4.out.size)
            go_wp2
            go_ret
            exact ⟨_, _, _, rfl, HO.out.under HBB HBB.size⟩
  · have c1 := fun w h => implShelfOk_is false l a n c w ⟨(fun h => absurd h (by decide)), (fun h => absurd h hok)⟩ hn (by omega) h
    have e0 : askL5 l M = [] := by rw [askL5, docsL5_not hok]; rfl
    rw [e0]
    have HAT := Lib.hid hat
    clear hn hm hok hat hbt e0
    go_enter Try.func32, Try.ntmps32
    go_wp2_with fail
    refine (c1 _ HAT.out).mono ?_
    rintro e w2 ⟨rfl, hb2⟩
    clear c1
    go_wp2
    go_ret
    exact ⟨_, _, _, rfl, (One.nil w2 50 2).under hb2 hb2.size⟩

end Go.Proofs.Ytclblnkeakkdeaa
