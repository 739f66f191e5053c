/-
  The contract of the model's function ShelfAsk. Condition: rows have at most 2^21 elements.
-/
import Derived.Test.YtclblnkeakkdeaaShelfF
namespace Go.Proofs.Ytclblnkeakkdeaa
open Go.RowKit

theorem Try.ulS5 : Try.prog.underlying 42 = some (.slice 50) := by kernel_rfl
theorem Try.infoS5 : (Try.prog.info? 50).map (fun i => (i.zero, i.size, i.bytes)) = some (some (.agg #[.int .i64 0, .int .i64 0]), 2, 16) := by kernel_rfl

/-- How many of these entries are of a text; of all that marks find; and what is told of each text. -/
def cntF (F : List En) (d : Int) : Nat := (F.filter (fun x => x.2.1 == d)).length
noncomputable def cntM (l : List En) (M : List (Int × Int)) (d : Int) : Nat := (M.map fun m => cntF (findL5 l m.1) d).sum
noncomputable def askD (l : List En) (M : List (Int × Int)) (d : Int) : List (Int × Int) := if cntM l M d = 0 then [] else [(d, (cntM l M d : Int))]
noncomputable def askL5 (l : List En) (M : List (Int × Int)) : List (Int × Int) := (docsL5 l).flatMap (askD l M)

theorem cntF_yes {F : List En} {d : Int} {k : Nat} (hk : k < F.length) (h : F[k].2.1 = d) : cntF (F.take (k + 1)) d = cntF (F.take k) d + 1 := by
  rw [cntF, cntF, filter_yes hk (by simpa using h)]; simp
theorem cntF_no {F : List En} {d : Int} {k : Nat} (hk : k < F.length) (h : ¬ F[k].2.1 = d) : cntF (F.take (k + 1)) d = cntF (F.take k) d := by
  rw [cntF, cntF, filter_no hk (by simpa using h)]
theorem cntM_next {l : List En} {M : List (Int × Int)} {d : Int} {k : Nat} (hk : k < M.length) : cntM l (M.take (k + 1)) d = cntM l (M.take k) d + cntF (findL5 l M[k].1) d := by
  rw [cntM, cntM, List.take_succ_eq_append_getElem hk, List.map_append, List.sum_append]; simp
theorem findL5_len (l : List En) (p : Int) : (findL5 l p).length ≤ l.length := by
  by_cases h : shOk l
  · rw [findL5_ok h]; exact List.length_filter_le _ _
  · rw [findL5_not h]; exact Nat.zero_le _
theorem docsL5_len (l : List En) : (docsL5 l).length ≤ l.length := by
  by_cases h : shOk l
  · rw [docsL5_ok h]; have := rowI_len (l.map fun x => x.2.1); rwa [List.length_map] at this
  · rw [docsL5_not h]; exact Nat.zero_le _

set_option maxRecDepth 4000 in
set_option maxHeartbeats 16000000 in
theorem specAsk5_any (l : List En) (M : List (Int × Int)) (a : Option Addr) (n c : Nat) (b : Option Addr) (m f : Nat) (w : World) (hn : n = l.length) (hm : m = M.length) (hl : n ≤ 2097152) (hm9 : m ≤ 2097152) (hnc : n ≤ c) (hc9 : c ≤ maxLen) (hat : CellsAt w a (entsC l)) (hbt : CellsAt w b (pairsC M)) :
    Calls Try.prog 34 #[.slice a n c, .slice b m f] w fun e w' => ∃ a' n' c', e = .returned (.slice a' n' c') ∧ One w w.heap.size w' 50 2 a' n' c' (pairsC (askL5 l M)) := by
  have HN := Lib.hid hn
  have HM := Lib.hid hm
  have HAT := Lib.hid hat
  have HBT := Lib.hid hbt
  clear hn hm hat hbt
  go_enter Try.func34, Try.ntmps34
  go_wp2_with fail
  refine (specDocs5_any l a n c _ HN.out hl (HAT.out.allocW _)).mono ?_
  rintro e w2 ⟨gD, nD, cD, rfl, h2⟩
  obtain ⟨D, hD⟩ : ∃ D, docsL5 l = D := ⟨_, rfl⟩
  have HR := Lib.hid (show askL5 l M = D.flatMap (askD l M) by rw [askL5, hD])
  have hDl : D.length ≤ n := by rw [← hD, HN.out]; exact docsL5_len l
  rw [hD] at h2
  have HND := Lib.hid (ints_len5 h2.own)
  have hnD9 : nD ≤ 2097152 := by have := HND.out; omega
  have hone0 : One w w.heap.size w2 50 2 (some ⟨w.heap.size, 0, none⟩) 0 0 (pairsC ((D.take 0).flatMap (askD l M))) := (One.empty w 50 2).later h2.below
  have hown0 : w2.ownsRow w.heap.size 3 1 (.slice (some ⟨gD, 0, none⟩) nD cD) nD (intCells D) := own_under h2.own (by simp)
  clear h2 hD hDl
  go_wp2
  go_loopw [5, 7] (fun o_ i_ wr => ∃ i : Nat, i ≤ nD ∧ i_ = .int .i64 i ∧ ∃ a' n' c', o_ = .slice a' n' c' ∧ n' ≤ i ∧ One w w.heap.size wr 50 2 a' n' c' (pairsC ((D.take i).flatMap (askD l M))) ∧ wr.ownsRow w.heap.size 3 1 (.slice (some ⟨gD, 0, none⟩) nD cD) nD (intCells D)) (fun _ i_ _ => nD - (intOf i_).toNat)
  case atStart => exact ⟨0, Nat.zero_le _, rfl, _, _, _, rfl, Nat.le_refl _, hone0, hown0⟩
  case round =>
    clear hone0 hown0
    obtain ⟨i, hi, rfl, a', n', c', rfl, hn', hone, hown⟩ := hrel
    obtain ⟨wo, rfl⟩ : ∃ wo, wo = wr := ⟨_, rfl⟩
    by_cases hlt : i < nD
    · have hiD : i < D.length := by have := HND.out; omega
      obtain ⟨d, hd⟩ : ∃ d, D[i] = d := ⟨_, rfl⟩
      have HNX := Lib.hid (show (D.take (i + 1)).flatMap (askD l M) = (D.take i).flatMap (askD l M) ++ askD l M d by
        rw [List.take_succ_eq_append_getElem hiD, List.flatMap_append, hd]; simp)
      have HDC := Lib.hid (show ∀ w', Below wo.heap.size wo w' → w'.cell? ⟨gD, i, none⟩ = some (.int .i64 d) from fun w' h => by
        have h3 := intCells_at5 (cellsAt_own (ownsRow_below hown h)) i d hiD hd
        rwa [Nat.zero_add] at h3)
      have HO := Lib.hid (show ∀ w', Below wo.heap.size wo w' → One w w.heap.size w' 50 2 a' n' c' (pairsC ((D.take i).flatMap (askD l M))) ∧ w'.ownsRow w.heap.size 3 1 (.slice (some ⟨gD, 0, none⟩) nD cD) nD (intCells D) from fun w' h => ⟨hone.later h, ownsRow_below hown h⟩)
      have hBw := hone.below
      have z1 : (i : Int) < (nD : Int) := by omega
      have z2 : (0 : Int) ≤ (i : Int) := by omega
      clear hd hone hown
      go_wp2
      go_loopw [8, 9] (fun n_ j_ wi => ∃ j q : Nat, j ≤ m ∧ j_ = .int .i64 j ∧ n_ = .int .i64 q ∧ q ≤ j * 2097152 ∧ Hid (q = cntM l (M.take j) d) ∧ Below wo.heap.size wo wi) (fun _ j_ _ => m - (intOf j_).toNat)
      case atStart => exact ⟨0, 0, Nat.zero_le _, rfl, rfl, by omega, Lib.hid (by simp [cntM]), Below.refl _ _⟩
      case round =>
        obtain ⟨j, q, hj, rfl, rfl, hq9, HQ, Bi⟩ := hrel
        by_cases hlj : j < m
        · have hjM : j < M.length := by have := HM.out; omega
          obtain ⟨p, hp⟩ : ∃ p, M[j].1 = p := ⟨_, rfl⟩
          obtain ⟨x, hx⟩ : ∃ x, M[j].2 = x := ⟨_, rfl⟩
          have hmj : M[j] = (p, x) := by rw [← hp, ← hx]
          have hBi2 : Below w.heap.size w wr := hBw.trans (Bi.mono hBw.size)
          obtain ⟨mb, mo, rfl, hmb, g1, g2⟩ := pair_at5 (HBT.out.below hBi2) hjM hmj
          obtain ⟨F, hF⟩ : ∃ F, findL5 l p = F := ⟨_, rfl⟩
          have HNM := Lib.hid (show cntM l (M.take (j + 1)) d = cntM l (M.take j) d + cntF F d by rw [cntM_next hjM, hp, hF])
          have hFl : F.length ≤ 2097152 := by rw [← hF]; have := findL5_len l p; have := HN.out; omega
          have c1 := specFind5_any l p a n c wr HN.out (by omega) hnc hc9 (HAT.out.below hBi2)
          rw [hF] at c1
          have HFl := Lib.hid hFl
          have z3 : (j : Int) < (m : Int) := by omega
          have z4 : (0 : Int) ≤ (j : Int) := by omega
          clear hp hx hmj hF hFl
          go_wp2_with fail
          refine c1.mono ?_
          rintro e w5 ⟨fa, fn, fc, rfl, h5⟩
          have HFN := Lib.hid (ents_len h5.own)
          have hfn9 : fn ≤ 2097152 := by have := HFN.out; have := HFl.out; omega
          have B5 : Below wo.heap.size wo w5 := Bi.trans (h5.below.mono Bi.size)
          have HF5 := Lib.hid h5.at_
          have HD5 := HDC.out w5 B5
          clear h5 c1 Bi g1 g2 hBi2
          go_wp2
          go_loopw [8, 11] (fun n_ e_ wj => ∃ e t : Nat, e ≤ fn ∧ e_ = .int .i64 e ∧ n_ = .int .i64 t ∧ t ≤ j * 2097152 + e ∧ Hid (t = cntM l (M.take j) d + cntF (F.take e) d) ∧ ∃ s, wj = w5.drewN s) (fun _ e_ _ => fn - (intOf e_).toNat)
          case atStart => exact ⟨0, q, Nat.zero_le _, rfl, rfl, (by rw [Nat.add_zero]; exact hq9), Lib.hid (by rw [HQ.out]; simp [cntF]), 0, rfl⟩
          case round =>
            obtain ⟨e, t, he, rfl, rfl, ht9, HT, s, rfl⟩ := hrel
            by_cases hle : e < fn
            · have heF : e < F.length := by have := HFN.out; omega
              obtain ⟨x1, hx1⟩ : ∃ x1, F[e].1 = x1 := ⟨_, rfl⟩
              obtain ⟨y1, hy1⟩ : ∃ y1, F[e].2.1 = y1 := ⟨_, rfl⟩
              obtain ⟨z1', hz1⟩ : ∃ z1, F[e].2.2 = z1 := ⟨_, rfl⟩
              have hfe : F[e] = (x1, y1, z1') := by rw [← hx1, ← hy1, ← hz1]
              obtain ⟨fb, fo, rfl, _, k1, k2, k3⟩ := ent_cells HF5.out heF hfe
              have hyes := cntF_yes (d := d) heF
              have hno := cntF_no (d := d) heF
              rw [hy1] at hyes hno
              have z5 : (e : Int) < (fn : Int) := by omega
              have z6 : (0 : Int) ≤ (e : Int) := by omega
              have hjm : j * 2097152 ≤ 4398046511104 := Nat.le_trans (Nat.mul_le_mul_right 2097152 (show j ≤ 2097152 by omega)) (by decide)
              have ht8 : t ≤ 4398048608256 := by omega
              clear hx1 hy1 hz1 hfe
              by_cases hyd : y1 = d
              · have t1 : (y1 == d) = true := by rw [hyd]; exact beq_self_eq_true _
                have HT2 := Lib.hid (show t + 1 = cntM l (M.take j) d + cntF (F.take (e + 1)) d by rw [hyes hyd, HT.out]; omega)
                clear hyes hno hyd hjm
                go_wp2
                go_quiet (fail)
                go_wp2
                go_roundw
                case rel => exact ⟨e + 1, t + 1, by omega, by go_num, by go_num, by omega, HT2, _, rfl⟩
                case measure => simp [intOf]; omega
              · have t1 : (y1 == d) = false := by simpa using hyd
                have HT2 := Lib.hid (show t = cntM l (M.take j) d + cntF (F.take (e + 1)) d by rw [hno hyd, HT.out])
                clear hyes hno hyd hjm
                go_wp2
                go_quiet (fail)
                go_wp2
                go_roundw
                case rel => exact ⟨e + 1, t, by omega, by go_num, rfl, by omega, HT2, _, rfl⟩
                case measure => simp [intOf]; omega
            · have HQ2 := Lib.hid (show t = cntM l (M.take (j + 1)) d by
                rw [HNM.out, HT.out, show F.take e = F from List.take_of_length_le (by have := HFN.out; omega)])
              have ht8 : t ≤ (j + 1) * 2097152 := by omega
              clear ht9
              go_wp2
              go_roundw
              case rel => exact ⟨j + 1, t, by omega, by go_num, rfl, ht8, HQ2, below_drewN' B5 _⟩
              case measure => simp [intOf]; omega
        · have HQ2 := Lib.hid (show q = cntM l M d by
            have h := HQ.out
            rwa [show M.take j = M from List.take_of_length_le (by have := HM.out; omega)] at h)
          have hjm : j * 2097152 ≤ 4398046511104 := Nat.le_trans (Nat.mul_le_mul_right 2097152 (show j ≤ 2097152 by omega)) (by decide)
          have hq8 : q ≤ 4398046511104 := by omega
          obtain ⟨hone, hown⟩ := HO.out wr Bi
          have hdc := HDC.out wr Bi
          clear hq9 hjm HO HDC
          by_cases hq0 : q = 0
          · have HE := Lib.hid (show (D.take (i + 1)).flatMap (askD l M) = (D.take i).flatMap (askD l M) by rw [HNX.out, askD, if_pos (by rw [← HQ2.out]; exact hq0)]; simp)
            have t1 : decide ((0 : Int) < (q : Int)) = false := decide_eq_false (by omega)
            have t2 : decide (0 < q) = false := decide_eq_false (by omega)
            have HQ0 := Lib.hid hq0
            clear hq0
            go_wp2
            go_roundw
            case rel => exact ⟨i + 1, by omega, by go_num, a', n', c', rfl, by omega, by rw [HE.out]; exact hone, hown⟩
            case measure => simp [intOf]; omega
          · have HE := Lib.hid (show pairsC ((D.take (i + 1)).flatMap (askD l M)) = pairsC ((D.take i).flatMap (askD l M)) ++ [.int .i64 d, .int .i64 (q : Int)] by
              rw [HNX.out, askD, if_neg (by rw [← HQ2.out]; exact hq0), pairsC_append, ← HQ2.out]; rfl)
            have t1 : decide ((0 : Int) < (q : Int)) = true := decide_eq_true (by omega)
            have t2 : decide (0 < q) = true := decide_eq_true (by omega)
            have t3 : (0 : Int) < (q : Int) := by omega
            clear hq0
            go_wp2_with (at_builtin; refine wpList_append_apart rfl (.tmp 54) (.tmp 61) 42 rfl Try.ulS5 Try.infoS5 rfl (by decide) hone rfl #[.int .i64 d, .int .i64 (q : Int)] rfl rfl (by simp [Value.oneCell']) (by unfold maxLen; omega) (by omega) ?_; intro a7 c7 w7 h7 g7 p7)
            go_roundw
            case rel => exact ⟨i + 1, by omega, by go_num, a7, n' + 1, c7, rfl, by omega, by rw [HE.out]; exact h7, ownsRow_kept_apart hown hone.own (by decide) g7⟩
            case measure => simp [intOf]; omega
    · have HF := Lib.hid (show One w w.heap.size wo 50 2 a' n' c' (pairsC (askL5 l M)) by
        have h := hone
        rw [List.take_of_length_le (by have := HND.out; omega)] at h
        rw [HR.out]
        exact h)
      clear hone hown
      go_wp2
      go_ret
      exact ⟨_, _, _, rfl, HF.out⟩

end Go.Proofs.Ytclblnkeakkdeaa
