/-
  The walk of the table's law ShelfOf: it returns true, and nothing that was there is written. No conditions. (Written by wip/tools/ch5_of.py.)
-/
import Derived.Test.YteieolkpmjoohaaHelpE
import Derived.Test.YteieolkpmjoohaaMathLawsS
import Derived.Test.YteieolkpmjoohaaLawsTYF
namespace Go.Proofs.Yteieolkpmjoohaa
open Go.RowKit

theorem marks_in (s : List UInt8) (K V : Int) (x : Int × Int) (hx : x ∈ marksL s K V) : 0 ≤ x.1 ∧ x.1 < 1000003 ∧ 0 ≤ x.2 := by
  have h0 := marksL_bounds s K V x hx
  rw [marksL, List.mem_map] at hx
  obtain ⟨y, hy, rfl⟩ := hx
  have hK : 1 ≤ K := by
    by_cases h : K < 1
    · exfalso
      have h1 := chosenN_len (printsL s K) V
      rw [printsL_bad (.inl h)] at h1
      unfold marksAt at hy
      rw [printsL_bad (.inl h)] at hy
      simp at h1
      rw [h1] at hy
      simp at hy
    · omega
  obtain ⟨k, rfl⟩ : ∃ k : Nat, K = k := ⟨K.toNat, by omega⟩
  have h2 := marksAt_lt s k V (by omega) _ hy
  simp only
  rw [printsN_get _ _ _ (by omega) h2]
  have := prN_lt (pieceL s k y)
  exact ⟨by omega, by omega, h0.1⟩
theorem shOk_shelfL (s : List UInt8) (K V d : Int) : shOk (shelfL d (marksL s K V)) := by
  by_cases h : d < 0
  · rw [shelfL_not h]; exact shOk_nil
  · rw [shelfL_ok h]
    refine shOk_row fun x hx => ?_
    obtain ⟨m, hm, rfl⟩ := List.mem_map.1 hx
    have := marks_in s K V m hm
    exact ⟨this.1, this.2.1, by show 0 ≤ d; omega, this.2.2⟩
theorem putE_new (x : En) (S : List En) (h : ¬ x ∈ S) : (putE x S).length = S.length + 1 := by
  unfold putE
  rw [if_neg (fun e => h (List.mem_of_getElem? e))]
  rw [List.length_append, List.length_cons, List.length_take, List.length_drop]
  have := atE_le x S
  omega
theorem rowE_nodup (l : List En) (h : l.Pairwise (· ≠ ·)) : (rowE l).length = l.length := by
  induction l with
  | nil => rfl
  | cons x l ih =>
    rw [List.pairwise_cons] at h
    rw [rowE, putE_new x _ (fun e => h.1 x ((rowE_mem l x).1 e) rfl), ih h.2, List.length_cons]
theorem shelfL_count (s : List UInt8) (K V d : Int) (h : ¬ d < 0) : (shelfL d (marksL s K V)).length = (marksL s K V).length := by
  rw [shelfL_ok h, rowE_nodup, List.length_map]
  rw [marksL, List.map_map, List.pairwise_map]
  refine (chosenN_up (printsL s K) V).imp fun {x y} hxy e => ?_
  simp only [Function.comp, Prod.mk.injEq] at e
  omega
theorem shelfL_mem (d : Int) (M : List (Int × Int)) (h : ¬ d < 0) {i : Nat} (hi : i < M.length) {p x : Int} (hm : M[i] = (p, x)) : (p, d, x) ∈ shelfL d M := by
  rw [shelfL_ok h, rowE_mem]
  exact List.mem_map.2 ⟨M[i], List.getElem_mem hi, by rw [hm]⟩

theorem implOf_w (d : Int) (s : ByteArray) (k v : Int) (R : List En) (w : World) (hR : shelfL d (marksL s.data.toList k v) = R) (hs : s.size ≤ 1048576) (hv9 : v ≤ 9223372036854775807) :
    Calls Try.prog 22 #[.int .i64 d, .string s, .int .i64 k, .int .i64 v] w fun e w' => ∃ a n c, e = .returned (.slice a n c) ∧ EnAt w' a n c R ∧ Below w.heap.size w w' := by
  subst hR
  refine (implShelfOf_any d s k v _ w rfl (by omega) hv9).mono ?_
  rintro e w2 ⟨a, n, c, he, ho⟩
  exact ⟨a, n, c, he, enAt_of ho.own, ho.below⟩
theorem specOf_w (d : Int) (s : ByteArray) (k v : Int) (R : List En) (w : World) (hR : shelfL d (marksL s.data.toList k v) = R) (hs : s.size ≤ 1048576) (hv9 : v ≤ 9223372036854775807) :
    Calls Try.prog 24 #[.int .i64 d, .string s, .int .i64 k, .int .i64 v] w fun e w' => ∃ a n c, e = .returned (.slice a n c) ∧ EnAt w' a n c R ∧ Below w.heap.size w w' := by
  subst hR
  refine (specShelfOf_any d s k v _ w rfl (by omega) hv9).mono ?_
  rintro e w2 ⟨g, n, c, he, ho⟩
  exact ⟨_, n, c, he, enAt_of ho.own, ho.below⟩

set_option maxRecDepth 4000 in
set_option maxHeartbeats 16000000 in
theorem walkFnShelfOf (a : Option Addr) (len cap : Nat) (zs : List Int) (w : World) (h : IsRowK .u8 w a len cap zs) :
    Calls Try.prog 5 #[.slice a len cap] w fun e w' => e = .returned (.bool true) ∧ Below w.heap.size w w' := by
  by_cases hs : 1048576 < len
  · have h2 : (1048576 : Int) < (len : Int) := by omega
    go_enter Try.func5, Try.ntmps5
    go_wp2
    go_ret
    exact ⟨rfl, Below.refl _ _⟩
  go_enter Try.func5, Try.ntmps5
  go_wp2_with fail
  refine (DrawShelfOf_any _ _ _ _ _ h).mono ?_
  rintro e wk0 ⟨d, t, k, v, ht, hv0, hv9, rfl, hbw⟩
  have HBW := Lib.hid hbw
  have BK0 : Below wk0.heap.size wk0 wk0 := Below.refl _ _
  obtain ⟨M, hM⟩ : ∃ M, marksL t.data.toList k v = M := ⟨_, rfl⟩
  have hMl : M.length ≤ 24 := by rw [← hM]; exact Nat.le_trans (marksL_room5 _ _ _) (by have : t.data.toList.length = t.size := rfl; omega)
  have HRok := Lib.hid (shOk_shelfL t.data.toList k v d)
  have HCt := Lib.hid (fun h => shelfL_count t.data.toList k v d h)
  have hR9 := shelfL_len d M
  have HMem := Lib.hid (fun (h : ¬ d < 0) i (hi : i < M.length) p x (hm : M[i] = (p, x)) => shelfL_mem d M h hi hm)
  have HNo := Lib.hid (fun (h : d < 0) => shelfL_not h M)
  rw [hM] at HRok HCt
  obtain ⟨R, hR⟩ : ∃ R, shelfL d M = R := ⟨_, rfl⟩
  rw [hR] at HRok HCt hR9 HMem HNo
  have HR := Lib.hid (show shelfL d (marksL t.data.toList k v) = R by rw [hM]; exact hR)
  have HM := Lib.hid hM
  have ht9 : t.size ≤ 1048576 := by omega
  clear h hbw hs hR hM ht
  go_wp2_with fail
  refine (implOf_w d t k v R _ HR.out ht9 (by omega)).mono ?_
  rintro e wk1 ⟨aF1, nF1, cF1, rfl, F1, hx⟩
  have BK1 := BK0.trans (hx.mono BK0.size)
  clear hx BK0
  go_wp2_with fail
  refine (specOf_w d t k v R _ HR.out ht9 (by omega)).mono ?_
  rintro e wk2 ⟨aF2, nF2, cF2, rfl, F2, hx⟩
  have BK2 := BK1.trans (hx.mono BK1.size)
  replace F1 := F1.later hx
  clear hx BK1
  go_wp2_with fail
  refine (sameEnts_w R _ _ _ _ _ _ _ F1 F2 (by omega)).mono ?_
  rintro e wk3 ⟨rfl, hx⟩
  have BK3 := BK2.trans (hx.mono BK2.size)
  replace F1 := F1.later hx
  replace F2 := F2.later hx
  clear hx BK2
  clear F2
  go_wp2_with fail
  refine (implOk_w true R _ _ _ _ ⟨fun _ => HRok.out, fun _ => rfl⟩ F1 (by omega)).mono ?_
  rintro e wk4 ⟨rfl, hx⟩
  have BK4 := BK3.trans (hx.mono BK3.size)
  replace F1 := F1.later hx
  clear hx BK3
  by_cases hd : d < 0
  · have hz : nF1 = 0 := by rw [F1.len, HNo.out hd]; rfl
    subst hz
    go_wp2_with fail
    refine (alive_any _).mono ?_
    rintro e wq ⟨rfl, rfl⟩
    go_wp2
    go_ret
    exact ⟨rfl, HBW.out.trans (BK4.mono HBW.out.size)⟩
  have HCn := Lib.hid (HCt.out (by omega))
  have HMm := Lib.hid (HMem.out (by omega))
  have hd0 : ¬ d < 0 := hd
  have hd1 : (0 : Int) ≤ d := by omega
  clear hd
  go_wp2_with fail
  refine (implMarks_any t k v M _ HM.out (by omega) (by omega)).mono ?_
  rintro e w6 ⟨a6, n6, c6, rfl, o6⟩
  have HNF := Lib.hid F1.len
  have hnf9 : nF1 ≤ 24 := by have := HNF.out; omega
  have HO := Lib.hid (F1.later o6.below)
  have HNM := Lib.hid (pairs_len o6.own)
  have hn69 : n6 ≤ 24 := by have := HNM.out; omega
  have HMC := Lib.hid o6.at_
  have HB6 := Lib.hid (show Below w.heap.size w w6 from (HBW.out.trans (BK4.mono HBW.out.size)).trans (o6.below.mono (HBW.out.trans (BK4.mono HBW.out.size)).size))
  clear o6 F1 BK4
  go_wp2
  go_loopw [9] (fun i_ wr => ∃ i : Nat, i ≤ n6 ∧ i_ = .int .i64 i ∧ ∃ q, wr = w6.drewN q) (fun i_ _ => n6 - (intOf i_).toNat)
  case atStart => exact ⟨0, Nat.zero_le _, rfl, 0, rfl⟩
  case round =>
    obtain ⟨i, hi, rfl, q, rfl⟩ := hrel
    by_cases hli : i < n6
    · have hiM : i < M.length := by have := HNM.out; omega
      obtain ⟨x, hx⟩ : ∃ x, M[i].1 = x := ⟨_, rfl⟩
      obtain ⟨z, hz⟩ : ∃ z, M[i].2 = z := ⟨_, rfl⟩
      have hm : M[i] = (x, z) := by rw [← hx, ← hz]
      have HIn := Lib.hid (HMm.out i hiM x z hm)
      obtain ⟨pb, po, rfl, _, g1, g2⟩ := pair_at5 HMC.out hiM hm
      have y1 : (i : Int) < (n6 : Int) := by omega
      have y0 : (0 : Int) ≤ (i : Int) := by omega
      clear hx hz hm
      go_wp2
      go_loopw [10, 11] (fun b_ j_ wr => ∃ (j : Nat) (b : Bool), j ≤ nF1 ∧ j_ = .int .i64 j ∧ b_ = .bool b ∧ Hid (b = inTo (x, d, z) R j) ∧ ∃ q, wr = w6.drewN q) (fun _ j_ _ => nF1 - (intOf j_).toNat)
      case atStart => exact ⟨0, false, Nat.zero_le _, rfl, rfl, Lib.hid (inTo_zero _ _).symm, _, rfl⟩
      case round =>
        obtain ⟨j, b, hj, rfl, rfl, HBv, q, rfl⟩ := hrel
        by_cases hlj : j < nF1
        · have hjQ : j < R.length := by have := HNF.out; omega
          obtain ⟨x', hx⟩ : ∃ x, R[j].1 = x := ⟨_, rfl⟩
          obtain ⟨y', hy⟩ : ∃ y, R[j].2.1 = y := ⟨_, rfl⟩
          obtain ⟨z', hz⟩ : ∃ z, R[j].2.2 = z := ⟨_, rfl⟩
          have hm : R[j] = (x', y', z') := by rw [← hx, ← hy, ← hz]
          obtain ⟨qb, qo, rfl, _, k1, k2, k3⟩ := ent_cells HO.out.at_ hjQ hm
          have HMQ := Lib.hid hm
          have y3 : (j : Int) < (nF1 : Int) := by omega
          have y4 : (0 : Int) ≤ (j : Int) := by omega
          clear hx hy hz hm
          cases b with
          | true =>
            have HB2 := Lib.hid (inTo_more HBv.out.symm)
            go_wp2
            go_quiet (fail)
            go_wp2
            go_roundw
            case rel => exact ⟨j + 1, true, by omega, by go_num, rfl, Lib.hid HB2.out.symm, _, rfl⟩
            case measure => simp [intOf]; omega
          | false =>
            by_cases he : (x', y', z') = (x, d, z)
            · have HB2 := Lib.hid (inTo_yes (x := (x, d, z)) hjQ (by rw [HMQ.out]; exact he))
              simp only [Prod.mk.injEq] at he
              have tx : (x' == x) = true := by simpa using he.1
              have ty : (y' == d) = true := by simpa using he.2.1
              have tz : (z' == z) = true := by simpa using he.2.2
              clear he
              go_wp2
              go_quiet (fail)
              go_wp2
              go_roundw
              case rel => exact ⟨j + 1, true, by omega, by go_num, rfl, Lib.hid HB2.out.symm, _, rfl⟩
              case measure => simp [intOf]; omega
            · have HB2 := Lib.hid (inTo_no (x := (x, d, z)) hjQ (by rw [HMQ.out]; exact he) HBv.out.symm)
              have hcase := en_parts he
              clear he
              rcases hcase with t1 | ⟨t1, t2 | ⟨t2, t3⟩⟩
              all_goals (
                go_wp2
                go_quiet (fail)
                go_wp2
                go_roundw
                case rel => exact ⟨j + 1, false, by omega, by go_num, rfl, Lib.hid HB2.out.symm, _, rfl⟩
                case measure => simp [intOf]; omega)
        · have hbt : b = true := HBv.out.trans (inTo_all HIn.out (by have := HNF.out; omega))
          subst hbt
          go_wp2
          go_roundw
          case rel => exact ⟨i + 1, by omega, by go_num, _, rfl⟩
          case measure => simp [intOf]; omega
    · have hnn : nF1 = n6 := by have := HNF.out; have := HNM.out; have := HCn.out; omega
      have t1 : ((nF1 : Int) == (n6 : Int)) = true := by rw [hnn]; exact beq_self_eq_true _
      have t2 : (nF1 == n6) = true := by rw [hnn]; exact beq_self_eq_true _
      clear hnn
      go_wp2_with fail
      refine (alive_any _).mono ?_
      rintro e wq ⟨rfl, rfl⟩
      go_wp2
      go_ret
      exact ⟨rfl, below_drewN' HB6.out _⟩

end Go.Proofs.Yteieolkpmjoohaa
