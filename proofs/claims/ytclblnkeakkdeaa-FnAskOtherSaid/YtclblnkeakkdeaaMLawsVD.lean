/-
  The walk of the law ShelfOfAll: it answers true, and nothing that was there is written. No conditions. (Written by wip/tools/ch8_laws.py.)
-/
import Derived.Test.YtclblnkeakkdeaaMLawsVC
import Derived.Deep.RegionHeld3
namespace Go.Proofs.Ytclblnkeakkdeaa
open Go.RowKit

set_option maxRecDepth 4000 in
set_option maxHeartbeats 16000000 in
theorem walkFnShelfOfAll (a : Option Addr) (len cap : Nat) (zs : List Int) (w : World) (h : IsRowK .u8 w a len cap zs) :
    Calls Try.prog 10 #[.slice a len cap] w fun e w' => e = .returned (.bool true) ∧ Below w.heap.size w w' := by
  by_cases hs : 1048576 < len
  · have h2 : (1048576 : Int) < (len : Int) := by omega
    go_enter Try.func10, Try.ntmps10
    go_wp2
    go_ret
    exact ⟨rfl, Below.refl _ _⟩
  have h2 : ¬ (1048576 : Int) < (len : Int) := by omega
  clear hs
  go_enter Try.func10, Try.ntmps10
  go_wp2_with fail
  refine (DrawShelfOfAll_any _ _ _ _ _ h).mono ?_
  rintro e w0 ⟨D, a1, n1, d1, k, v, hD, hDs, hk0, hk9, hv0, hv9, rfl, OO⟩
  clear h h2
  have BB := OO.below
  have X1 := txAt_of OO.own
  clear OO
  have wk : k ≤ 9223372036854775807 := by omega
  have wv : v ≤ 9223372036854775807 := by omega
  have hT : totalS D ≤ 276 := by have h1 := totalS_le8 hDs; omega
  clear hk0 hk9 hv0 hv9
  have c1 := fun w h => implAll_w D k v _ a1 n1 d1 w rfl h (by omega) (by omega) wk wv
  have c2 := fun w h => specAll_w D k v _ a1 n1 d1 w rfl h (by omega) (by omega) wk wv
  obtain ⟨R, hR⟩ : ∃ R, allN D k v D.length = R := ⟨_, rfl⟩
  rw [hR] at c1 c2
  have hRl : R.length ≤ 1048576 := by rw [← hR]; exact allN_room k v (Nat.le_refl _) (by omega)
  have hok : shOk R := by rw [← hR]; exact allN_shelf D k v _
  go_wp2_with fail
  refine (c1 _ X1).mono ?_
  rintro e w1 ⟨a2, n2, d2, rfl, E1, hb⟩
  replace X1 := X1.later hb
  replace BB := BB.trans (hb.mono BB.size)
  clear hb
  clear c1
  go_wp2_with fail
  refine (c2 _ X1).mono ?_
  rintro e w2 ⟨a3, n3, d3, rfl, E2, hb⟩
  replace X1 := X1.later hb
  replace E1 := E1.later hb
  replace BB := BB.trans (hb.mono BB.size)
  clear hb
  clear c2
  go_wp2_with fail
  refine (sameEnts_w R _ _ _ _ _ _ _ E1 E2 (by omega)).mono ?_
  rintro e w3 ⟨rfl, hb⟩
  replace X1 := X1.later hb
  replace E1 := E1.later hb
  replace BB := BB.trans (hb.mono BB.size)
  clear hb
  clear E2
  go_wp2_with fail
  refine (implOk_w R _ _ _ _ hok E1 (by omega)).mono ?_
  rintro e w4 ⟨rfl, hb⟩
  replace X1 := X1.later hb
  replace E1 := E1.later hb
  replace BB := BB.trans (hb.mono BB.size)
  clear hb
  clear hok
  have HR := Lib.hid hR
  have HX := Lib.hid X1
  have HE := Lib.hid E1
  have HBB := Lib.hid BB
  have hnD := X1.len
  have HD := Lib.hid hnD
  have hn1 : n1 ≤ 4 := by omega
  have HRL := Lib.hid hRl
  have HN2 := Lib.hid E1.len
  clear hR hRl hnD X1 E1 BB
  go_wp2
  go_loopw [7, 8] (fun u i_ wr => ∃ (i m : Nat), i ≤ n1 ∧ i_ = .int .i64 i ∧ u = .int .i64 m ∧ Hid (m = (allN D k v i).length) ∧ Hid (Below w4.heap.size w4 wr)) (fun _ i_ _ => n1 - (intOf i_).toNat)
  case atStart => exact ⟨0, 0, Nat.zero_le _, rfl, rfl, Lib.hid rfl, Lib.hid (Below.refl _ _)⟩
  case round =>
    obtain ⟨i, m, hi, rfl, rfl, HM, HB⟩ := hrel
    by_cases hlt : i < n1
    · have z1 : (i : Int) < (n1 : Int) := by omega
      have hiD : i < D.length := by have := HD.out; omega
      have X1 := HX.out.later HB.out
      have E1 := HE.out.later HB.out
      have BB := HB.out
      clear HB
      obtain ⟨b1, o1, rfl, _, hc1⟩ := X1.at_.str (fun e => by rw [e] at hiD; simp at hiD)
      have kc := hc1 i hiD
      obtain ⟨x, hx⟩ : ∃ x, D[i] = x := ⟨_, rfl⟩
      rw [hx] at kc
      have HXE := Lib.hid hx
      have hxs : x.size ≤ 69 := hDs x (hx ▸ List.getElem_mem hiD)
      have hdx : docAt D i = x := by rw [docAt_get8 hiD, hx]
      have hm9 : m ≤ 1048576 := by rw [HM.out]; exact allN_room k v (by omega) (by omega)
      have HNX := Lib.hid (show (allN D k v (i + 1)).length = m + (mkL x k v).length by rw [allN_len_next, hdx, ← HM.out])
      have hml : (mkL x k v).length ≤ 69 := Nat.le_trans (mkL_len x k v) hxs
      have c5 := fun w => implMarks_w x k v _ w rfl (by omega) wk wv
      have c6 := fun w => implShelfOf_w i x k v _ w rfl (by omega) wk wv
      have hO : onlyL R (i : Int) = rowE (entsOf i (mkL x k v)) := by rw [← HR.out, ← hdx]; exact allN_only D k v D.length i hiD
      obtain ⟨M, hM⟩ : ∃ M, mkL x k v = M := ⟨_, rfl⟩
      rw [hM] at c5 c6 HNX hml hO
      obtain ⟨Q, hQ⟩ : ∃ Q, rowE (entsOf i M) = Q := ⟨_, rfl⟩
      rw [hQ] at c6 hO
      have hQ9 : Q.length ≤ 1099511627776 := by rw [← hO]; exact Nat.le_trans (List.length_filter_le _ _) (by have := HRL.out; omega)
      have c7 := fun w h => only_w R (i : Int) Q a2 n2 d2 w hO h (by have := HRL.out; omega)
      clear hc1 hx hdx hM hQ hO HM
      go_wp2_with fail
      refine (c5 _).mono ?_
      rintro e w6 ⟨a6, n6, d6, rfl, h6, hb⟩
      replace E1 := E1.later hb
      replace X1 := X1.later hb
      replace BB := BB.trans (hb.mono BB.size)
      have kc6 := X1.at_.str (fun e => by rw [e] at hiD; simp at hiD)
      obtain ⟨b8, o8, hab, _, hc8⟩ := kc6
      simp only [Option.some.injEq, Addr.mk.injEq, and_true] at hab
      obtain ⟨rfl, rfl⟩ := hab
      have kc8 := hc8 i hiD
      obtain ⟨x', hx'⟩ : ∃ x', D[i] = x' := ⟨_, rfl⟩
      rw [hx'] at kc8
      clear hc8 hb kc c5
      obtain rfl : x' = x := hx'.symm.trans HXE.out
      clear hx'
      have e1 : IntKind.i64.wrap ((m : Int) + (n6 : Int)) = ((m + n6 : Nat) : Int) := by rw [IntWalk.i64_in _ (by omega)]; simp
      have HN6 := Lib.hid (show (allN D k v (i + 1)).length = m + n6 by rw [HNX.out, h6])
      clear h6 HNX
      go_wp2_with fail
      refine (c6 _).mono ?_
      rintro e w7 ⟨a7, n7, d7, rfl, E7, hb⟩
      replace E1 := E1.later hb
      replace BB := BB.trans (hb.mono BB.size)
      clear hb kc8 X1 c6
      go_wp2_with fail
      refine (c7 _ E1).mono ?_
      rintro e w8 ⟨a8, n8, d8, rfl, E8, hb⟩
      replace E7 := E7.later hb
      replace BB := BB.trans (hb.mono BB.size)
      clear hb E1 c7
      go_wp2_with fail
      refine (sameEnts_w Q _ _ _ _ _ _ _ E7 E8 hQ9).mono ?_
      rintro e w9 ⟨rfl, hb⟩
      have HB9 := Lib.hid (BB.trans (hb.mono BB.size))
      clear hb E7 E8 BB
      go_wp2
      go_roundw
      case rel => exact ⟨i + 1, m + n6, by omega, by go_num, rfl, Lib.hid HN6.out.symm, HB9⟩
      case measure => simp [intOf]; omega
    · have z1 : ¬ (i : Int) < (n1 : Int) := by omega
      have BB := HBB.out.trans (HB.out.mono HBB.out.size)
      have hm2 : m = n2 := by
        rw [HN2.out, ← HR.out, HM.out, show i = D.length by have := HD.out; omega]
      have f1 : ((m : Int) == (n2 : Int)) = true := by rw [hm2]; exact beq_self_eq_true _
      clear hm2 HBB HM
      go_wp2_with fail
      refine (alive_any _).mono ?_
      rintro e wq ⟨rfl, rfl⟩
      go_wp2
      go_ret
      exact ⟨rfl, BB⟩

end Go.Proofs.Ytclblnkeakkdeaa
