/-
  The walk of the law AskShelf: it answers true, and nothing that was there is written. No conditions. (Written by wip/tools/ch8_laws.py.)
-/
import Derived.Test.YtclblnkeakkdeaaMLawsVB
import Derived.Test.YtclblnkeakkdeaaMg11
import Derived.Deep.RegionHeld3
namespace Go.Proofs.Ytclblnkeakkdeaa
open Go.RowKit

theorem beside_one {W w1 w2 : World} {B : Nat} {e e' : TypeId} {z z' : Nat} {a a' : Option Addr} {n c m d : Nat} {cs xs : List Value} (o2 : One w1 w1.heap.size w2 e z a n c cs) (HO : One W B w1 e' z' a' m d xs) : Beside w2 a cs (.slice a' m d) :=
  ⟨o2.at_, fun _ b o hb hk => by
    have h1 := (HO.own.lt b hk).2
    have h2 := (o2.own.lt b (by rw [hb]; rfl)).1
    omega⟩
theorem byDocs_grow (F : Nat → List En) {i m : Nat} (h : i < m) : (byDocs F i).length + (F i).length ≤ (byDocs F m).length := by
  obtain ⟨T, hT⟩ := byDocs_pre F h
  rw [hT]; simp only [List.length_append, List.length_map]; omega
/-- By the shelf of all texts there is found what their marks find one by one. -/
theorem ask8_found (D : List ByteArray) (s : ByteArray) (k v n : Int) : ask8 (allN D k v D.length) D s k v n = byDocs (fun i => foundL (docAt D i) s k v n) D.length := by
  by_cases h : 1 ≤ k ∧ 1 ≤ v ∧ 1 ≤ n
  · rw [ask8_ok ⟨allN_shelf D k v _, h⟩]
    obtain ⟨N, rfl⟩ : ∃ N : Nat, n = N := ⟨n.toNat, by omega⟩
    exact ask_found D s (by omega)
  · rw [ask8_not (fun h2 => h h2.2)]
    have h0 : ∀ m, byDocs (fun i => foundL (docAt D i) s k v n) m = [] := fun m => by
      induction m with
      | zero => rfl
      | succ m ih => rw [byDocs_next, ih, foundL_none (by omega)]; rfl
    exact (h0 _).symm
theorem ask8_all (D : List ByteArray) (s : ByteArray) {k v n : Int} (h1 : 1 ≤ k) (h2 : 1 ≤ v) (h3 : k + v - 1 ≤ n) : ask8 (allN D k v D.length) D s k v n = askAllL D s n := by
  rw [ask8_ok ⟨allN_shelf D k v _, h1, h2, by omega⟩]
  obtain ⟨K, rfl⟩ : ∃ N : Nat, k = N := ⟨k.toNat, by omega⟩
  obtain ⟨V, rfl⟩ : ∃ N : Nat, v = N := ⟨v.toNat, by omega⟩
  obtain ⟨N, rfl⟩ : ∃ N : Nat, n = N := ⟨n.toNat, by omega⟩
  exact ask_all D s (by omega) (by omega) (by omega)
theorem Try.ulF9 : Try.prog.underlying 75 = some (.slice 79) := by kernel_rfl
theorem Try.infoF9 : (Try.prog.info? 79).map (fun i => (i.zero, i.size, i.bytes)) = some (some (.agg #[.int .i64 0, .int .i64 0, .int .i64 0, .int .i64 0]), 4, 32) := by kernel_rfl

set_option maxRecDepth 4000 in
set_option maxHeartbeats 16000000 in
theorem walkFnAskShelf (a : Option Addr) (len cap : Nat) (zs : List Int) (w : World) (h : IsRowK .u8 w a len cap zs) :
    Calls Try.prog 11 #[.slice a len cap] w fun e w' => e = .returned (.bool true) ∧ Below w.heap.size w w' := by
  by_cases hs : 1048576 < len
  · have h2 : (1048576 : Int) < (len : Int) := by omega
    go_enter Try.func11, Try.ntmps11
    go_wp2
    go_ret
    exact ⟨rfl, Below.refl _ _⟩
  have h2 : ¬ (1048576 : Int) < (len : Int) := by omega
  clear hs
  go_enter Try.func11, Try.ntmps11
  go_wp2_with fail
  refine (DrawAsked_any _ _ _ _ _ h).mono ?_
  rintro e w0 ⟨D, a1, n1, d1, s, k, v, n, hD, hDs, hs, hk0, hk9, hv0, hv9, hn0, hn9, rfl, OO⟩
  clear h h2
  have BB := OO.below
  have X1 := txAt_of OO.own
  clear OO
  have wk : k ≤ 9223372036854775807 := by omega
  have wv : v ≤ 9223372036854775807 := by omega
  have wn : n ≤ 9223372036854775807 := by omega
  have hT : totalS D ≤ 276 := by have h1 := totalS_le8 hDs; omega
  replace hDs : ∀ x ∈ D, x.size ≤ 1000 := fun x hx => Nat.le_trans (hDs x hx) (by decide)
  clear hk0 hk9 hv0 hv9 hn0 hn9
  have c1 := fun w h => implAll_w D k v _ a1 n1 d1 w rfl h (by omega) (by omega) wk wv
  have c3 := fun w h => specAll_w D k v _ a1 n1 d1 w rfl h (by omega) (by omega) wk wv
  obtain ⟨S, hS⟩ : ∃ S, allN D k v D.length = S := ⟨_, rfl⟩
  rw [hS] at c1 c3
  have hSl : S.length ≤ 1048576 := by rw [← hS]; exact allN_room k v (Nat.le_refl _) (by omega)
  have h63 : ∀ x ∈ S, x.2.2 ≤ 9223372036854775807 := by rw [← hS]; exact allN_at k v (by omega)
  have c2 := fun w a n' d h g => implAsk8_w S D s k v n _ a n' d a1 n1 d1 w rfl h g hSl h63 (by omega) (by omega) (by omega) wk wv wn
  clear h63
  have c4 := fun w a n' d h g => specAsk8_w S D s k v n _ a n' d a1 n1 d1 w rfl h g hSl (by omega) (by omega) (by omega) wk wv wn
  obtain ⟨R, hR⟩ : ∃ R, ask8 S D s k v n = R := ⟨_, rfl⟩
  rw [hR] at c2 c4
  have hRl : R.length ≤ 1099511627776 := by rw [← hR]; exact ask8_room k v n hSl (by omega)
  go_wp2_with fail
  refine (c1 _ X1).mono ?_
  rintro e w1 ⟨a2, n2, d2, rfl, E1, hb⟩
  replace X1 := X1.later hb
  replace BB := BB.trans (hb.mono BB.size)
  clear hb
  clear c1
  go_wp2_with fail
  refine (c2 _ _ _ _ E1 X1).mono ?_
  rintro e w2 ⟨a3, n3, d3, rfl, F1, hb⟩
  replace X1 := X1.later hb
  replace BB := BB.trans (hb.mono BB.size)
  clear hb
  clear c2 E1
  go_wp2_with fail
  refine (c3 _ X1).mono ?_
  rintro e w3 ⟨a4, n4, d4, rfl, E1, hb⟩
  replace X1 := X1.later hb
  replace F1 := F1.later hb
  replace BB := BB.trans (hb.mono BB.size)
  clear hb
  clear c3
  go_wp2_with fail
  refine (c4 _ _ _ _ E1 X1).mono ?_
  rintro e w4 ⟨a5, n5, d5, rfl, F2, hb⟩
  replace X1 := X1.later hb
  replace F1 := F1.later hb
  replace BB := BB.trans (hb.mono BB.size)
  clear hb
  clear c4 E1
  go_wp2_with fail
  refine (sameFds_w R _ _ _ _ _ _ _ F1 F2 hRl).mono ?_
  rintro e w5 ⟨rfl, hb⟩
  replace X1 := X1.later hb
  replace F1 := F1.later hb
  replace BB := BB.trans (hb.mono BB.size)
  clear hb
  clear F2
  have HALL := Lib.hid (show 1 ≤ k → 1 ≤ v → k + v - 1 ≤ n → R = askAllL D s n from fun h1 h2 h3 => by rw [← hR, ← hS]; exact ask8_all D s h1 h2 h3)
  obtain ⟨F, hF⟩ : ∃ F : Nat → List En, (fun i => foundL (docAt D i) s k v n) = F := ⟨_, rfl⟩
  have HR := Lib.hid (show R = byDocs F D.length by rw [← hR, ← hS, ← hF]; exact ask8_found D s k v n)
  have HFF := Lib.hid (show ∀ i, F i = foundL (docAt D i) s k v n from fun i => by rw [← hF])
  have HF := Lib.hid F1
  have HX := Lib.hid X1
  have HBB := Lib.hid BB
  have hnD := X1.len
  have HD := Lib.hid hnD
  have hn1 : n1 ≤ 1000 := by omega
  have HRL := Lib.hid hRl
  have hn3 : n3 ≤ 1099511627776 := by have := F1.len; omega
  clear hR hS hF hSl hnD F1 X1 BB hRl
  go_wp2
  go_loopw [9, 10] (fun u i_ wr => ∃ (i m d : Nat) (a' : Option Addr), i ≤ n1 ∧ i_ = .int .i64 i ∧ u = .slice a' m d ∧ Hid (One w5 w5.heap.size wr 79 4 a' m d (fdsC (byDocs F i)))) (fun _ i_ _ => n1 - (intOf i_).toNat)
  case atStart => exact ⟨0, _, _, _, Nat.zero_le _, rfl, rfl, Lib.hid (One.empty w5 79 4)⟩
  case round =>
    obtain ⟨i, m, d, a', hi, rfl, rfl, HO⟩ := hrel
    by_cases hlt : i < n1
    · have z1 : (i : Int) < (n1 : Int) := by omega
      have hiD : i < D.length := by have := HD.out; omega
      have X1 := HX.out.later HO.out.below
      obtain ⟨b1, o1, rfl, _, hc1⟩ := X1.at_.str (fun e => by rw [e] at hiD; simp at hiD)
      have kc := hc1 i hiD
      obtain ⟨x, hx⟩ : ∃ x, D[i] = x := ⟨_, rfl⟩
      rw [hx] at kc
      have hxs : x.size ≤ 1000 := hDs x (hx ▸ List.getElem_mem hiD)
      have hdx : docAt D i = x := by rw [docAt_get8 hiD, hx]
      obtain ⟨L, hL⟩ : ∃ L, foundL x s k v n = L := ⟨_, rfl⟩
      have HL := Lib.hid (show F i = L by rw [HFF.out, ← hL, hdx])
      have HMO := Lib.hid (show (byDocs F i).length + L.length ≤ 1099511627776 by have h1 := byDocs_grow F hiD; rw [HL.out, ← HR.out] at h1; have := HRL.out; omega)
      have c5 := fun w => implFound_o x s k v n L w hL wk wv wn (by omega) (by omega)
      clear hc1 hx hL hdx X1
      go_wp2_with fail
      refine (c5 _).mono ?_
      rintro e w6 ⟨a6, n6, d6, rfl, o6⟩
      have HNL := Lib.hid (ents_len o6.own)
      have HB2 := Lib.hid (beside_one o6 HO.out)
      have HO2 := Lib.hid (HO.out.later o6.below)
      have hn6 : n6 ≤ 1099511627776 := by have := HNL.out; have := HMO.out; omega
      clear o6 kc c5
      go_wp2
      go_loopw [9, 12] (fun u k_ wr => ∃ (q m d : Nat) (a' : Option Addr), q ≤ n6 ∧ k_ = .int .i64 (q : Int) ∧ u = .slice a' m d ∧ Hid (One w5 w5.heap.size wr 79 4 a' m d (fdsC (byDocs F i ++ (L.take q).map fun p => ((i : Int), p)))) ∧ Hid (Beside wr a6 (entsC L) (.slice a' m d))) (fun _ k_ _ => n6 - (intOf k_).toNat)
      case atStart => exact ⟨0, m, d, a', Nat.zero_le _, rfl, rfl, Lib.hid (by rw [List.take_zero, List.map_nil, List.append_nil]; exact HO2.out), HB2⟩
      case round =>
        clear HO2 HB2 HO
        obtain ⟨q, m, d, a', hk, rfl, rfl, HO, HB⟩ := hrel
        by_cases hlk : q < n6
        · have hkl : q < L.length := by have := HNL.out; omega
          obtain ⟨x2, hx⟩ : ∃ x, L[q].1 = x := ⟨_, rfl⟩
          obtain ⟨y2, hy⟩ : ∃ x, L[q].2.1 = x := ⟨_, rfl⟩
          obtain ⟨z2, hz⟩ : ∃ x, L[q].2.2 = x := ⟨_, rfl⟩
          have hm : L[q] = (x2, y2, z2) := by rw [← hx, ← hy, ← hz]
          obtain ⟨b2, o2, rfl, hb92, q1, q2, q3⟩ := ent_cells HB.out.at_ hkl hm
          have u1 : (q : Int) < (n6 : Int) := by omega
          have u0 : (0 : Int) ≤ (q : Int) := by omega
          have HNX := Lib.hid (show fdsC (byDocs F i ++ (L.take (q + 1)).map fun p => ((i : Int), p)) = fdsC (byDocs F i ++ (L.take q).map fun p => ((i : Int), p)) ++ [.int .i64 (i : Int), .int .i64 x2, .int .i64 y2, .int .i64 z2] by
            rw [List.take_succ_eq_append_getElem hkl, List.map_append, hm, ← List.append_assoc]
            exact fdsC_snoc _ ((i : Int), x2, y2, z2))
          have hm9 : m ≤ 1099511627776 := by
            have h1 := fds_len HO.out.own
            have h2 := HMO.out
            rw [List.length_append, List.length_map, List.length_take] at h1
            omega
          clear hx hy hz hm
          go_wp2_with (at_builtin; refine wpList_append_apart rfl (.tmp 69) (.tmp 76) 75 rfl Try.ulF9 Try.infoF9 rfl (by decide) HO.out rfl #[.int .i64 (i : Int), .int .i64 x2, .int .i64 y2, .int .i64 z2] rfl rfl (by simp [Value.oneCell']) (by unfold maxLen; omega) (by omega) ?_; intro a7 c7 w7 o7 g7 s7)
          have HB7 := Lib.hid (HB.out.grow g7 s7)
          clear g7 s7
          go_roundw
          case rel => exact ⟨q + 1, m + 1, c7, a7, by omega, by go_num, rfl, Lib.hid (by rw [HNX.out]; exact o7), HB7⟩
          case measure => simp [intOf]; omega
        · have u1 : ¬ (q : Int) < (n6 : Int) := by omega
          have HO3 := Lib.hid (show One w5 w5.heap.size wr 79 4 a' m d (fdsC (byDocs F (i + 1))) by
            have h := HO.out
            rw [List.take_of_length_le (by have := HNL.out; omega)] at h
            rw [byDocs_next, HL.out]
            exact h)
          clear HO HB
          go_wp2
          go_roundw
          case rel => exact ⟨i + 1, m, d, a', by omega, by go_num, rfl, HO3⟩
          case measure => simp [intOf]; omega
    · have z1 : ¬ (i : Int) < (n1 : Int) := by omega
      obtain ⟨w6, hw6⟩ : ∃ w6, w6 = wr := ⟨_, rfl⟩
      subst hw6
      have hRO : fdsC (byDocs F i) = fdsC R := by rw [HR.out, show i = D.length by have := HD.out; omega]
      have HO1 := hRO ▸ HO.out
      have F3 := fdAt_of HO1.own
      have BB := HBB.out.trans (HO1.below.mono HBB.out.size)
      have X1 := HX.out.later HO1.below
      have F1 := HF.out.later HO1.below
      have hRl := HRL.out
      clear hRO HO1 HO HX HF HBB HRL
      go_wp2_with fail
      refine (sameFds_w R _ _ _ _ _ _ _ F1 F3 hRl).mono ?_
      rintro e w7 ⟨rfl, hb⟩
      replace X1 := X1.later hb
      replace F1 := F1.later hb
      replace BB := BB.trans (hb.mono BB.size)
      clear hb
      clear F3
      obtain ⟨r, hr⟩ : ∃ r, sureI k v = r := ⟨_, rfl⟩
      have cs := fun w => implSure_w k v r w hr
      have hr2 : ¬ r = 0 → ¬ n < r → R = askAllL D s n := fun h1 h2 => by
        unfold sureI at hr
        split at hr
        · exact HALL.out (by omega) (by omega) (by omega)
        · omega
      clear hr
      by_cases hr0 : r = 0
      · have f1 : (r == 0) = true := by simpa using hr0
        clear hr2 hr0
        go_wp2_with fail
        refine (cs _).mono ?_
        rintro e wq ⟨rfl, rfl⟩
        go_wp2_with fail
        refine (alive_any _).mono ?_
        rintro e wq ⟨rfl, rfl⟩
        go_wp2
        go_ret
        exact ⟨rfl, BB⟩
      · have f1 : (r == 0) = false := beq_eq_false_iff_ne.2 hr0
        by_cases hr1 : n < r
        · clear hr2 hr0
          go_wp2_with fail
          refine (cs _).mono ?_
          rintro e wq ⟨rfl, rfl⟩
          go_wp2_with fail
          refine (cs _).mono ?_
          rintro e wq ⟨rfl, rfl⟩
          go_wp2_with fail
          refine (alive_any _).mono ?_
          rintro e wq ⟨rfl, rfl⟩
          go_wp2
          go_ret
          exact ⟨rfl, BB⟩
        · have hRA := hr2 hr0 hr1
          have c8 := fun w h => implAskAll_w D s n R a1 n1 d1 w hRA.symm h (by omega) (by omega) (by omega) wn
          clear hr2 hr0 hRA
          go_wp2_with fail
          refine (cs _).mono ?_
          rintro e wq ⟨rfl, rfl⟩
          go_wp2_with fail
          refine (cs _).mono ?_
          rintro e wq ⟨rfl, rfl⟩
          go_wp2_with fail
          refine (c8 _ X1).mono ?_
          rintro e w8 ⟨a8, n8, d8, rfl, F4, hb⟩
          replace F1 := F1.later hb
          replace BB := BB.trans (hb.mono BB.size)
          clear hb
          clear c8
          go_wp2_with fail
          refine (sameFds_w R _ _ _ _ _ _ _ F1 F4 hRl).mono ?_
          rintro e w9 ⟨rfl, hb⟩
          replace BB := BB.trans (hb.mono BB.size)
          clear hb
          go_wp2_with fail
          refine (alive_any _).mono ?_
          rintro e wq ⟨rfl, rfl⟩
          go_wp2
          go_ret
          exact ⟨rfl, BB⟩

set_option maxRecDepth 4000 in
set_option maxHeartbeats 16000000 in
theorem walkFnAnyAskShelf (a1 : Option Addr) (n1 d1 : Nat) (D : List ByteArray) (s : ByteArray) (k v n : Int) (w : World) (wi0 : n1 = D.length ∧ n1 ≤ d1 ∧ d1 ≤ maxLen ∧ (∀ x ∈ D, x.size ≤ maxLen) ∧ CellsAt w a1 (strsC D)) (_wi1 : s.size ≤ maxLen) (wk : (Lit.int .i64 k).wf = true) (wv : (Lit.int .i64 v).wf = true) (wn : (Lit.int .i64 n).wf = true) :
    Calls Try.prog 15 #[.slice a1 n1 d1, .string s, .int .i64 k, .int .i64 v, .int .i64 n] w fun e w' => e = .returned (.bool true) ∧ Below w.heap.size w w' := by
  replace wk := (wf_bounds8 wk).2
  replace wv := (wf_bounds8 wv).2
  replace wn := (wf_bounds8 wn).2
  obtain ⟨hn, hc, hx, _, hat⟩ := wi0
  have X1 : TxAt w a1 n1 d1 D := ⟨hn, hc, hx, hat⟩
  have cB := fun w h => bigTexts_w D 1000 a1 n1 d1 w hn (Nat.le_trans hc hx) (by omega) h
  clear hn hc hx hat
  go_enter Try.func15, Try.ntmps15
  go_wp2_with fail
  refine (cB _ X1.at_).mono ?_
  rintro e w0 ⟨hr, BB⟩
  replace X1 := X1.later BB
  clear cB
  rcases hr with rfl | ⟨rfl, hD, hDs⟩
  · go_wp2_with fail
    refine (alive_any _).mono ?_
    rintro e wq ⟨rfl, rfl⟩
    go_wp2
    go_ret
    exact ⟨rfl, BB⟩
  by_cases hs : 1000 < s.size
  · have cb := fun w => bigText_is true s 1000 w (decide_eq_true (by omega))
    clear hDs hD
    go_wp2_with fail
    refine (cb _).mono ?_
    rintro e wq ⟨rfl, rfl⟩
    go_wp2_with fail
    refine (alive_any _).mono ?_
    rintro e wq ⟨rfl, rfl⟩
    go_wp2
    go_ret
    exact ⟨rfl, BB⟩
  have cb := fun w => bigText_is false s 1000 w (decide_eq_false (by omega))
  have hs9 : s.size ≤ 1000 := by omega
  have hT : totalS D ≤ 1000000 := by
    have h1 := totalS_le8 hDs
    have h2 : D.length * 1000 ≤ 1000 * 1000 := Nat.mul_le_mul hD (Nat.le_refl _)
    omega
  clear hs
  go_wp2_with fail
  refine (cb _).mono ?_
  rintro e wq ⟨rfl, rfl⟩
  clear cb
  have c1 := fun w h => implAll_w D k v _ a1 n1 d1 w rfl h (by omega) (by omega) wk wv
  have c3 := fun w h => specAll_w D k v _ a1 n1 d1 w rfl h (by omega) (by omega) wk wv
  obtain ⟨S, hS⟩ : ∃ S, allN D k v D.length = S := ⟨_, rfl⟩
  rw [hS] at c1 c3
  have hSl : S.length ≤ 1048576 := by rw [← hS]; exact allN_room k v (Nat.le_refl _) (by omega)
  have h63 : ∀ x ∈ S, x.2.2 ≤ 9223372036854775807 := by rw [← hS]; exact allN_at k v (by omega)
  have c2 := fun w a n' d h g => implAsk8_w S D s k v n _ a n' d a1 n1 d1 w rfl h g hSl h63 (by omega) (by omega) (by omega) wk wv wn
  clear h63
  have c4 := fun w a n' d h g => specAsk8_w S D s k v n _ a n' d a1 n1 d1 w rfl h g hSl (by omega) (by omega) (by omega) wk wv wn
  obtain ⟨R, hR⟩ : ∃ R, ask8 S D s k v n = R := ⟨_, rfl⟩
  rw [hR] at c2 c4
  have hRl : R.length ≤ 1099511627776 := by rw [← hR]; exact ask8_room k v n hSl (by omega)
  go_wp2_with fail
  refine (c1 _ X1).mono ?_
  rintro e w1 ⟨a2, n2, d2, rfl, E1, hb⟩
  replace X1 := X1.later hb
  replace BB := BB.trans (hb.mono BB.size)
  clear hb
  clear c1
  go_wp2_with fail
  refine (c2 _ _ _ _ E1 X1).mono ?_
  rintro e w2 ⟨a3, n3, d3, rfl, F1, hb⟩
  replace X1 := X1.later hb
  replace BB := BB.trans (hb.mono BB.size)
  clear hb
  clear c2 E1
  go_wp2_with fail
  refine (c3 _ X1).mono ?_
  rintro e w3 ⟨a4, n4, d4, rfl, E1, hb⟩
  replace X1 := X1.later hb
  replace F1 := F1.later hb
  replace BB := BB.trans (hb.mono BB.size)
  clear hb
  clear c3
  go_wp2_with fail
  refine (c4 _ _ _ _ E1 X1).mono ?_
  rintro e w4 ⟨a5, n5, d5, rfl, F2, hb⟩
  replace X1 := X1.later hb
  replace F1 := F1.later hb
  replace BB := BB.trans (hb.mono BB.size)
  clear hb
  clear c4 E1
  go_wp2_with fail
  refine (sameFds_w R _ _ _ _ _ _ _ F1 F2 hRl).mono ?_
  rintro e w5 ⟨rfl, hb⟩
  replace X1 := X1.later hb
  replace F1 := F1.later hb
  replace BB := BB.trans (hb.mono BB.size)
  clear hb
  clear F2
  have HALL := Lib.hid (show 1 ≤ k → 1 ≤ v → k + v - 1 ≤ n → R = askAllL D s n from fun h1 h2 h3 => by rw [← hR, ← hS]; exact ask8_all D s h1 h2 h3)
  obtain ⟨F, hF⟩ : ∃ F : Nat → List En, (fun i => foundL (docAt D i) s k v n) = F := ⟨_, rfl⟩
  have HR := Lib.hid (show R = byDocs F D.length by rw [← hR, ← hS, ← hF]; exact ask8_found D s k v n)
  have HFF := Lib.hid (show ∀ i, F i = foundL (docAt D i) s k v n from fun i => by rw [← hF])
  have HF := Lib.hid F1
  have HX := Lib.hid X1
  have HBB := Lib.hid BB
  have hnD := X1.len
  have HD := Lib.hid hnD
  have hn1 : n1 ≤ 1000 := by omega
  have HRL := Lib.hid hRl
  have hn3 : n3 ≤ 1099511627776 := by have := F1.len; omega
  clear hR hS hF hSl hnD F1 X1 BB hRl
  go_wp2
  go_loopw [12, 13] (fun u i_ wr => ∃ (i m d : Nat) (a' : Option Addr), i ≤ n1 ∧ i_ = .int .i64 i ∧ u = .slice a' m d ∧ Hid (One w5 w5.heap.size wr 79 4 a' m d (fdsC (byDocs F i)))) (fun _ i_ _ => n1 - (intOf i_).toNat)
  case atStart => exact ⟨0, _, _, _, Nat.zero_le _, rfl, rfl, Lib.hid (One.empty w5 79 4)⟩
  case round =>
    obtain ⟨i, m, d, a', hi, rfl, rfl, HO⟩ := hrel
    by_cases hlt : i < n1
    · have z1 : (i : Int) < (n1 : Int) := by omega
      have hiD : i < D.length := by have := HD.out; omega
      have X1 := HX.out.later HO.out.below
      obtain ⟨b1, o1, rfl, _, hc1⟩ := X1.at_.str (fun e => by rw [e] at hiD; simp at hiD)
      have kc := hc1 i hiD
      obtain ⟨x, hx⟩ : ∃ x, D[i] = x := ⟨_, rfl⟩
      rw [hx] at kc
      have hxs : x.size ≤ 1000 := hDs x (hx ▸ List.getElem_mem hiD)
      have hdx : docAt D i = x := by rw [docAt_get8 hiD, hx]
      obtain ⟨L, hL⟩ : ∃ L, foundL x s k v n = L := ⟨_, rfl⟩
      have HL := Lib.hid (show F i = L by rw [HFF.out, ← hL, hdx])
      have HMO := Lib.hid (show (byDocs F i).length + L.length ≤ 1099511627776 by have h1 := byDocs_grow F hiD; rw [HL.out, ← HR.out] at h1; have := HRL.out; omega)
      have c5 := fun w => implFound_o x s k v n L w hL wk wv wn (by omega) (by omega)
      clear hc1 hx hL hdx X1
      go_wp2_with fail
      refine (c5 _).mono ?_
      rintro e w6 ⟨a6, n6, d6, rfl, o6⟩
      have HNL := Lib.hid (ents_len o6.own)
      have HB2 := Lib.hid (beside_one o6 HO.out)
      have HO2 := Lib.hid (HO.out.later o6.below)
      have hn6 : n6 ≤ 1099511627776 := by have := HNL.out; have := HMO.out; omega
      clear o6 kc c5
      go_wp2
      go_loopw [12, 15] (fun u k_ wr => ∃ (q m d : Nat) (a' : Option Addr), q ≤ n6 ∧ k_ = .int .i64 (q : Int) ∧ u = .slice a' m d ∧ Hid (One w5 w5.heap.size wr 79 4 a' m d (fdsC (byDocs F i ++ (L.take q).map fun p => ((i : Int), p)))) ∧ Hid (Beside wr a6 (entsC L) (.slice a' m d))) (fun _ k_ _ => n6 - (intOf k_).toNat)
      case atStart => exact ⟨0, m, d, a', Nat.zero_le _, rfl, rfl, Lib.hid (by rw [List.take_zero, List.map_nil, List.append_nil]; exact HO2.out), HB2⟩
      case round =>
        clear HO2 HB2 HO
        obtain ⟨q, m, d, a', hk, rfl, rfl, HO, HB⟩ := hrel
        by_cases hlk : q < n6
        · have hkl : q < L.length := by have := HNL.out; omega
          obtain ⟨x2, hx⟩ : ∃ x, L[q].1 = x := ⟨_, rfl⟩
          obtain ⟨y2, hy⟩ : ∃ x, L[q].2.1 = x := ⟨_, rfl⟩
          obtain ⟨z2, hz⟩ : ∃ x, L[q].2.2 = x := ⟨_, rfl⟩
          have hm : L[q] = (x2, y2, z2) := by rw [← hx, ← hy, ← hz]
          obtain ⟨b2, o2, rfl, hb92, q1, q2, q3⟩ := ent_cells HB.out.at_ hkl hm
          have u1 : (q : Int) < (n6 : Int) := by omega
          have u0 : (0 : Int) ≤ (q : Int) := by omega
          have HNX := Lib.hid (show fdsC (byDocs F i ++ (L.take (q + 1)).map fun p => ((i : Int), p)) = fdsC (byDocs F i ++ (L.take q).map fun p => ((i : Int), p)) ++ [.int .i64 (i : Int), .int .i64 x2, .int .i64 y2, .int .i64 z2] by
            rw [List.take_succ_eq_append_getElem hkl, List.map_append, hm, ← List.append_assoc]
            exact fdsC_snoc _ ((i : Int), x2, y2, z2))
          have hm9 : m ≤ 1099511627776 := by
            have h1 := fds_len HO.out.own
            have h2 := HMO.out
            rw [List.length_append, List.length_map, List.length_take] at h1
            omega
          clear hx hy hz hm
          go_wp2_with (at_builtin; refine wpList_append_apart rfl (.tmp 68) (.tmp 75) 75 rfl Try.ulF9 Try.infoF9 rfl (by decide) HO.out rfl #[.int .i64 (i : Int), .int .i64 x2, .int .i64 y2, .int .i64 z2] rfl rfl (by simp [Value.oneCell']) (by unfold maxLen; omega) (by omega) ?_; intro a7 c7 w7 o7 g7 s7)
          have HB7 := Lib.hid (HB.out.grow g7 s7)
          clear g7 s7
          go_roundw
          case rel => exact ⟨q + 1, m + 1, c7, a7, by omega, by go_num, rfl, Lib.hid (by rw [HNX.out]; exact o7), HB7⟩
          case measure => simp [intOf]; omega
        · have u1 : ¬ (q : Int) < (n6 : Int) := by omega
          have HO3 := Lib.hid (show One w5 w5.heap.size wr 79 4 a' m d (fdsC (byDocs F (i + 1))) by
            have h := HO.out
            rw [List.take_of_length_le (by have := HNL.out; omega)] at h
            rw [byDocs_next, HL.out]
            exact h)
          clear HO HB
          go_wp2
          go_roundw
          case rel => exact ⟨i + 1, m, d, a', by omega, by go_num, rfl, HO3⟩
          case measure => simp [intOf]; omega
    · have z1 : ¬ (i : Int) < (n1 : Int) := by omega
      obtain ⟨w6, hw6⟩ : ∃ w6, w6 = wr := ⟨_, rfl⟩
      subst hw6
      have hRO : fdsC (byDocs F i) = fdsC R := by rw [HR.out, show i = D.length by have := HD.out; omega]
      have HO1 := hRO ▸ HO.out
      have F3 := fdAt_of HO1.own
      have BB := HBB.out.trans (HO1.below.mono HBB.out.size)
      have X1 := HX.out.later HO1.below
      have F1 := HF.out.later HO1.below
      have hRl := HRL.out
      clear hRO HO1 HO HX HF HBB HRL
      go_wp2_with fail
      refine (sameFds_w R _ _ _ _ _ _ _ F1 F3 hRl).mono ?_
      rintro e w7 ⟨rfl, hb⟩
      replace X1 := X1.later hb
      replace F1 := F1.later hb
      replace BB := BB.trans (hb.mono BB.size)
      clear hb
      clear F3
      obtain ⟨r, hr⟩ : ∃ r, sureI k v = r := ⟨_, rfl⟩
      have cs := fun w => implSure_w k v r w hr
      have hr2 : ¬ r = 0 → ¬ n < r → R = askAllL D s n := fun h1 h2 => by
        unfold sureI at hr
        split at hr
        · exact HALL.out (by omega) (by omega) (by omega)
        · omega
      clear hr
      by_cases hr0 : r = 0
      · have f1 : (r == 0) = true := by simpa using hr0
        clear hr2 hr0
        go_wp2_with fail
        refine (cs _).mono ?_
        rintro e wq ⟨rfl, rfl⟩
        go_wp2_with fail
        refine (alive_any _).mono ?_
        rintro e wq ⟨rfl, rfl⟩
        go_wp2
        go_ret
        exact ⟨rfl, BB⟩
      · have f1 : (r == 0) = false := beq_eq_false_iff_ne.2 hr0
        by_cases hr1 : n < r
        · clear hr2 hr0
          go_wp2_with fail
          refine (cs _).mono ?_
          rintro e wq ⟨rfl, rfl⟩
          go_wp2_with fail
          refine (cs _).mono ?_
          rintro e wq ⟨rfl, rfl⟩
          go_wp2_with fail
          refine (alive_any _).mono ?_
          rintro e wq ⟨rfl, rfl⟩
          go_wp2
          go_ret
          exact ⟨rfl, BB⟩
        · have hRA := hr2 hr0 hr1
          have c8 := fun w h => implAskAll_w D s n R a1 n1 d1 w hRA.symm h (by omega) (by omega) (by omega) wn
          clear hr2 hr0 hRA
          go_wp2_with fail
          refine (cs _).mono ?_
          rintro e wq ⟨rfl, rfl⟩
          go_wp2_with fail
          refine (cs _).mono ?_
          rintro e wq ⟨rfl, rfl⟩
          go_wp2_with fail
          refine (c8 _ X1).mono ?_
          rintro e w8 ⟨a8, n8, d8, rfl, F4, hb⟩
          replace F1 := F1.later hb
          replace BB := BB.trans (hb.mono BB.size)
          clear hb
          clear c8
          go_wp2_with fail
          refine (sameFds_w R _ _ _ _ _ _ _ F1 F4 hRl).mono ?_
          rintro e w9 ⟨rfl, hb⟩
          replace BB := BB.trans (hb.mono BB.size)
          clear hb
          go_wp2_with fail
          refine (alive_any _).mono ?_
          rintro e wq ⟨rfl, rfl⟩
          go_wp2
          go_ret
          exact ⟨rfl, BB⟩

end Go.Proofs.Ytclblnkeakkdeaa
