/-
  The contracts of the model's functions ShelfLose and ShelfFind. Condition: rows have at most 2^22 entries.
-/
import Derived.Test.YtclblnkeakkdeaaMg24
namespace Go.Proofs.Ytclblnkeakkdeaa
open Go.RowKit

open Classical in
/-- A shelf without the entries of a text, and its entries with a fingerprint. -/
noncomputable def loseL (l : List En) (d : Int) : List En := if shOk l then l.filter (fun x => !(x.2.1 == d)) else []
open Classical in
noncomputable def findL5 (l : List En) (p : Int) : List En := if shOk l then l.filter (fun x => x.1 == p) else []

theorem loseL_not {l : List En} (h : ¬ shOk l) (d : Int) : loseL l d = [] := by rw [loseL, if_neg h]
theorem loseL_ok {l : List En} (h : shOk l) (d : Int) : loseL l d = l.filter (fun x => !(x.2.1 == d)) := by rw [loseL, if_pos h]
theorem findL5_not {l : List En} (h : ¬ shOk l) (p : Int) : findL5 l p = [] := by rw [findL5, if_neg h]
theorem findL5_ok {l : List En} (h : shOk l) (p : Int) : findL5 l p = l.filter (fun x => x.1 == p) := by rw [findL5, if_pos h]

theorem filter_yes {P : En → Bool} {l : List En} {k : Nat} (hk : k < l.length) (h : P l[k] = true) : (l.take (k + 1)).filter P = (l.take k).filter P ++ [l[k]] := by
  rw [List.take_succ_eq_append_getElem hk, List.filter_append]; simp [h]
theorem filter_no {P : En → Bool} {l : List En} {k : Nat} (hk : k < l.length) (h : P l[k] = false) : (l.take (k + 1)).filter P = (l.take k).filter P := by
  rw [List.take_succ_eq_append_getElem hk, List.filter_append]; simp [h]
theorem filter_run {P : En → Bool} {l : List En} {s e : Nat} (hse : s ≤ e) (he : e ≤ l.length) (h1 : ∀ i (h : i < l.length), i < s → P l[i] = false) (h2 : ∀ i (h : i < l.length), s ≤ i → i < e → P l[i] = true) (h3 : ∀ i (h : i < l.length), e ≤ i → P l[i] = false) :
    l.filter P = (l.drop s).take (e - s) := by
  have e1 : l = l.take s ++ ((l.drop s).take (e - s) ++ l.drop e) := by
    have h4 : (l.drop s).drop (e - s) = l.drop e := by rw [List.drop_drop]; congr 1; omega
    rw [← h4, List.take_append_drop, List.take_append_drop]
  have f1 : (l.take s).filter P = [] := by
    rw [List.filter_eq_nil_iff]
    intro x hx
    obtain ⟨i, hi, rfl⟩ := List.getElem_of_mem hx
    rw [List.length_take] at hi
    rw [List.getElem_take, h1 i (by omega) (by omega)]
    decide
  have f2 : ((l.drop s).take (e - s)).filter P = (l.drop s).take (e - s) := by
    rw [List.filter_eq_self]
    intro x hx
    obtain ⟨i, hi, rfl⟩ := List.getElem_of_mem hx
    rw [List.length_take, List.length_drop] at hi
    rw [List.getElem_take, List.getElem_drop]
    exact h2 (s + i) (by omega) (by omega) (by omega)
  have f3 : (l.drop e).filter P = [] := by
    rw [List.filter_eq_nil_iff]
    intro x hx
    obtain ⟨i, hi, rfl⟩ := List.getElem_of_mem hx
    rw [List.length_drop] at hi
    rw [List.getElem_drop, h3 (e + i) (by omega) (by omega)]
    decide
  have : (l.take s ++ ((l.drop s).take (e - s) ++ l.drop e)).filter P = (l.drop s).take (e - s) := by
    rw [List.filter_append, List.filter_append, f1, f2, f3]; simp
  rw [← e1] at this
  exact this
theorem shOk_prints {l : List En} (h : shOk l) (i j : Nat) (hij : i ≤ j) (hj : j < l.length) : (l[i]'(by omega)).1 ≤ l[j].1 := by
  by_cases e : i = j
  · subst e; exact Int.le_refl _
  · have h1 := List.pairwise_iff_getElem.1 h.2 i j (by omega) hj (by omega)
    unfold enLt at h1
    omega

set_option maxHeartbeats 4000000 in
theorem specLose_any (l : List En) (d : Int) (a : Option Addr) (n c : Nat) (w : World) (hn : n = l.length) (hl : n ≤ 4194304) (hat : CellsAt w a (entsC l)) :
    Calls Try.prog 19 #[.slice a n c, .int .i64 d] w fun e w' => ∃ a' n' c', e = .returned (.slice a' n' c') ∧ One w w.heap.size w' 31 3 a' n' c' (entsC (loseL l d)) := by
  by_cases hok : shOk l
  · have c1 := fun w h => specShelfOk_is true l a n c w ⟨fun _ => hok, fun _ => rfl⟩ hn hl h
    have HR := Lib.hid (loseL_ok hok d)
    have HN := Lib.hid hn
    have HAT := Lib.hid hat
    clear hn hok hat
    go_enter Try.func19, Try.ntmps19
    go_wp2_with fail
    refine (c1 _ (HAT.out.allocW _)).mono ?_
    rintro e w2 ⟨rfl, hb2⟩
    have hone0 : One w w.heap.size w2 31 3 (some ⟨w.heap.size, 0, none⟩) 0 0 (entsC ((l.take 0).filter (fun x => !(x.2.1 == d)))) := (One.empty w 31 3).later hb2
    clear hb2 c1
    go_wp2
    go_loopw [5, 6] (fun o_ k_ wr => ∃ k : Nat, k ≤ n ∧ k_ = .int .i64 k ∧ ∃ a' n' c', o_ = .slice a' n' c' ∧ n' ≤ k ∧ One w w.heap.size wr 31 3 a' n' c' (entsC ((l.take k).filter (fun x => !(x.2.1 == d))))) (fun _ k_ _ => n - (intOf k_).toNat)
    case atStart => exact ⟨0, Nat.zero_le _, rfl, _, _, _, rfl, Nat.le_refl _, hone0⟩
    case round =>
      clear hone0
      obtain ⟨k, hk, rfl, a', n', c', rfl, hn', hone⟩ := hrel
      by_cases hlt : k < n
      · have hkl : k < l.length := by have := HN.out; omega
        obtain ⟨x, hx⟩ : ∃ x, l[k].1 = x := ⟨_, rfl⟩
        obtain ⟨y, hy⟩ : ∃ y, l[k].2.1 = y := ⟨_, rfl⟩
        obtain ⟨z, hz⟩ : ∃ z, l[k].2.2 = z := ⟨_, rfl⟩
        have hm : l[k] = (x, y, z) := by rw [← hx, ← hy, ← hz]
        obtain ⟨b, o, rfl, hb9, g1, g2, g3⟩ := ent_cells (HAT.out.below hone.below) hkl hm
        have hyes := filter_yes (P := fun x => !(x.2.1 == d)) hkl
        have hno := filter_no (P := fun x => !(x.2.1 == d)) hkl
        rw [hm] at hyes hno
        have z1 : (k : Int) < (n : Int) := by omega
        clear hx hy hz hm
        by_cases hd : y = d
        · have t1 : (y == d) = true := by rw [hd]; exact beq_self_eq_true _
          have t2 : (y != d) = false := by rw [bne, t1]; rfl
          have HS := Lib.hid (hno (by show (!(y == d)) = false; rw [t1]; rfl))
          clear hyes hno hd
          go_wp2
          go_roundw
          case rel => exact ⟨k + 1, by omega, by go_num, a', n', c', rfl, by omega, by rw [HS.out]; exact hone⟩
          case measure => simp [intOf]; omega
        · have t1 : (y == d) = false := by simpa using hd
          have t2 : (y != d) = true := by rw [bne, t1]; rfl
          have HS := Lib.hid (show entsC ((l.take (k + 1)).filter (fun x => !(x.2.1 == d))) = entsC ((l.take k).filter (fun x => !(x.2.1 == d))) ++ [.int .i64 x, .int .i64 y, .int .i64 z] by rw [hyes (by show (!(y == d)) = true; rw [t1]; rfl), entsC_snoc])
          clear hyes hno hd
          go_wp2_with (at_builtin; refine wpList_append_row rfl (.tmp 25) (.tmp 30) 23 rfl Try.ulE5 Try.infoE5 rfl (by decide) hone rfl #[.int .i64 x, .int .i64 y, .int .i64 z] rfl rfl (by simp [Value.oneCell']) (by unfold maxLen; omega) (by omega) ?_; intro a5 c5 w5 h5)
          go_roundw
          case rel => exact ⟨k + 1, by omega, by go_num, a5, n' + 1, c5, rfl, by omega, by rw [HS.out]; exact h5⟩
          case measure => simp [intOf]; omega
      · have HO := Lib.hid (show One w w.heap.size wr 31 3 a' n' c' (entsC (loseL l d)) by
          rw [HR.out]
          have h := hone
          rwa [List.take_of_length_le (by have := HN.out; omega)] at h)
        clear hone
        go_wp2
        go_ret
        exact ⟨_, _, _, rfl, HO.out⟩
  · have c1 := fun w h => specShelfOk_is false l a n c w ⟨(fun h => absurd h (by decide)), (fun h => absurd h hok)⟩ hn hl h
    rw [loseL_not hok]
    have HAT := Lib.hid hat
    clear hn hok hat
    go_enter Try.func19, Try.ntmps19
    go_wp2_with fail
    refine (c1 _ (HAT.out.allocW _)).mono ?_
    rintro e w2 ⟨rfl, hb2⟩
    have hone0 : One w w.heap.size w2 31 3 (some ⟨w.heap.size, 0, none⟩) 0 0 (entsC []) := (One.empty w 31 3).later hb2
    clear hb2 c1
    go_wp2
    go_ret
    exact ⟨_, _, _, rfl, hone0⟩

set_option maxHeartbeats 4000000 in
theorem specFind5_any (l : List En) (p : Int) (a : Option Addr) (n c : Nat) (w : World) (hn : n = l.length) (hl : n ≤ 4194304) (hnc : n ≤ c) (_hc9 : c ≤ maxLen) (hat : CellsAt w a (entsC l)) :
    Calls Try.prog 26 #[.slice a n c, .int .i64 p] w fun e w' => ∃ a' n' c', e = .returned (.slice a' n' c') ∧ One w w.heap.size w' 31 3 a' n' c' (entsC (findL5 l p)) := by
  by_cases hok : shOk l
  · have c1 := fun w h => specShelfOk_is true l a n c w ⟨fun _ => hok, fun _ => rfl⟩ hn hl h
    have HR := Lib.hid (findL5_ok hok p)
    have HS := Lib.hid (shOk_prints hok)
    have HN := Lib.hid hn
    have HAT := Lib.hid hat
    clear hn hok hat
    go_enter Try.func26, Try.ntmps26
    go_wp2_with fail
    refine (c1 _ HAT.out).mono ?_
    rintro e w2 ⟨rfl, hb2⟩
    have HAT2 := Lib.hid (HAT.out.below hb2)
    clear c1 HAT
    go_wp2
    go_loopw [5, 6] (fun lo_ hi_ wr => ∃ lo hi : Nat, lo ≤ hi ∧ hi ≤ n ∧ lo_ = .int .i64 lo ∧ hi_ = .int .i64 hi ∧ Hid (∀ i (h : i < l.length), i < lo → l[i].1 < p) ∧ Hid (∀ i (h : i < l.length), hi ≤ i → p ≤ l[i].1) ∧ Hid (wr = w2)) (fun lo_ hi_ _ => (intOf hi_).toNat - (intOf lo_).toNat)
    case atStart => exact ⟨0, n, Nat.zero_le _, Nat.le_refl _, rfl, rfl, Lib.hid (fun i h h2 => absurd h2 (Nat.not_lt_zero _)), Lib.hid (fun i h h2 => by have := HN.out; omega), Lib.hid rfl⟩
    case round =>
      obtain ⟨lo, hi, hlh, hhn, rfl, rfl, HLo, HHi, HW⟩ := hrel
      by_cases hlt : lo < hi
      · obtain ⟨m, hm⟩ : ∃ m, (lo + hi) / 2 = m := ⟨_, rfl⟩
        have em : ((lo : Int) + (hi : Int)).tdiv 2 = (m : Int) := by
          have h := Int.ofNat_tdiv (lo + hi) 2
          rw [hm] at h
          rw [h]; simp
        have em2 : ((lo + hi : Nat) : Int).tdiv 2 = (m : Int) := by rw [← em]; simp
        have hm1 : lo ≤ m := by omega
        have hm2 : m < hi := by omega
        have hml : m < l.length := by have := HN.out; omega
        obtain ⟨x, hx⟩ : ∃ x, l[m].1 = x := ⟨_, rfl⟩
        obtain ⟨y, hy⟩ : ∃ y, l[m].2.1 = y := ⟨_, rfl⟩
        obtain ⟨z, hz⟩ : ∃ z, l[m].2.2 = z := ⟨_, rfl⟩
        have hmm : l[m] = (x, y, z) := by rw [← hx, ← hy, ← hz]
        obtain ⟨b, o, rfl, hb9, g1, g2, g3⟩ := ent_cells HAT2.out hml hmm
        obtain rfl := HW.out
        have z0 : (0 : Int) ≤ (m : Int) := by omega
        have z1 : (m : Int) < (n : Int) := by omega
        have HX := Lib.hid hx
        clear hm hx hy hz hmm
        by_cases hxp : x < p
        · have HL2 := Lib.hid (show ∀ i (h : i < l.length), i < m + 1 → l[i].1 < p from fun i h h2 => by
            have h3 := HS.out i m (by omega) hml
            have := HX.out
            omega)
          clear HLo
          go_wp2
          go_roundw
          case rel => exact ⟨m + 1, hi, by omega, hhn, by go_num, rfl, HL2, HHi, Lib.hid (by trivial)⟩
          case measure => simp [intOf]; omega
        · have HH2 := Lib.hid (show ∀ i (h : i < l.length), m ≤ i → p ≤ l[i].1 from fun i h h2 => by
            have h3 := HS.out m i h2 h
            have := HX.out
            omega)
          clear HHi
          go_wp2
          go_roundw
          case rel => exact ⟨lo, m, hm1, by omega, rfl, rfl, HLo, HH2, Lib.hid (by trivial)⟩
          case measure => simp [intOf]; omega
      · obtain rfl : lo = hi := by omega
        go_wp2
        go_loopw [8] (fun e_ wr => ∃ e : Nat, lo ≤ e ∧ e ≤ n ∧ e_ = .int .i64 e ∧ Hid (∀ i (h : i < l.length), lo ≤ i → i < e → l[i].1 = p) ∧ Hid (wr = w2)) (fun e_ _ => n - (intOf e_).toNat)
        case atStart => exact ⟨lo, Nat.le_refl _, hhn, rfl, Lib.hid (fun i h h1 h2 => by omega), HW⟩
        case round =>
          obtain ⟨e, hle, hen, rfl, HE, HW2⟩ := hrel
          obtain rfl := HW2.out
          by_cases hlt2 : e < n
          · have hel : e < l.length := by have := HN.out; omega
            obtain ⟨x, hx⟩ : ∃ x, l[e].1 = x := ⟨_, rfl⟩
            obtain ⟨y, hy⟩ : ∃ y, l[e].2.1 = y := ⟨_, rfl⟩
            obtain ⟨z, hz⟩ : ∃ z, l[e].2.2 = z := ⟨_, rfl⟩
            have hmm : l[e] = (x, y, z) := by rw [← hx, ← hy, ← hz]
            obtain ⟨b, o, rfl, hb9, g1, g2, g3⟩ := ent_cells HAT2.out hel hmm
            have z0 : (0 : Int) ≤ (e : Int) := by omega
            have z1 : (e : Int) < (n : Int) := by omega
            have HX := Lib.hid hx
            clear hx hy hz hmm
            by_cases hxp : x = p
            · have t1 : (x == p) = true := by rw [hxp]; exact beq_self_eq_true _
              have HE2 := Lib.hid (show ∀ i (h : i < l.length), lo ≤ i → i < e + 1 → l[i].1 = p from fun i h h1 h2 => by
                by_cases h3 : i = e
                · subst h3; exact HX.out.trans hxp
                · exact HE.out i h h1 (by omega))
              clear hxp HE
              go_wp2
              go_roundw
              case rel => exact ⟨e + 1, by omega, by omega, by go_num, HE2, Lib.hid (by trivial)⟩
              case measure => simp [intOf]; omega
            · have t1 : (x == p) = false := by simpa using hxp
              have hcl : ¬ c = lo := by omega
              have HF := Lib.hid (show l.filter (fun x => x.1 == p) = (l.drop lo).take (e - lo) from filter_run hle (by omega)
                (fun i h h1 => by have := HLo.out i h h1; simp; omega) (fun i h h1 h2 => by have := HE.out i h h1 h2; simpa using this)
                (fun i h h1 => by
                  have h2 := HS.out e i h1 h
                  have h3 := HX.out
                  have h4 := HHi.out e hel hle
                  simp; omega))
              have HM1 := Lib.hid (show (entsC ((l.drop lo).take (e - lo))).length = (e - lo) * 3 by rw [entsC_len, List.length_take, List.length_drop, Nat.min_eq_left (by have := HN.out; omega)])
              have HC1 := Lib.hid (show CellsAt (wr.alloc (.cells #[] 31)) (some ⟨b, o + lo * 3, none⟩) (entsC ((l.drop lo).take (e - lo))) by
                have h := ((HAT2.out.allocW (.cells #[] 31)).from_lit (lo * 3)).upTo ((e - lo) * 3)
                rwa [entsC_drop, entsC_take] at h)
              clear hxp
              go_wp2_with (at_builtin; refine wpList_append_src rfl (.tmp 48) (.tmp 52) 23 rfl Try.ulE5 Try.infoE5 rfl (by decide) (One.empty wr 31 3) rfl _ _ _ rfl (entsC ((l.drop lo).take (e - lo))) HM1.out HC1.out (entsC_one _) (by unfold maxLen; omega) (by omega) ?_; intro a5 c5 w5 h5)
              go_ret
              exact ⟨_, _, _, rfl, by rw [HR.out, HF.out]; have h := h5.under hb2 hb2.size; rwa [Nat.zero_add, List.nil_append] at h⟩
          · obtain rfl : e = n := by omega
            by_cases hle2 : lo = e
            · have HF := Lib.hid (show l.filter (fun x => x.1 == p) = [] by
                rw [List.filter_eq_nil_iff]
                intro x hx
                obtain ⟨i, hi, rfl⟩ := List.getElem_of_mem hx
                have := HLo.out i hi (by have := HN.out; omega)
                simp; omega)
              subst hle2
              by_cases hcl : c = lo
              · subst hcl
                go_wp2_with (at_builtin; refine wpList_append_src rfl (.tmp 48) (.tmp 52) 23 rfl Try.ulE5 Try.infoE5 rfl (by decide) (One.empty wr 31 3) rfl _ _ _ rfl [] (by simp) (cellsAt_nil _ _) (by simp) (by unfold maxLen; omega) (by omega) ?_; intro a5 c5 w5 h5)
                go_ret
                exact ⟨_, _, _, rfl, by rw [HR.out, HF.out]; have h := h5.under hb2 hb2.size; first | exact h | (simp at h; exact h)⟩
              · cases a with
                | none =>
                  go_wp2_with (at_builtin; refine wpList_append_src rfl (.tmp 48) (.tmp 52) 23 rfl Try.ulE5 Try.infoE5 rfl (by decide) (One.empty wr 31 3) rfl _ _ _ rfl [] (by simp) (cellsAt_nil _ _) (by simp) (by unfold maxLen; omega) (by omega) ?_; intro a5 c5 w5 h5)
                  go_ret
                  exact ⟨_, _, _, rfl, by rw [HR.out, HF.out]; have h := h5.under hb2 hb2.size; first | exact h | (simp at h; exact h)⟩
                | some ad =>
                  go_wp2_with (at_builtin; refine wpList_append_src rfl (.tmp 48) (.tmp 52) 23 rfl Try.ulE5 Try.infoE5 rfl (by decide) (One.empty wr 31 3) rfl _ _ _ rfl [] (by simp) (cellsAt_nil _ _) (by simp) (by unfold maxLen; omega) (by omega) ?_; intro a5 c5 w5 h5)
                  go_ret
                  exact ⟨_, _, _, rfl, by rw [HR.out, HF.out]; have h := h5.under hb2 hb2.size; first | exact h | (simp at h; exact h)⟩
            · have hcl : ¬ c = lo := by omega
              have hel : lo < l.length := by have := HN.out; omega
              have HF := Lib.hid (show l.filter (fun x => x.1 == p) = (l.drop lo).take (e - lo) from filter_run hle (by have := HN.out; omega)
                (fun i h h1 => by have := HLo.out i h h1; simp; omega) (fun i h h1 h2 => by have := HE.out i h h1 h2; simpa using this)
                (fun i h h1 => by have := HN.out; omega))
              obtain ⟨b, o, rfl, -, -, -, -⟩ := ent_cells HAT2.out hel rfl
              have HM1 := Lib.hid (show (entsC ((l.drop lo).take (e - lo))).length = (e - lo) * 3 by rw [entsC_len, List.length_take, List.length_drop, Nat.min_eq_left (by have := HN.out; omega)])
              have HC1 := Lib.hid (show CellsAt (wr.alloc (.cells #[] 31)) (some ⟨b, o + lo * 3, none⟩) (entsC ((l.drop lo).take (e - lo))) by
                have h := ((HAT2.out.allocW (.cells #[] 31)).from_lit (lo * 3)).upTo ((e - lo) * 3)
                rwa [entsC_drop, entsC_take] at h)
              clear hle2 hel
              go_wp2_with (at_builtin; refine wpList_append_src rfl (.tmp 48) (.tmp 52) 23 rfl Try.ulE5 Try.infoE5 rfl (by decide) (One.empty wr 31 3) rfl _ _ _ rfl (entsC ((l.drop lo).take (e - lo))) HM1.out HC1.out (entsC_one _) (by unfold maxLen; omega) (by omega) ?_; intro a5 c5 w5 h5)
              go_ret
              exact ⟨_, _, _, rfl, by rw [HR.out, HF.out]; have h := h5.under hb2 hb2.size; rwa [Nat.zero_add, List.nil_append] at h⟩
  · have c1 := fun w h => specShelfOk_is false l a n c w ⟨(fun h => absurd h (by decide)), (fun h => absurd h hok)⟩ hn hl h
    rw [findL5_not hok]
    have HAT := Lib.hid hat
    clear hn hok hat
    go_enter Try.func26, Try.ntmps26
    go_wp2_with fail
    refine (c1 _ HAT.out).mono ?_
    rintro e w2 ⟨rfl, hb2⟩
    clear c1
    go_wp2
    go_ret
    exact ⟨_, _, _, rfl, (One.empty w2 31 3).under hb2 hb2.size⟩

end Go.Proofs.Ytclblnkeakkdeaa
