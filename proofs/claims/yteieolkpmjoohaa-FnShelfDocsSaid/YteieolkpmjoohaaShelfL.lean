/-
  The contracts of the program's functions ShelfLose, firstOfPrint and ShelfFind. Condition: rows have at most 2^22 entries.
-/
import Derived.Test.YteieolkpmjoohaaShelfJ
namespace Go.Proofs.Yteieolkpmjoohaa
open Go.RowKit

set_option maxHeartbeats 4000000 in
theorem implLose_any (l : List En) (d : Int) (a : Option Addr) (n c : Nat) (w : World) (hn : n = l.length) (hl : n ≤ 4194304) (hat : CellsAt w a (entsC l)) :
    Calls Try.prog 30 #[.slice a n c, .int .i64 d] w fun e w' => ∃ a' n' c', e = .returned (.slice a' n' c') ∧ One w w.heap.size w' 24 3 a' n' c' (entsC (loseL l d)) := by
  by_cases hok : shOk l
  · have c1 := fun w h => implShelfOk_is true l a n c w ⟨fun _ => hok, fun _ => rfl⟩ hn hl h
    have HR := Lib.hid (loseL_ok hok d)
    have HN := Lib.hid hn
    have HAT := Lib.hid hat
    clear hn hok hat
    go_enter Try.func30, Try.ntmps30
    go_wp2_with fail
    refine (c1 _ HAT.out).mono ?_
    rintro e w2 ⟨rfl, hb2⟩
    have hone0 : One w w.heap.size w2 24 3 none 0 0 (entsC ((l.take 0).filter (fun x => !(x.2.1 == d)))) := (One.nil w 24 3).later hb2
    clear hb2 c1
    go_wp2
    go_loopw [5, 12] (fun o_ k_ wr => ∃ k : Nat, k ≤ n ∧ k_ = .int .i64 k ∧ ∃ a' n' c', o_ = .slice a' n' c' ∧ n' ≤ k ∧ One w w.heap.size wr 24 3 a' n' c' (entsC ((l.take k).filter (fun x => !(x.2.1 == d))))) (fun _ k_ _ => n - (intOf k_).toNat)
    case atStart => exact ⟨0, Nat.zero_le _, rfl, _, _, _, rfl, Nat.le_refl _, hone0⟩
    case round =>
      clear hone0
      obtain ⟨k, hk, rfl, a', n', c', rfl, hn', hone⟩ := hrel
      by_cases hlt : k < n
      · have hkl : k < l.length := by have := HN.out; omega
        obtain ⟨x, hx⟩ : ∃ x, l[k].1 = x := ⟨_, rfl⟩
        obtain ⟨y, hy⟩ : ∃ y, l[k].2.1 = y := ⟨_, rfl⟩
        obtain ⟨z, hz⟩ : ∃ z, l[k].2.2 = z := ⟨_, rfl⟩
        have hm : l[k] = (x, y, z) := by rw [← hx, ← hy, ← hz]
        obtain ⟨b, o, rfl, hb9, g1, g2, g3⟩ := ent_cells (HAT.out.below hone.below) hkl hm
        have hyes := filter_yes (P := fun x => !(x.2.1 == d)) hkl
        have hno := filter_no (P := fun x => !(x.2.1 == d)) hkl
        rw [hm] at hyes hno
        have z1 : (k : Int) < (n : Int) := by omega
        clear hx hy hz hm
        by_cases hd : y = d
        · have t1 : (y == d) = true := by rw [hd]; exact beq_self_eq_true _
          have t2 : (y != d) = false := by rw [bne, t1]; rfl
          have HS := Lib.hid (hno (by show (!(y == d)) = false; rw [t1]; rfl))
          clear hyes hno hd
          go_wp2
          go_roundw
          case rel => exact ⟨k + 1, by omega, by go_num, a', n', c', rfl, by omega, by rw [HS.out]; exact hone⟩
          case measure => simp [intOf]; omega
        · have t1 : (y == d) = false := by simpa using hd
          have t2 : (y != d) = true := by rw [bne, t1]; rfl
          have HS := Lib.hid (show entsC ((l.take (k + 1)).filter (fun x => !(x.2.1 == d))) = entsC ((l.take k).filter (fun x => !(x.2.1 == d))) ++ [.int .i64 x, .int .i64 y, .int .i64 z] by rw [hyes (by show (!(y == d)) = true; rw [t1]; rfl), entsC_snoc])
          clear hyes hno hd
          go_wp2_with (at_builtin; refine wpList_append_row rfl (.tmp 22) (.tmp 27) 30 rfl Try.ulE5 Try.infoE5 rfl (by decide) hone rfl #[.int .i64 x, .int .i64 y, .int .i64 z] rfl rfl (by simp [Value.oneCell']) (by unfold maxLen; omega) (by omega) ?_; intro a5 c5 w5 h5)
          go_roundw
          case rel => exact ⟨k + 1, by omega, by go_num, a5, n' + 1, c5, rfl, by omega, by rw [HS.out]; exact h5⟩
          case measure => simp [intOf]; omega
      · have HO := Lib.hid (show One w w.heap.size wr 24 3 a' n' c' (entsC (loseL l d)) by
          rw [HR.out]
          have h := hone
          rwa [List.take_of_length_le (by have := HN.out; omega)] at h)
        clear hone
        go_wp2
        go_ret
        exact ⟨_, _, _, rfl, HO.out⟩
  · have c1 := fun w h => implShelfOk_is false l a n c w ⟨(fun h => absurd h (by decide)), (fun h => absurd h hok)⟩ hn hl h
    rw [loseL_not hok]
    have HAT := Lib.hid hat
    clear hn hok hat
    go_enter Try.func30, Try.ntmps30
    go_wp2_with fail
    refine (c1 _ HAT.out).mono ?_
    rintro e w2 ⟨rfl, hb2⟩
    have hone0 : One w w.heap.size w2 24 3 none 0 0 (entsC []) := (One.nil w 24 3).later hb2
    clear hb2 c1
    go_wp2
    go_ret
    exact ⟨_, _, _, rfl, hone0⟩

theorem shOk_upI {l : List En} (h : shOk l) : UpI (prL l) := fun i j hij hj => by
  rw [prL_len] at hj
  rw [prL_get l i (by omega), prL_get l j hj]
  exact shOk_prints h i j hij hj

theorem half_of (lo hi g : Nat) (h : (hi - lo) / 2 = g) (hl : lo ≤ hi) : ((hi : Int) - (lo : Int)).tdiv 2 = (g : Int) := by
  have e : ((hi : Int) - (lo : Int)) = ((hi - lo : Nat) : Int) := by omega
  rw [e]
  have h2 := Int.ofNat_tdiv (hi - lo) 2
  rw [h] at h2
  rw [h2]; simp

set_option maxHeartbeats 4000000 in
theorem implFirst_any (l : List En) (p : Int) (a : Option Addr) (n c : Nat) (w : World) (hn : n = l.length) (hl : n ≤ 4194304) (hu : UpI (prL l)) (hat : CellsAt w a (entsC l)) :
    Calls Try.prog 64 #[.slice a n c, .int .i64 p] w fun e w' => e = .returned (.int .i64 (posI (prL l) p : Nat)) ∧ w = w' := by
  have HS := Lib.hid (show ∀ i j (hij : i ≤ j) (hj : j < l.length), (l[i]'(by omega)).1 ≤ l[j].1 from fun i j hij hj => by
    have h := hu i j hij (by rw [prL_len]; exact hj)
    rwa [prL_get l i (by omega), prL_get l j hj] at h)
  have HN := Lib.hid hn
  have HAT := Lib.hid hat
  clear hn hu hat
  go_enter Try.func64, Try.ntmps64
  go_wp2
  go_loopw [5, 6] (fun lo_ hi_ wr => ∃ lo hi : Nat, lo ≤ hi ∧ hi ≤ n ∧ lo_ = .int .i64 lo ∧ hi_ = .int .i64 hi ∧ Hid (∀ i (h : i < l.length), i < lo → l[i].1 < p) ∧ Hid (∀ i (h : i < l.length), hi ≤ i → p ≤ l[i].1) ∧ Hid (wr = w)) (fun lo_ hi_ _ => (intOf hi_).toNat - (intOf lo_).toNat)
  case atStart => exact ⟨0, n, Nat.zero_le _, Nat.le_refl _, rfl, rfl, Lib.hid (fun i h h2 => absurd h2 (Nat.not_lt_zero _)), Lib.hid (fun i h h2 => by have := HN.out; omega), Lib.hid rfl⟩
  case round =>
    obtain ⟨lo, hi, hlh, hhn, rfl, rfl, HLo, HHi, HW⟩ := hrel
    obtain rfl := HW.out
    by_cases hlt : lo < hi
    · obtain ⟨g, hg⟩ : ∃ g, (hi - lo) / 2 = g := ⟨_, rfl⟩
      have em := half_of lo hi g hg hlh
      have hm2 : lo + g < hi := by omega
      have hml : lo + g < l.length := by have := HN.out; omega
      obtain ⟨x, hx⟩ : ∃ x, (l[lo + g]'hml).1 = x := ⟨_, rfl⟩
      obtain ⟨y, hy⟩ : ∃ y, (l[lo + g]'hml).2.1 = y := ⟨_, rfl⟩
      obtain ⟨z, hz⟩ : ∃ z, (l[lo + g]'hml).2.2 = z := ⟨_, rfl⟩
      have hmm : l[lo + g]'hml = (x, y, z) := by rw [← hx, ← hy, ← hz]
      obtain ⟨b, o, rfl, hb9, g1, g2, g3⟩ := ent_cells HAT.out hml hmm
      have z0 : (0 : Int) ≤ (lo : Int) + (g : Int) := by omega
      have z1 : (lo : Int) + (g : Int) < (n : Int) := by omega
      have z2 : ((lo : Int) + (g : Int)).toNat = lo + g := by omega
      have HX := Lib.hid hx
      clear hg hx hy hz hmm
      by_cases hxp : x < p
      · have HL2 := Lib.hid (show ∀ i (h : i < l.length), i < lo + g + 1 → l[i].1 < p from fun i h h2 => by
          have h3 := HS.out i (lo + g) (by omega) hml
          have := HX.out
          omega)
        clear HLo
        go_wp2
        go_roundw
        case rel => exact ⟨lo + g + 1, hi, by omega, hhn, by go_num, rfl, HL2, HHi, Lib.hid (by trivial)⟩
        case measure => simp [intOf]; omega
      · have HH2 := Lib.hid (show ∀ i (h : i < l.length), lo + g ≤ i → p ≤ l[i].1 from fun i h h2 => by
          have h3 := HS.out (lo + g) i h2 h
          have := HX.out
          omega)
        clear HHi
        go_wp2
        go_roundw
        case rel => exact ⟨lo, lo + g, by omega, by omega, rfl, by go_num, HLo, HH2, Lib.hid (by trivial)⟩
        case measure => simp [intOf]; omega
    · obtain rfl : lo = hi := by omega
      have hpos : posI (prL l) p = lo := posI_is (by rw [prL_len]; have := HN.out; omega)
        (fun i h h2 => by rw [prL_len] at h; rw [prL_get l i h]; exact HLo.out i h h2)
        (fun h => by rw [prL_len] at h; rw [prL_get l lo h]; exact HHi.out lo h (Nat.le_refl _))
      have HP := Lib.hid hpos
      clear hpos
      go_wp2
      go_ret
      exact ⟨(congrArg (fun z : Nat => Ending.returned (Value.int .i64 (z : Int))) HP.out).symm, rfl⟩

theorem run_snoc {l : List En} {lo e : Nat} (hle : lo ≤ e) (he : e < l.length) : (l.drop lo).take (e + 1 - lo) = (l.drop lo).take (e - lo) ++ [l[e]] := by
  have h : e - lo < (l.drop lo).length := by rw [List.length_drop]; omega
  have h2 := List.take_succ_eq_append_getElem h
  rw [show e + 1 - lo = e - lo + 1 by omega, h2]
  congr 2
  rw [List.getElem_drop]
  congr 1
  omega

set_option maxHeartbeats 4000000 in
theorem implFind5_any (l : List En) (p : Int) (a : Option Addr) (n c : Nat) (w : World) (hn : n = l.length) (hl : n ≤ 4194304) (hat : CellsAt w a (entsC l)) :
    Calls Try.prog 36 #[.slice a n c, .int .i64 p] w fun e w' => ∃ a' n' c', e = .returned (.slice a' n' c') ∧ One w w.heap.size w' 24 3 a' n' c' (entsC (findL5 l p)) := by
  by_cases hok : shOk l
  · have c1 := fun w h => implShelfOk_is true l a n c w ⟨fun _ => hok, fun _ => rfl⟩ hn hl h
    have c2 := fun w h => implFirst_any l p a n c w hn hl (shOk_upI hok) h
    have HR := Lib.hid (findL5_ok hok p)
    have HS := Lib.hid (shOk_prints hok)
    have HN := Lib.hid hn
    have HAT := Lib.hid hat
    obtain ⟨lo, hlo⟩ : ∃ lo, posI (prL l) p = lo := ⟨_, rfl⟩
    have hlon : lo ≤ n := by rw [← hlo, hn, ← prL_len]; exact posI_le _ _
    have HLo := Lib.hid (show ∀ i (h : i < l.length), i < lo → l[i].1 < p from fun i h h2 => by
      have h3 := posI_lt (l := prL l) (p := p) (i := i) (by rw [hlo]; exact h2) (by rw [prL_len]; exact h)
      rwa [prL_get l i h] at h3)
    have HHi := Lib.hid (show ∀ i (h : i < l.length), lo ≤ i → p ≤ l[i].1 from fun i h h2 => by
      have h3 := upI_pos (shOk_upI hok) (p := p) (k := i) (by rw [prL_len]; exact h) (by rw [hlo]; exact h2)
      rwa [prL_get l i h] at h3)
    rw [hlo] at c2
    clear hn hok hat hlo
    go_enter Try.func36, Try.ntmps36
    go_wp2_with fail
    refine (c1 _ HAT.out).mono ?_
    rintro e w2 ⟨rfl, hb2⟩
    have d2 := c2 w2 (HAT.out.below hb2)
    clear c1 c2
    go_wp2_with fail
    refine d2.mono ?_
    rintro e w3 ⟨rfl, rfl⟩
    have hone0 : One w w.heap.size w2 24 3 none 0 0 (entsC ((l.drop lo).take (lo - lo))) := by rw [Nat.sub_self]; exact (One.nil w 24 3).later hb2
    clear d2 hb2
    go_wp2
    go_loopw [5, 6] (fun f_ e_ wr => ∃ e : Nat, lo ≤ e ∧ e ≤ n ∧ e_ = .int .i64 e ∧ ∃ a' n' c', f_ = .slice a' n' c' ∧ n' + lo = e ∧ Hid (∀ i (h : i < l.length), lo ≤ i → i < e → l[i].1 = p) ∧ One w w.heap.size wr 24 3 a' n' c' (entsC ((l.drop lo).take (e - lo)))) (fun _ e_ _ => n - (intOf e_).toNat)
    case atStart => exact ⟨lo, Nat.le_refl _, hlon, rfl, _, _, _, rfl, Nat.zero_add _, Lib.hid (fun i h h1 h2 => by omega), hone0⟩
    case round =>
      clear hone0
      obtain ⟨e, hle, hen, rfl, a', n', c', rfl, hn', HE, hone⟩ := hrel
      have hn9 : n' ≤ 4194304 := by omega
      have HN' := Lib.hid hn'
      clear hn'
      by_cases hlt2 : e < n
      · have hel : e < l.length := by have := HN.out; omega
        obtain ⟨x, hx⟩ : ∃ x, l[e].1 = x := ⟨_, rfl⟩
        obtain ⟨y, hy⟩ : ∃ y, l[e].2.1 = y := ⟨_, rfl⟩
        obtain ⟨z, hz⟩ : ∃ z, l[e].2.2 = z := ⟨_, rfl⟩
        have hmm : l[e] = (x, y, z) := by rw [← hx, ← hy, ← hz]
        obtain ⟨b, o, rfl, hb9, g1, g2, g3⟩ := ent_cells (HAT.out.below hone.below) hel hmm
        have z0 : (0 : Int) ≤ (e : Int) := by omega
        have z1 : (e : Int) < (n : Int) := by omega
        have HX := Lib.hid hx
        have HMM := Lib.hid hmm
        clear hx hy hz hmm
        by_cases hxp : x = p
        · have t1 : (x == p) = true := by rw [hxp]; exact beq_self_eq_true _
          have HE2 := Lib.hid (show ∀ i (h : i < l.length), lo ≤ i → i < e + 1 → l[i].1 = p from fun i h h1 h2 => by
            by_cases h3 : i = e
            · subst h3; exact HX.out.trans hxp
            · exact HE.out i h h1 (by omega))
          have HS2 := Lib.hid (show entsC ((l.drop lo).take (e + 1 - lo)) = entsC ((l.drop lo).take (e - lo)) ++ [.int .i64 x, .int .i64 y, .int .i64 z] by rw [run_snoc hle hel, HMM.out, entsC_snoc])
          clear hxp HE
          go_wp2_with (at_builtin; refine wpList_append_row rfl (.tmp 28) (.tmp 33) 30 rfl Try.ulE5 Try.infoE5 rfl (by decide) hone rfl #[.int .i64 x, .int .i64 y, .int .i64 z] rfl rfl (by simp [Value.oneCell']) (by unfold maxLen; omega) (by omega) ?_; intro a5 c5 w5 h5)
          go_roundw
          case rel => exact ⟨e + 1, by omega, by omega, by go_num, a5, n' + 1, c5, rfl, by have := HN'.out; omega, HE2, by rw [HS2.out]; exact h5⟩
          case measure => simp [intOf]; omega
        · have t1 : (x == p) = false := by simpa using hxp
          have HF := Lib.hid (show l.filter (fun x => x.1 == p) = (l.drop lo).take (e - lo) from filter_run hle (by omega)
            (fun i h h1 => by have := HLo.out i h h1; simp; omega) (fun i h h1 h2 => by have := HE.out i h h1 h2; simpa using this)
            (fun i h h1 => by
              have h2 := HS.out e i h1 h
              have h3 := HX.out
              have h4 := HHi.out e hel hle
              simp; omega))
          have HO := Lib.hid (show One w w.heap.size wr 24 3 a' n' c' (entsC (findL5 l p)) by rw [HR.out, HF.out]; exact hone)
          clear hxp hone
          go_wp2
          go_ret
          exact ⟨_, _, _, rfl, HO.out⟩
      · have HF := Lib.hid (show l.filter (fun x => x.1 == p) = (l.drop lo).take (e - lo) from filter_run hle (by have := HN.out; omega)
          (fun i h h1 => by have := HLo.out i h h1; simp; omega) (fun i h h1 h2 => by have := HE.out i h h1 h2; simpa using this)
          (fun i h h1 => by have := HN.out; omega))
        have HO := Lib.hid (show One w w.heap.size wr 24 3 a' n' c' (entsC (findL5 l p)) by rw [HR.out, HF.out]; exact hone)
        clear hone
        go_wp2
        go_ret
        exact ⟨_, _, _, rfl, HO.out⟩
  · have c1 := fun w h => implShelfOk_is false l a n c w ⟨(fun h => absurd h (by decide)), (fun h => absurd h hok)⟩ hn hl h
    rw [findL5_not hok]
    have HAT := Lib.hid hat
    clear hn hok hat
    go_enter Try.func36, Try.ntmps36
    go_wp2_with fail
    refine (c1 _ HAT.out).mono ?_
    rintro e w2 ⟨rfl, hb2⟩
    clear c1
    go_wp2
    go_ret
    exact ⟨_, _, _, rfl, (One.nil w2 24 3).under hb2 hb2.size⟩

end Go.Proofs.Yteieolkpmjoohaa
