/-
  The contracts of the program's functions ShelfLose, firstOfPrint, entriesOfPrint and ShelfFind. Condition: rows have at most 2^22 entries.
  Rows of rows that the call itself made: a row of slices, each of which is a row of its own. No program is read but for its types. No conditions.
-/
import Derived.Test.YtclblnkeakkdeaaMg32
import Derived.Test.YtclblnkeakkdeaaMg10
import Derived.Test.YtclblnkeakkdeaaMg11
import Derived.Test.YtclblnkeakkdeaaMg7
import Derived.Test.YtclblnkeakkdeaaMg18
namespace Go.Proofs.Ytclblnkeakkdeaa
open Go.RowKit

set_option maxHeartbeats 4000000 in
theorem implLose_any (l : List En) (d : Int) (a : Option Addr) (n c : Nat) (w : World) (hn : n = l.length) (hl : n ≤ 4194304) (hat : CellsAt w a (entsC l)) :
    Calls Try.prog 17 #[.slice a n c, .int .i64 d] w fun e w' => ∃ a' n' c', e = .returned (.slice a' n' c') ∧ One w w.heap.size w' 31 3 a' n' c' (entsC (loseL l d)) := by
  by_cases hok : shOk l
  · have c1 := fun w h => implShelfOk_is true l a n c w ⟨fun _ => hok, fun _ => rfl⟩ hn hl h
    have HR := Lib.hid (loseL_ok hok d)
    have HN := Lib.hid hn
    have HAT := Lib.hid hat
    clear hn hok hat
    go_enter Try.func17, Try.ntmps17
    go_wp2_with fail
    refine (c1 _ HAT.out).mono ?_
    rintro e w2 ⟨rfl, hb2⟩
    have hone0 : One w w.heap.size w2 31 3 none 0 0 (entsC ((l.take 0).filter (fun x => !(x.2.1 == d)))) := (One.nil w 31 3).later hb2
    clear hb2 c1
    go_wp2
    go_loopw [5, 12] (fun o_ k_ wr => ∃ k : Nat, k ≤ n ∧ k_ = .int .i64 k ∧ ∃ a' n' c', o_ = .slice a' n' c' ∧ n' ≤ k ∧ One w w.heap.size wr 31 3 a' n' c' (entsC ((l.take k).filter (fun x => !(x.2.1 == d))))) (fun _ k_ _ => n - (intOf k_).toNat)
    case atStart => exact ⟨0, Nat.zero_le _, rfl, _, _, _, rfl, Nat.le_refl _, hone0⟩
    case round =>
      clear hone0
      obtain ⟨k, hk, rfl, a', n', c', rfl, hn', hone⟩ := hrel
      by_cases hlt : k < n
      · have hkl : k < l.length := by have := HN.out; omega
        obtain ⟨x, hx⟩ : ∃ x, l[k].1 = x := ⟨_, rfl⟩
        obtain ⟨y, hy⟩ : ∃ y, l[k].2.1 = y := ⟨_, rfl⟩
        obtain ⟨z, hz⟩ : ∃ z, l[k].2.2 = z := ⟨_, rfl⟩
        have hm : l[k] = (x, y, z) := by rw [← hx, ← hy, ← hz]
        obtain ⟨b, o, rfl, hb9, g1, g2, g3⟩ := ent_cells (HAT.out.below hone.below) hkl hm
        have hyes := filter_yes (P := fun x => !(x.2.1 == d)) hkl
        have hno := filter_no (P := fun x => !(x.2.1 == d)) hkl
        rw [hm] at hyes hno
        have z1 : (k : Int) < (n : Int) := by omega
        clear hx hy hz hm
        by_cases hd : y = d
        · have t1 : (y == d) = true := by rw [hd]; exact beq_self_eq_true _
          have t2 : (y != d) = false := by rw [bne, t1]; rfl
          have HS := Lib.hid (hno (by show (!(y == d)) = false; rw [t1]; rfl))
          clear hyes hno hd
          go_wp2
          go_roundw
          case rel => exact ⟨k + 1, by omega, by go_num, a', n', c', rfl, by omega, by rw [HS.out]; exact hone⟩
          case measure => simp [intOf]; omega
        · have t1 : (y == d) = false := by simpa using hd
          have t2 : (y != d) = true := by rw [bne, t1]; rfl
          have HS := Lib.hid (show entsC ((l.take (k + 1)).filter (fun x => !(x.2.1 == d))) = entsC ((l.take k).filter (fun x => !(x.2.1 == d))) ++ [.int .i64 x, .int .i64 y, .int .i64 z] by rw [hyes (by show (!(y == d)) = true; rw [t1]; rfl), entsC_snoc])
          clear hyes hno hd
          go_wp2_with (at_builtin; refine wpList_append_row rfl (.tmp 22) (.tmp 27) 23 rfl Try.ulE5 Try.infoE5 rfl (by decide) hone rfl #[.int .i64 x, .int .i64 y, .int .i64 z] rfl rfl (by simp [Value.oneCell']) (by unfold maxLen; omega) (by omega) ?_; intro a5 c5 w5 h5)
          go_roundw
          case rel => exact ⟨k + 1, by omega, by go_num, a5, n' + 1, c5, rfl, by omega, by rw [HS.out]; exact h5⟩
          case measure => simp [intOf]; omega
      · have HO := Lib.hid (show One w w.heap.size wr 31 3 a' n' c' (entsC (loseL l d)) by
          rw [HR.out]
          have h := hone
          rwa [List.take_of_length_le (by have := HN.out; omega)] at h)
        clear hone
        go_wp2
        go_ret
        exact ⟨_, _, _, rfl, HO.out⟩
  · have c1 := fun w h => implShelfOk_is false l a n c w ⟨(fun h => absurd h (by decide)), (fun h => absurd h hok)⟩ hn hl h
    rw [loseL_not hok]
    have HAT := Lib.hid hat
    clear hn hok hat
    go_enter Try.func17, Try.ntmps17
    go_wp2_with fail
    refine (c1 _ HAT.out).mono ?_
    rintro e w2 ⟨rfl, hb2⟩
    have hone0 : One w w.heap.size w2 31 3 none 0 0 (entsC []) := (One.nil w 31 3).later hb2
    clear hb2 c1
    go_wp2
    go_ret
    exact ⟨_, _, _, rfl, hone0⟩

theorem shOk_upI {l : List En} (h : shOk l) : UpI (prL l) := fun i j hij hj => by
  rw [prL_len] at hj
  rw [prL_get l i (by omega), prL_get l j hj]
  exact shOk_prints h i j hij hj

set_option maxHeartbeats 4000000 in
theorem implFirst_any (l : List En) (p : Int) (a : Option Addr) (n c : Nat) (w : World) (hn : n = l.length) (hl : n ≤ 4194304) (hu : UpI (prL l)) (hat : CellsAt w a (entsC l)) :
    Calls Try.prog 107 #[.slice a n c, .int .i64 p] w fun e w' => e = .returned (.int .i64 (posI (prL l) p : Nat)) ∧ w = w' := by
  have HS := Lib.hid (show ∀ i j (hij : i ≤ j) (hj : j < l.length), (l[i]'(by omega)).1 ≤ l[j].1 from fun i j hij hj => by
    have h := hu i j hij (by rw [prL_len]; exact hj)
    rwa [prL_get l i (by omega), prL_get l j hj] at h)
  have HN := Lib.hid hn
  have HAT := Lib.hid hat
  clear hn hu hat
  go_enter Try.func107, Try.ntmps107
  go_wp2
  go_loopw [5, 6] (fun lo_ hi_ wr => ∃ lo hi : Nat, lo ≤ hi ∧ hi ≤ n ∧ lo_ = .int .i64 lo ∧ hi_ = .int .i64 hi ∧ Hid (∀ i (h : i < l.length), i < lo → l[i].1 < p) ∧ Hid (∀ i (h : i < l.length), hi ≤ i → p ≤ l[i].1) ∧ Hid (wr = w)) (fun lo_ hi_ _ => (intOf hi_).toNat - (intOf lo_).toNat)
  case atStart => exact ⟨0, n, Nat.zero_le _, Nat.le_refl _, rfl, rfl, Lib.hid (fun i h h2 => absurd h2 (Nat.not_lt_zero _)), Lib.hid (fun i h h2 => by have := HN.out; omega), Lib.hid rfl⟩
  case round =>
    obtain ⟨lo, hi, hlh, hhn, rfl, rfl, HLo, HHi, HW⟩ := hrel
    obtain rfl := HW.out
    by_cases hlt : lo < hi
    · obtain ⟨g, hg⟩ : ∃ g, (hi - lo) / 2 = g := ⟨_, rfl⟩
      have em := half_of lo hi g hg hlh
      have hm2 : lo + g < hi := by omega
      have hml : lo + g < l.length := by have := HN.out; omega
      obtain ⟨x, hx⟩ : ∃ x, (l[lo + g]'hml).1 = x := ⟨_, rfl⟩
      obtain ⟨y, hy⟩ : ∃ y, (l[lo + g]'hml).2.1 = y := ⟨_, rfl⟩
      obtain ⟨z, hz⟩ : ∃ z, (l[lo + g]'hml).2.2 = z := ⟨_, rfl⟩
      have hmm : l[lo + g]'hml = (x, y, z) := by rw [← hx, ← hy, ← hz]
      obtain ⟨b, o, rfl, hb9, g1, g2, g3⟩ := ent_cells HAT.out hml hmm
      have z0 : (0 : Int) ≤ (lo : Int) + (g : Int) := by omega
      have z1 : (lo : Int) + (g : Int) < (n : Int) := by omega
      have z2 : ((lo : Int) + (g : Int)).toNat = lo + g := by omega
      have HX := Lib.hid hx
      clear hg hx hy hz hmm
      by_cases hxp : x < p
      · have HL2 := Lib.hid (show ∀ i (h : i < l.length), i < lo + g + 1 → l[i].1 < p from fun i h h2 => by
          have h3 := HS.out i (lo + g) (by omega) hml
          have := HX.out
          omega)
        clear HLo
        go_wp2
        go_roundw
        case rel => exact ⟨lo + g + 1, hi, by omega, hhn, by go_num, rfl, HL2, HHi, Lib.hid (by trivial)⟩
        case measure => simp [intOf]; omega
      · have HH2 := Lib.hid (show ∀ i (h : i < l.length), lo + g ≤ i → p ≤ l[i].1 from fun i h h2 => by
          have h3 := HS.out (lo + g) i h2 h
          have := HX.out
          omega)
        clear HHi
        go_wp2
        go_roundw
        case rel => exact ⟨lo, lo + g, by omega, by omega, rfl, by go_num, HLo, HH2, Lib.hid (by trivial)⟩
        case measure => simp [intOf]; omega
    · obtain rfl : lo = hi := by omega
      have hpos : posI (prL l) p = lo := posI_is (by rw [prL_len]; have := HN.out; omega)
        (fun i h h2 => by rw [prL_len] at h; rw [prL_get l i h]; exact HLo.out i h h2)
        (fun h => by rw [prL_len] at h; rw [prL_get l lo h]; exact HHi.out lo h (Nat.le_refl _))
      have HP := Lib.hid hpos
      clear hpos
      go_wp2
      go_ret
      exact ⟨(congrArg (fun z : Nat => Ending.returned (Value.int .i64 (z : Int))) HP.out).symm, rfl⟩

theorem run_snoc {l : List En} {lo e : Nat} (hle : lo ≤ e) (he : e < l.length) : (l.drop lo).take (e + 1 - lo) = (l.drop lo).take (e - lo) ++ [l[e]] := by
  have h : e - lo < (l.drop lo).length := by rw [List.length_drop]; omega
  have h2 := List.take_succ_eq_append_getElem h
  rw [show e + 1 - lo = e - lo + 1 by omega, h2]
  congr 2
  rw [List.getElem_drop]
  congr 1
  omega

/-- A part of a slice of entries. -/
theorem ents_cut (a : Option Addr) (n c lo hi : Nat) (h1 : lo ≤ hi) (h2 : hi ≤ n) (hnc : n ≤ c) : ∃ a2 q f, q = hi - lo ∧ q ≤ f ∧ f ≤ c ∧ (∀ w, (Instr.slice 23 (.slice a n c) (some (.int .i64 lo)) (some (.int .i64 hi)) none).run Try.prog w = .ok (.slice a2 q f) w) ∧
    ∀ (w : World) (l : List En), n = l.length → CellsAt w a (entsC l) → CellsAt w a2 (entsC ((l.drop lo).take (hi - lo))) := by
  refine ⟨if c = lo then a else a.map (·.add (lo * 3)), hi - lo, c - lo, rfl, by omega, by omega, fun w => ?_, fun w l hn h => ?_⟩
  · have h := run_slice_lh (P := Try.prog) (w := w) 23 a n c Try.elE5 .i64 .i64 (lo : Int) (hi : Int) (by omega) (by omega) (by omega)
    rw [h, Try.sizeE5]
    simp [Result.andThen, sliced]
  · have h3 := h.from_ n c lo 3 (by decide) (by rw [entsC_len, hn]) hnc
    rw [entsC_drop] at h3
    rw [← entsC_take]
    exact h3.upTo ((hi - lo) * 3)

set_option maxHeartbeats 4000000 in
theorem implEntries_any (l : List En) (p : Int) (a : Option Addr) (n c : Nat) (w : World) (hn : n = l.length) (hl : n ≤ 4194304) (hnc : n ≤ c) (hu : UpI (prL l)) (hat : CellsAt w a (entsC l)) :
    Calls Try.prog 74 #[.slice a n c, .int .i64 p] w fun e w' => ∃ a2 q f, e = .returned (.slice a2 q f) ∧ q = (l.filter (fun x => x.1 == p)).length ∧ q ≤ n ∧ q ≤ f ∧ (∀ w2, CellsAt w2 a (entsC l) → CellsAt w2 a2 (entsC (l.filter (fun x => x.1 == p)))) ∧ w = w' := by
  have c2 := fun w h => implFirst_any l p a n c w hn hl hu h
  have HS := Lib.hid (show ∀ i j (hij : i ≤ j) (hj : j < l.length), (l[i]'(by omega)).1 ≤ l[j].1 from fun i j hij hj => by
    have h := hu i j hij (by rw [prL_len]; exact hj)
    rwa [prL_get l i (by omega), prL_get l j hj] at h)
  have HN := Lib.hid hn
  have HAT := Lib.hid hat
  obtain ⟨lo, hlo⟩ : ∃ lo, posI (prL l) p = lo := ⟨_, rfl⟩
  have hlon : lo ≤ n := by rw [← hlo, hn, ← prL_len]; exact posI_le _ _
  have HLo := Lib.hid (show ∀ i (h : i < l.length), i < lo → l[i].1 < p from fun i h h2 => by
    have h3 := posI_lt (l := prL l) (p := p) (i := i) (by rw [hlo]; exact h2) (by rw [prL_len]; exact h)
    rwa [prL_get l i h] at h3)
  have HHi := Lib.hid (show ∀ i (h : i < l.length), lo ≤ i → p ≤ l[i].1 from fun i h h2 => by
    have h3 := upI_pos hu (p := p) (k := i) (by rw [prL_len]; exact h) (by rw [hlo]; exact h2)
    rwa [prL_get l i h] at h3)
  rw [hlo] at c2
  clear hn hu hat hlo
  go_enter Try.func74, Try.ntmps74
  go_wp2_with fail
  refine (c2 _ HAT.out).mono ?_
  rintro e w3 ⟨rfl, rfl⟩
  clear c2
  go_wp2
  go_loopw [6] (fun e_ wr => ∃ e : Nat, lo ≤ e ∧ e ≤ n ∧ e_ = .int .i64 e ∧ Hid (∀ i (h : i < l.length), lo ≤ i → i < e → l[i].1 = p) ∧ Hid (wr = w)) (fun e_ _ => n - (intOf e_).toNat)
  case atStart => exact ⟨lo, Nat.le_refl _, hlon, rfl, Lib.hid (fun i h h1 h2 => by omega), Lib.hid rfl⟩
  case round =>
    obtain ⟨e, hle, hen, rfl, HE, HW⟩ := hrel
    obtain rfl := HW.out
    clear HW
    have hfin : (∀ i (h : i < l.length), e ≤ i → (l[i].1 == p) = false) → l.filter (fun x => x.1 == p) = (l.drop lo).take (e - lo) := fun h3 => filter_run hle (by have := HN.out; omega)
      (fun i h h1 => by have := HLo.out i h h1; simp; omega) (fun i h h1 h2 => by have := HE.out i h h1 h2; simpa using this) h3
    obtain ⟨a2, q, f, hq, hqf, hfc, sl, hc2⟩ := ents_cut a n c lo e hle hen hnc
    have HQ := Lib.hid hq
    have HC2 := Lib.hid (fun w2 (h : CellsAt w2 a (entsC l)) => hc2 w2 l HN.out h)
    have hqn : q ≤ n := by omega
    have zl : (lo : Int) ≤ (e : Int) := by omega
    clear hq hc2 hfc
    by_cases hlt2 : e < n
    · have hel : e < l.length := by have := HN.out; omega
      obtain ⟨x, hx⟩ : ∃ x, l[e].1 = x := ⟨_, rfl⟩
      obtain ⟨y, hy⟩ : ∃ y, l[e].2.1 = y := ⟨_, rfl⟩
      obtain ⟨z, hz⟩ : ∃ z, l[e].2.2 = z := ⟨_, rfl⟩
      have hmm : l[e] = (x, y, z) := by rw [← hx, ← hy, ← hz]
      obtain ⟨b, o, rfl, hb9, g1, g2, g3⟩ := ent_cells HAT.out hel hmm
      have z0 : (0 : Int) ≤ (e : Int) := by omega
      have z1 : (e : Int) < (n : Int) := by omega
      have HX := Lib.hid hx
      clear hx hy hz hmm
      by_cases hxp : x = p
      · have t1 : (x == p) = true := by rw [hxp]; exact beq_self_eq_true _
        have HE2 := Lib.hid (show ∀ i (h : i < l.length), lo ≤ i → i < e + 1 → l[i].1 = p from fun i h h1 h2 => by
          by_cases h3 : i = e
          · subst h3; exact HX.out.trans hxp
          · exact HE.out i h h1 (by omega))
        clear hxp HE hfin
        go_wp2
        go_roundw
        case rel => exact ⟨e + 1, by omega, by omega, by go_num, HE2, Lib.hid (by trivial)⟩
        case measure => simp [intOf]; omega
      · have t1 : (x == p) = false := by simpa using hxp
        have HF := Lib.hid (hfin (fun i h h1 => by
          have h2 := HS.out e i h1 h
          have h3 := HX.out
          have h4 := HHi.out e hel hle
          simp; omega))
        clear hxp hfin
        go_wp2
        go_ret
        exact ⟨_, _, _, rfl, by rw [HF.out, List.length_take, List.length_drop, HQ.out]; have := HN.out; omega, hqn, hqf, by rw [HF.out]; exact HC2.out, by trivial⟩
    · have HF := Lib.hid (hfin (fun i h h1 => by have := HN.out; omega))
      clear hfin
      go_wp2
      go_ret
      exact ⟨_, _, _, rfl, by rw [HF.out, List.length_take, List.length_drop, HQ.out]; have := HN.out; omega, hqn, hqf, by rw [HF.out]; exact HC2.out, by trivial⟩

set_option maxHeartbeats 4000000 in
theorem implFind5_any (l : List En) (p : Int) (a : Option Addr) (n c : Nat) (w : World) (hn : n = l.length) (hl : n ≤ 4194304) (hnc : n ≤ c) (hat : CellsAt w a (entsC l)) :
    Calls Try.prog 25 #[.slice a n c, .int .i64 p] w fun e w' => ∃ a' n' c', e = .returned (.slice a' n' c') ∧ One w w.heap.size w' 31 3 a' n' c' (entsC (findL5 l p)) := by
  by_cases hok : shOk l
  · have c1 := fun w h => implShelfOk_is true l a n c w ⟨fun _ => hok, fun _ => rfl⟩ hn hl h
    have c2 := fun w h => implEntries_any l p a n c w hn hl hnc (shOk_upI hok) h
    have HR := Lib.hid (findL5_ok hok p)
    have HAT := Lib.hid hat
    clear hn hok hat
    go_enter Try.func25, Try.ntmps25
    go_wp2_with fail
    refine (c1 _ HAT.out).mono ?_
    rintro e w2 ⟨rfl, hb2⟩
    have ha := (Below.refl w2.heap.size w2).alloc (Nat.le_refl _) (.cells #[] 31)
    have HAT3 := Lib.hid (HAT.out.below (hb2.trans (ha.mono hb2.size)))
    have d2 := c2 _ HAT3.out
    have hone := (One.empty w2 31 3).under hb2 hb2.size
    clear c1 c2 hb2 ha
    go_wp2_with fail
    refine d2.mono ?_
    rintro e w3 ⟨a2, q, f, rfl, hq, hqn, hqf, hc2, rfl⟩
    have HL1 := Lib.hid (show (entsC (l.filter (fun x => x.1 == p))).length = q * 3 by rw [entsC_len, hq])
    have HC2 := Lib.hid (hc2 _ HAT3.out)
    have q9 : q ≤ 4194304 := by omega
    clear hq hc2 d2
    go_wp2_with (at_builtin; refine wpList_append_src rfl (.tmp 8) (.tmp 11) 23 rfl Try.ulE5 Try.infoE5 rfl (by decide) hone rfl a2 q f rfl (entsC (l.filter (fun x => x.1 == p))) HL1.out HC2.out (entsC_one _) (by unfold maxLen; omega) (by omega) ?_; intro a5 c5 w5 h5)
    go_ret
    exact ⟨_, _, _, rfl, by rw [HR.out]; simpa using h5⟩
  · have c1 := fun w h => implShelfOk_is false l a n c w ⟨(fun h => absurd h (by decide)), (fun h => absurd h hok)⟩ hn hl h
    rw [findL5_not hok]
    have HAT := Lib.hid hat
    clear hn hok hat
    go_enter Try.func25, Try.ntmps25
    go_wp2_with fail
    refine (c1 _ HAT.out).mono ?_
    rintro e w2 ⟨rfl, hb2⟩
    clear c1
    go_wp2
    go_ret
    exact ⟨_, _, _, rfl, (One.nil w2 31 3).under hb2 hb2.size⟩

end Go.Proofs.Ytclblnkeakkdeaa

namespace Go.Proofs.Ytclblnkeakkdeaa
open Go.RowKit

/-- One record more at the end of a row, and where it lies then. -/
theorem run_append_sp {P : Program} {W w0 : World} {B : Nat} {e1 : TypeId} {s1 : Nat} {a1 : Option Addr} {n1 c1 : Nat} {xs1 : List Value} (t ty : TypeId)
    {z : Value} {bytes : Nat} (ht : P.underlying t = some (.slice e1)) (hinfo : (P.info? e1).map (fun i => (i.zero, i.size, i.bytes)) = some (some z, s1, bytes)) (hzs : z.cells.size = s1) (hsz : 0 < s1)
    (h2 : One W B w0 e1 s1 a1 n1 c1 xs1) (A : Option Addr) (m c : Nat) (news : List Value) (hm : news.length = m * s1) (hat : CellsAt w0 A news) (h1 : ∀ u ∈ news, u.oneCell' = true)
    (hm0 : 0 < m) (h63 : n1 + m ≤ maxLen) (hbytes : (n1 + m) * bytes ≤ 140737488355328) :
    ∃ ad' cap' w', (Builtin.append_ #[t, t] ty #[.slice a1 n1 c1, .slice A m c]).run P w0 = .ok (.slice ad' (n1 + m) cap') w' ∧ One W B w' e1 s1 ad' (n1 + m) cap' (xs1 ++ news) ∧ w0.grownBy w' (Value.ownBlock (.slice a1 n1 c1)) ∧ Spared w0 (.slice a1 n1 c1) (.slice ad' (n1 + m) cap') := by
  obtain ⟨i, hi, hz, hsi, hby⟩ := info_parts hinfo
  have hne : news ≠ [] := fun e => by
    rw [e] at hm
    have := Nat.mul_pos hm0 hsz
    simp at hm
    omega
  obtain ⟨b, o, rfl, _, hc⟩ := hat.spot hne
  have hcells : ∀ j u, news[j]? = some u → w0.cell? ((⟨b, o, none⟩ : Addr).add j) = some u := fun j u hu => by
    rw [Addr.add_lit]
    exact hc j u hu
  obtain ⟨v', w', hr, hown', hg', _⟩ := run_append_own (P := P) w0 B t ty e1 i z s1 bytes ht hi hz hsi hby hzs hsz _ n1 xs1 h2.own ⟨b, o, none⟩ m c news hm hcells h1 h63 hbytes h2.base
  have hsp := append_spared (P := P) w0 B t ty e1 i z s1 bytes ht hi hz hsi hby hsz _ n1 xs1 h2.own ⟨b, o, none⟩ m c news hm hcells h1 hm0 h63 hbytes v' w' hr
  obtain ⟨a', c', rfl⟩ := ownsRow_shape hown'
  exact ⟨a', c', w', hr, ⟨hown', Nat.le_trans h2.base hg'.size, below_grown_own h2.below h2.own hg' (Nat.le_refl _) h2.base⟩, hg', hsp⟩
theorem step_append_sp {P : Program} {ops : Array Oper} {o : Oper} {act : Act} {K : Act → World → Prop} {Q : Exit → Act → World → Prop} {E : Prop} {w0 : World} (W : World) (B : Nat) {e1 : TypeId} {s1 : Nat} (a1 : Option Addr) (n1 c1 : Nat) (xs1 : List Value)
    (A : Option Addr) (m c : Nat) (news : List Value)
    (hgd : o.guard = none) (s x : Operand) (t : TypeId) (ho : o.op = .call { callee := .builtin .append, args := #[s, x], argTypes := #[t, t] })
    (hs : act.eval s = .slice a1 n1 c1) (hx : act.eval x = .slice A m c)
    {z : Value} {bytes : Nat} (ht : P.underlying t = some (.slice e1)) (hinfo : (P.info? e1).map (fun i => (i.zero, i.size, i.bytes)) = some (some z, s1, bytes)) (hzs : z.cells.size = s1) (hsz : 0 < s1)
    (hm : news.length = m * s1) (h1 : ∀ u ∈ news, u.oneCell' = true) (hm0 : 0 < m) (h63 : n1 + m ≤ maxLen) (hbytes : (n1 + m) * bytes ≤ 140737488355328)
    (h2 : One W B w0 e1 s1 a1 n1 c1 xs1) (hat : CellsAt w0 A news)
    (h : ∀ ad' cap' w', One W B w' e1 s1 ad' (n1 + m) cap' (xs1 ++ news) → w0.grownBy w' (Value.ownBlock (.slice a1 n1 c1)) → Spared w0 (.slice a1 n1 c1) (.slice ad' (n1 + m) cap') → K (act.put o.dst (.slice ad' (n1 + m) cap')) w') :
    if Region.wanted o (yielded ops act.tmps) = true then Oper.wp P o act w0 K Q else E := by
  have hw : Region.wanted o (yielded ops act.tmps) = true := by simp [Region.wanted, hgd]
  rw [if_pos hw]
  obtain ⟨ad', cap', w', hr, h3, h4, h5⟩ := run_append_sp (P := P) t o.type ht hinfo hzs hsz h2 A m c news hm hat h1 hm0 h63 hbytes
  unfold Oper.wp execOp
  simp only [ho, resolve, invoke, builtin, Sem.run_bind, Sem.run_pure, Result.andThen_ok, List.map_toArray, List.map_cons, List.map_nil, hs, hx, hr]
  exact h ad' cap' w' h3 h4 h5

abbrev Sl := Option Addr × Nat × Nat
def slV (x : Sl) : Value := .slice x.1 x.2.1 x.2.2
def rowsV (n : Nat) (A : Nat → Sl) : List Value := (List.range n).map fun d => slV (A d)
theorem rowsV_get {n : Nat} {A : Nat → Sl} {d : Nat} (h : d < n) : (rowsV n A)[d]? = some (slV (A d)) := by simp [rowsV, h]
theorem rowsV_len (n : Nat) (A : Nat → Sl) : (rowsV n A).length = n := by simp [rowsV]
theorem rowsV_set {n : Nat} {A A' : Nat → Sl} {d : Nat} (h1 : ∀ e, e < n → e ≠ d → A' e = A e) : (rowsV n A).set d (slV (A' d)) = rowsV n A' := by
  apply List.ext_getElem
  · simp [rowsV]
  · intro e h2 h3
    have he : e < n := by simpa [rowsV] using h3
    by_cases hed : e = d
    · subst hed; simp [rowsV]
    · rw [List.getElem_set_ne (fun e => hed e.symm)]
      simp [rowsV, h1 e he hed]

/-- A row of rows of pairs. -/
structure TwRows (W : World) (B : Nat) (w : World) (g n : Nat) (A : Nat → Sl) (F : Nat → List (Int × Int)) : Prop where
  outer : w.heap[g]? = some (.cells (rowsV n A).toArray 47 (0, 0))
  base : B ≤ g
  inner : ∀ d, d < n → w.ownsRow B 101 2 (slV (A d)) (A d).2.1 (pairsC (F d))
  apart : ∀ d e, d < n → e < n → d ≠ e → ∀ b, (slV (A d)).ownBlock = some b → (slV (A e)).ownBlock ≠ some b
  apart0 : ∀ d, d < n → (slV (A d)).ownBlock ≠ some g
  room : B ≤ w.heap.size
  below : Below B W w

theorem TwRows.lt {W : World} {B : Nat} {w : World} {g n : Nat} {A : Nat → Sl} {F : Nat → List (Int × Int)} (h : TwRows W B w g n A F) : g < w.heap.size := (Array.getElem?_eq_some_iff.1 h.outer).1
theorem TwRows.later {W : World} {B : Nat} {w w' : World} {g n : Nat} {A : Nat → Sl} {F : Nat → List (Int × Int)} (h : TwRows W B w g n A F) (hb : Below w.heap.size w w') : TwRows W B w' g n A F :=
  ⟨(hb.block g h.lt).trans h.outer, h.base, fun d hd => ownsRow_below (h.inner d hd) hb, h.apart, h.apart0, Nat.le_trans h.room hb.size, h.below.trans (hb.mono h.room)⟩
theorem TwRows.cell {W : World} {B : Nat} {w : World} {g n : Nat} {A : Nat → Sl} {F : Nat → List (Int × Int)} (h : TwRows W B w g n A F) {d : Nat} (hd : d < n) : w.cell? ⟨g, d, none⟩ = some (slV (A d)) := by
  rw [cell_of_row w g d _ 47 (0, 0) h.outer]
  simpa using rowsV_get (A := A) hd
theorem TwRows.frozen {W : World} {B : Nat} {w : World} {g n : Nat} {A : Nat → Sl} {F : Nat → List (Int × Int)} (h : TwRows W B w g n A F) (d : Nat) : w.frozen? ⟨g, d, none⟩ = false := by simp [World.frozen?, h.outer]
theorem TwRows.one {W : World} {B : Nat} {w : World} {g n : Nat} {A : Nat → Sl} {F : Nat → List (Int × Int)} (h : TwRows W B w g n A F) {d : Nat} (hd : d < n) : One W B w 101 2 (A d).1 (A d).2.1 (A d).2.2 (pairsC (F d)) := ⟨h.inner d hd, h.room, h.below⟩
theorem TwRows.congr {W : World} {B : Nat} {w : World} {g n : Nat} {A : Nat → Sl} {F F' : Nat → List (Int × Int)} (h : TwRows W B w g n A F) (hF : ∀ d, d < n → F' d = F d) : TwRows W B w g n A F' :=
  ⟨h.outer, h.base, fun d hd => by rw [hF d hd]; exact h.inner d hd, h.apart, h.apart0, h.room, h.below⟩
/-- One record more in one of the rows. -/
theorem TwRows.step {W : World} {B : Nat} {w w' : World} {g n : Nat} {A A' : Nat → Sl} {F F' : Nat → List (Int × Int)} (h : TwRows W B w g n A F) {d : Nat} (hd : d < n)
    (hown : w'.ownsRow B 101 2 (slV (A' d)) (A' d).2.1 (pairsC (F' d))) (hg : w.grownBy w' (slV (A d)).ownBlock) (hs : Spared w (slV (A d)) (slV (A' d)))
    (hA : ∀ e, e < n → e ≠ d → A' e = A e) (hF : ∀ e, e < n → e ≠ d → F' e = F e) : TwRows W B (w'.setCell ⟨g, d, none⟩ (slV (A' d))) g n A' F' := by
  have hgw : g < w.heap.size := h.lt
  have h0 : w'.heap[g]? = some (.cells (rowsV n A).toArray 47 (0, 0)) := (hg.block g hgw (fun e => h.apart0 d hd e.symm)).trans h.outer
  have hG : w'.grownBy (w'.setCell ⟨g, d, none⟩ (slV (A' d))) (some g) := ⟨rfl, rfl, rfl, by simp [World.setCell], fun k _ hk => Below.heap_setCell _ _ _ _ (fun e => hk (by simp [e]))⟩
  have hnew : (slV (A' d)).ownBlock ≠ some g := hs g hgw (h.apart0 d hd)
  have hB1 : Below B W w' := h.below.grown hg h.room (fun k hk => ((h.inner d hd).lt k hk).1)
  refine ⟨?_, h.base, fun e he => ?_, fun e f he hf hef b hb => ?_, fun e he => ?_, Nat.le_trans h.room (Nat.le_trans hg.size hG.size), hB1.grown hG (Nat.le_trans h.room hg.size) (fun k hk => by injection hk with hk; subst hk; exact h.base)⟩
  · rw [← rowsV_set hA]
    simp only [World.setCell, Array.getElem?_modify, h0, if_true, Option.map_some]
    simp
  · by_cases hed : e = d
    · subst hed
      exact hown.kept hG (.inr hnew)
    · rw [hA e he hed, hF e he hed]
      have h1 : (slV (A e)).ownBlock = none ∨ (slV (A e)).ownBlock ≠ (slV (A d)).ownBlock := by
        cases hb : (slV (A e)).ownBlock with
        | none => exact .inl rfl
        | some b => exact .inr (fun e2 => h.apart e d he hd hed b hb e2.symm)
      exact ((h.inner e he).kept hg h1).kept hG (.inr (h.apart0 e he))
  · by_cases hed : e = d
    · subst hed
      have hfe : f ≠ e := fun e2 => hef e2.symm
      rw [hA f hf hfe]
      intro hb2
      have h2 := ((h.inner f hf).lt b hb2).2
      exact hs b h2 (fun e3 => h.apart f e hf he hfe b hb2 e3) hb
    · rw [hA e he hed] at hb
      by_cases hfd : f = d
      · subst hfd
        have h2 := ((h.inner e he).lt b hb).2
        exact hs b h2 (fun e3 => h.apart e f he hf hed b hb e3)
      · rw [hA f hf hfd]
        exact h.apart e f he hf hef b hb
  · by_cases hed : e = d
    · subst hed; exact hnew
    · rw [hA e he hed]; exact h.apart0 e he

/-- Twins by texts, when so many marks and so many entries of the mark at hand have been seen. -/
def twF (L : List En) (M : List (Int × Int)) (q : Nat) (E : List En) (y : Int) (e d : Nat) : List (Int × Int) := twOf L (M.take q) (d : Int) ++ ((E.take e).filter fun x => x.2.1 == (d : Int)).map fun x => (x.2.2, y)
theorem twF_start (L : List En) (M : List (Int × Int)) (q : Nat) (E : List En) (y : Int) (d : Nat) : twF L M q E y 0 d = twOf L (M.take q) (d : Int) := by simp [twF]
theorem twF_end {L : List En} {M : List (Int × Int)} {q : Nat} (hq : q < M.length) {E : List En} {p y : Int} (hm : M[q] = (p, y)) (hE : withP L p = E) (d : Nat) : twF L M q E y E.length d = twOf L (M.take (q + 1)) (d : Int) := by
  rw [twF, List.take_length, twOf, twOf, List.take_succ_eq_append_getElem hq, List.flatMap_append, hm]
  simp [hE]
theorem twF_yes {L : List En} {M : List (Int × Int)} {q : Nat} {E : List En} {y : Int} {e : Nat} (he : e < E.length) {x1 x2 x3 : Int} (hx : E[e] = (x1, x2, x3)) {d : Nat} (hd : x2 = (d : Int)) : twF L M q E y (e + 1) d = twF L M q E y e d ++ [(x3, y)] := by
  rw [twF, twF, List.take_succ_eq_append_getElem he, List.filter_append, List.map_append, hx, List.append_assoc]
  simp [hd]
theorem twF_no {L : List En} {M : List (Int × Int)} {q : Nat} {E : List En} {y : Int} {e : Nat} (he : e < E.length) {x1 x2 x3 : Int} (hx : E[e] = (x1, x2, x3)) {d : Nat} (hd : x2 ≠ (d : Int)) : twF L M q E y (e + 1) d = twF L M q E y e d := by
  rw [twF, twF, List.take_succ_eq_append_getElem he, List.filter_append, List.map_append, hx]
  simp [hd]
theorem twF_len {L : List En} {M : List (Int × Int)} {q : Nat} (hq : q < M.length) {E : List En} {y : Int} {e d : Nat} (hE : E.length ≤ L.length) : (twF L M q E y e d).length ≤ M.length * L.length := by
  rw [twF, List.length_append, List.length_map]
  have h1 := twOf_len L (M.take q) (d : Int)
  have h2 := List.length_filter_le (fun x : En => x.2.1 == (d : Int)) (E.take e)
  rw [List.length_take] at h1 h2
  have h3 : (min q M.length + 1) * L.length ≤ M.length * L.length := Nat.mul_le_mul (by omega) (Nat.le_refl _)
  rw [Nat.succ_mul] at h3
  omega

end Go.Proofs.Ytclblnkeakkdeaa
