/-
  The contracts of the program's functions ShelfLose, firstOfPrint, entriesOfPrint and ShelfFind. Condition: rows have at most 2^22 entries.
  Rows of rows that the call itself made: a row of slices, each of which is a row of its own. No program is read but for its types. No conditions.
  The contracts of the program's functions twinsByText and AskShelf. Conditions: texts have at most 2^20 bytes together, a shelf has at most 2^20 entries.
  Plain mathematics of chapter 1 (what a byte becomes); nothing of the program is read here. No conditions.
  The contracts of the functions SignOf (the program's and the model's): at every number they return what 'signOf' says, and leave the world alone. No conditions.
  The contracts of the laws' own helpers over slices of int: eqIntS (are they equal), markIntS (write ascending numbers), heldIntS (are they still there). Conditions: fewer than 2^40 elements; markIntS: the slice is the call's own.
  The contracts of the laws' own helpers over texts: markText (a text for a number), eqStringS, markStringS, heldStringS, szStringS, toStringS. Conditions: fewer than 2^40 elements; what is marked is the call's own.
  The contracts of the laws' helpers over slices of ints and of texts, in one form for all laws (numbers as Nat, worlds by Below); and the laws' copy of a slice of ints, and its room. Conditions: fewer than 2^38 elements.
  What is told of slices that came in: their cells, as a list of values. No program is read here. No conditions.
-/
import Derived.Test.YtbnagmjhdnnheaaMg7
import Derived.Test.YtbnagmjhdnnheaaMg6
import Derived.Test.YtbnagmjhdnnheaaMg2
import Derived.Test.YtbnagmjhdnnheaaMg5
import Derived.Deep.RegionHeld3
import Derived.WalkKit
import Derived.Test.YtbnagmjhdnnheaaProg
import Derived.Test.YtbnagmjhdnnheaaMg1
import Derived.Lib.Hide
import Derived.Deep.QuietTactic
import Derived.BigQuiet
import Derived.Deep.DeepFit
import Derived.IntWalk
import Derived.Deep.Slices
import Derived.Deep.Fields
import Derived.ChangeSame
namespace Go.Proofs.Ytbnagmjhdnnheaa
open Go.RowKit


theorem shOk_upI {l : List En} (h : shOk l) : UpI (prL l) := fun i j hij hj => by
  rw [prL_len] at hj
  rw [prL_get l i (by omega), prL_get l j hj]
  exact shOk_prints h i j hij hj

set_option maxHeartbeats 4000000 in
theorem implFirst_any (l : List En) (p : Int) (a : Option Addr) (n c : Nat) (w : World) (hn : n = l.length) (hl : n ≤ 4194304) (hu : UpI (prL l)) (hat : CellsAt w a (entsC l)) :
    Calls Try.prog 86 #[.slice a n c, .int .i64 p] w fun e w' => e = .returned (.int .i64 (posI (prL l) p : Nat)) ∧ w = w' := by
  have HS := Lib.hid (show ∀ i j (hij : i ≤ j) (hj : j < l.length), (l[i]'(by omega)).1 ≤ l[j].1 from fun i j hij hj => by
    have h := hu i j hij (by rw [prL_len]; exact hj)
    rwa [prL_get l i (by omega), prL_get l j hj] at h)
  have HN := Lib.hid hn
  have HAT := Lib.hid hat
  clear hn hu hat
  go_enter Try.func86, Try.ntmps86
  go_wp2
  go_loopw [5, 6] (fun lo_ hi_ wr => ∃ lo hi : Nat, lo ≤ hi ∧ hi ≤ n ∧ lo_ = .int .i64 lo ∧ hi_ = .int .i64 hi ∧ Hid (∀ i (h : i < l.length), i < lo → l[i].1 < p) ∧ Hid (∀ i (h : i < l.length), hi ≤ i → p ≤ l[i].1) ∧ Hid (wr = w)) (fun lo_ hi_ _ => (intOf hi_).toNat - (intOf lo_).toNat)
  case atStart => exact ⟨0, n, Nat.zero_le _, Nat.le_refl _, rfl, rfl, Lib.hid (fun i h h2 => absurd h2 (Nat.not_lt_zero _)), Lib.hid (fun i h h2 => by have := HN.out; omega), Lib.hid rfl⟩
  case round =>
    obtain ⟨lo, hi, hlh, hhn, rfl, rfl, HLo, HHi, HW⟩ := hrel
    obtain rfl := HW.out
    by_cases hlt : lo < hi
    · obtain ⟨g, hg⟩ : ∃ g, (hi - lo) / 2 = g := ⟨_, rfl⟩
      have em := half_of lo hi g hg hlh
      have hm2 : lo + g < hi := by omega
      have hml : lo + g < l.length := by have := HN.out; omega
      obtain ⟨x, hx⟩ : ∃ x, (l[lo + g]'hml).1 = x := ⟨_, rfl⟩
      obtain ⟨y, hy⟩ : ∃ y, (l[lo + g]'hml).2.1 = y := ⟨_, rfl⟩
      obtain ⟨z, hz⟩ : ∃ z, (l[lo + g]'hml).2.2 = z := ⟨_, rfl⟩
      have hmm : l[lo + g]'hml = (x, y, z) := by rw [← hx, ← hy, ← hz]
      obtain ⟨b, o, rfl, hb9, g1, g2, g3⟩ := ent_cells HAT.out hml hmm
      have z0 : (0 : Int) ≤ (lo : Int) + (g : Int) := by omega
      have z1 : (lo : Int) + (g : Int) < (n : Int) := by omega
      have z2 : ((lo : Int) + (g : Int)).toNat = lo + g := by omega
      have HX := Lib.hid hx
      clear hg hx hy hz hmm
      by_cases hxp : x < p
      · have HL2 := Lib.hid (show ∀ i (h : i < l.length), i < lo + g + 1 → l[i].1 < p from fun i h h2 => by
          have h3 := HS.out i (lo + g) (by omega) hml
          have := HX.out
          omega)
        clear HLo
        go_wp2
        go_roundw
        case rel => exact ⟨lo + g + 1, hi, by omega, hhn, by go_num, rfl, HL2, HHi, Lib.hid (by trivial)⟩
        case measure => simp [intOf]; omega
      · have HH2 := Lib.hid (show ∀ i (h : i < l.length), lo + g ≤ i → p ≤ l[i].1 from fun i h h2 => by
          have h3 := HS.out (lo + g) i h2 h
          have := HX.out
          omega)
        clear HHi
        go_wp2
        go_roundw
        case rel => exact ⟨lo, lo + g, by omega, by omega, rfl, by go_num, HLo, HH2, Lib.hid (by trivial)⟩
        case measure => simp [intOf]; omega
    · obtain rfl : lo = hi := by omega
      have hpos : posI (prL l) p = lo := posI_is (by rw [prL_len]; have := HN.out; omega)
        (fun i h h2 => by rw [prL_len] at h; rw [prL_get l i h]; exact HLo.out i h h2)
        (fun h => by rw [prL_len] at h; rw [prL_get l lo h]; exact HHi.out lo h (Nat.le_refl _))
      have HP := Lib.hid hpos
      clear hpos
      go_wp2
      go_ret
      exact ⟨(congrArg (fun z : Nat => Ending.returned (Value.int .i64 (z : Int))) HP.out).symm, rfl⟩

theorem run_snoc {l : List En} {lo e : Nat} (hle : lo ≤ e) (he : e < l.length) : (l.drop lo).take (e + 1 - lo) = (l.drop lo).take (e - lo) ++ [l[e]] := by
  have h : e - lo < (l.drop lo).length := by rw [List.length_drop]; omega
  have h2 := List.take_succ_eq_append_getElem h
  rw [show e + 1 - lo = e - lo + 1 by omega, h2]
  congr 2
  rw [List.getElem_drop]
  congr 1
  omega

/-- A part of a slice of entries. -/
theorem ents_cut (a : Option Addr) (n c lo hi : Nat) (h1 : lo ≤ hi) (h2 : hi ≤ n) (hnc : n ≤ c) : ∃ a2 q f, q = hi - lo ∧ q ≤ f ∧ f ≤ c ∧ (∀ w, (Instr.slice 24 (.slice a n c) (some (.int .i64 lo)) (some (.int .i64 hi)) none).run Try.prog w = .ok (.slice a2 q f) w) ∧
    ∀ (w : World) (l : List En), n = l.length → CellsAt w a (entsC l) → CellsAt w a2 (entsC ((l.drop lo).take (hi - lo))) := by
  refine ⟨if c = lo then a else a.map (·.add (lo * 3)), hi - lo, c - lo, rfl, by omega, by omega, fun w => ?_, fun w l hn h => ?_⟩
  · have h := run_slice_lh (P := Try.prog) (w := w) 24 a n c Try.elE5 .i64 .i64 (lo : Int) (hi : Int) (by omega) (by omega) (by omega)
    rw [h, Try.sizeE5]
    simp [Result.andThen, sliced]
  · have h3 := h.from_ n c lo 3 (by decide) (by rw [entsC_len, hn]) hnc
    rw [entsC_drop] at h3
    rw [← entsC_take]
    exact h3.upTo ((hi - lo) * 3)

set_option maxHeartbeats 4000000 in
theorem implEntries_any (l : List En) (p : Int) (a : Option Addr) (n c : Nat) (w : World) (hn : n = l.length) (hl : n ≤ 4194304) (hnc : n ≤ c) (hu : UpI (prL l)) (hat : CellsAt w a (entsC l)) :
    Calls Try.prog 55 #[.slice a n c, .int .i64 p] w fun e w' => ∃ a2 q f, e = .returned (.slice a2 q f) ∧ q = (l.filter (fun x => x.1 == p)).length ∧ q ≤ n ∧ q ≤ f ∧ (∀ w2, CellsAt w2 a (entsC l) → CellsAt w2 a2 (entsC (l.filter (fun x => x.1 == p)))) ∧ w = w' := by
  have c2 := fun w h => implFirst_any l p a n c w hn hl hu h
  have HS := Lib.hid (show ∀ i j (hij : i ≤ j) (hj : j < l.length), (l[i]'(by omega)).1 ≤ l[j].1 from fun i j hij hj => by
    have h := hu i j hij (by rw [prL_len]; exact hj)
    rwa [prL_get l i (by omega), prL_get l j hj] at h)
  have HN := Lib.hid hn
  have HAT := Lib.hid hat
  obtain ⟨lo, hlo⟩ : ∃ lo, posI (prL l) p = lo := ⟨_, rfl⟩
  have hlon : lo ≤ n := by rw [← hlo, hn, ← prL_len]; exact posI_le _ _
  have HLo := Lib.hid (show ∀ i (h : i < l.length), i < lo → l[i].1 < p from fun i h h2 => by
    have h3 := posI_lt (l := prL l) (p := p) (i := i) (by rw [hlo]; exact h2) (by rw [prL_len]; exact h)
    rwa [prL_get l i h] at h3)
  have HHi := Lib.hid (show ∀ i (h : i < l.length), lo ≤ i → p ≤ l[i].1 from fun i h h2 => by
    have h3 := upI_pos hu (p := p) (k := i) (by rw [prL_len]; exact h) (by rw [hlo]; exact h2)
    rwa [prL_get l i h] at h3)
  rw [hlo] at c2
  clear hn hu hat hlo
  go_enter Try.func55, Try.ntmps55
  go_wp2_with fail
  refine (c2 _ HAT.out).mono ?_
  rintro e w3 ⟨rfl, rfl⟩
  clear c2
  go_wp2
  go_loopw [6] (fun e_ wr => ∃ e : Nat, lo ≤ e ∧ e ≤ n ∧ e_ = .int .i64 e ∧ Hid (∀ i (h : i < l.length), lo ≤ i → i < e → l[i].1 = p) ∧ Hid (wr = w)) (fun e_ _ => n - (intOf e_).toNat)
  case atStart => exact ⟨lo, Nat.le_refl _, hlon, rfl, Lib.hid (fun i h h1 h2 => by omega), Lib.hid rfl⟩
  case round =>
    obtain ⟨e, hle, hen, rfl, HE, HW⟩ := hrel
    obtain rfl := HW.out
    clear HW
    have hfin : (∀ i (h : i < l.length), e ≤ i → (l[i].1 == p) = false) → l.filter (fun x => x.1 == p) = (l.drop lo).take (e - lo) := fun h3 => filter_run hle (by have := HN.out; omega)
      (fun i h h1 => by have := HLo.out i h h1; simp; omega) (fun i h h1 h2 => by have := HE.out i h h1 h2; simpa using this) h3
    obtain ⟨a2, q, f, hq, hqf, hfc, sl, hc2⟩ := ents_cut a n c lo e hle hen hnc
    have HQ := Lib.hid hq
    have HC2 := Lib.hid (fun w2 (h : CellsAt w2 a (entsC l)) => hc2 w2 l HN.out h)
    have hqn : q ≤ n := by omega
    have zl : (lo : Int) ≤ (e : Int) := by omega
    clear hq hc2 hfc
    by_cases hlt2 : e < n
    · have hel : e < l.length := by have := HN.out; omega
      obtain ⟨x, hx⟩ : ∃ x, l[e].1 = x := ⟨_, rfl⟩
      obtain ⟨y, hy⟩ : ∃ y, l[e].2.1 = y := ⟨_, rfl⟩
      obtain ⟨z, hz⟩ : ∃ z, l[e].2.2 = z := ⟨_, rfl⟩
      have hmm : l[e] = (x, y, z) := by rw [← hx, ← hy, ← hz]
      obtain ⟨b, o, rfl, hb9, g1, g2, g3⟩ := ent_cells HAT.out hel hmm
      have z0 : (0 : Int) ≤ (e : Int) := by omega
      have z1 : (e : Int) < (n : Int) := by omega
      have HX := Lib.hid hx
      clear hx hy hz hmm
      by_cases hxp : x = p
      · have t1 : (x == p) = true := by rw [hxp]; exact beq_self_eq_true _
        have HE2 := Lib.hid (show ∀ i (h : i < l.length), lo ≤ i → i < e + 1 → l[i].1 = p from fun i h h1 h2 => by
          by_cases h3 : i = e
          · subst h3; exact HX.out.trans hxp
          · exact HE.out i h h1 (by omega))
        clear hxp HE hfin
        go_wp2
        go_roundw
        case rel => exact ⟨e + 1, by omega, by omega, by go_num, HE2, Lib.hid (by trivial)⟩
        case measure => simp [intOf]; omega
      · have t1 : (x == p) = false := by simpa using hxp
        have HF := Lib.hid (hfin (fun i h h1 => by
          have h2 := HS.out e i h1 h
          have h3 := HX.out
          have h4 := HHi.out e hel hle
          simp; omega))
        clear hxp hfin
        go_wp2
        go_ret
        exact ⟨_, _, _, rfl, by rw [HF.out, List.length_take, List.length_drop, HQ.out]; have := HN.out; omega, hqn, hqf, by rw [HF.out]; exact HC2.out, by trivial⟩
    · have HF := Lib.hid (hfin (fun i h h1 => by have := HN.out; omega))
      clear hfin
      go_wp2
      go_ret
      exact ⟨_, _, _, rfl, by rw [HF.out, List.length_take, List.length_drop, HQ.out]; have := HN.out; omega, hqn, hqf, by rw [HF.out]; exact HC2.out, by trivial⟩

set_option maxHeartbeats 4000000 in
theorem implFind5_any (l : List En) (p : Int) (a : Option Addr) (n c : Nat) (w : World) (hn : n = l.length) (hl : n ≤ 4194304) (hnc : n ≤ c) (hat : CellsAt w a (entsC l)) :
    Calls Try.prog 14 #[.slice a n c, .int .i64 p] w fun e w' => ∃ a' n' c', e = .returned (.slice a' n' c') ∧ One w w.heap.size w' 68 3 a' n' c' (entsC (findL5 l p)) := by
  by_cases hok : shOk l
  · have c1 := fun w h => implShelfOk_is true l a n c w ⟨fun _ => hok, fun _ => rfl⟩ hn hl h
    have c2 := fun w h => implEntries_any l p a n c w hn hl hnc (shOk_upI hok) h
    have HR := Lib.hid (findL5_ok hok p)
    have HAT := Lib.hid hat
    clear hn hok hat
    go_enter Try.func14, Try.ntmps14
    go_wp2_with fail
    refine (c1 _ HAT.out).mono ?_
    rintro e w2 ⟨rfl, hb2⟩
    have ha := (Below.refl w2.heap.size w2).alloc (Nat.le_refl _) (.cells #[] 68)
    have HAT3 := Lib.hid (HAT.out.below (hb2.trans (ha.mono hb2.size)))
    have d2 := c2 _ HAT3.out
    have hone := (One.empty w2 68 3).under hb2 hb2.size
    clear c1 c2 hb2 ha
    go_wp2_with fail
    refine d2.mono ?_
    rintro e w3 ⟨a2, q, f, rfl, hq, hqn, hqf, hc2, rfl⟩
    have HL1 := Lib.hid (show (entsC (l.filter (fun x => x.1 == p))).length = q * 3 by rw [entsC_len, hq])
    have HC2 := Lib.hid (hc2 _ HAT3.out)
    have q9 : q ≤ 4194304 := by omega
    clear hq hc2 d2
    go_wp2_with (at_builtin; refine wpList_append_src rfl (.tmp 8) (.tmp 11) 24 rfl Try.ulE5 Try.infoE5 rfl (by decide) hone rfl a2 q f rfl (entsC (l.filter (fun x => x.1 == p))) HL1.out HC2.out (entsC_one _) (by unfold maxLen; omega) (by omega) ?_; intro a5 c5 w5 h5)
    go_ret
    exact ⟨_, _, _, rfl, by rw [HR.out]; simpa using h5⟩
  · have c1 := fun w h => implShelfOk_is false l a n c w ⟨(fun h => absurd h (by decide)), (fun h => absurd h hok)⟩ hn hl h
    rw [findL5_not hok]
    have HAT := Lib.hid hat
    clear hn hok hat
    go_enter Try.func14, Try.ntmps14
    go_wp2_with fail
    refine (c1 _ HAT.out).mono ?_
    rintro e w2 ⟨rfl, hb2⟩
    clear c1
    go_wp2
    go_ret
    exact ⟨_, _, _, rfl, (One.nil w2 68 3).under hb2 hb2.size⟩

end Go.Proofs.Ytbnagmjhdnnheaa

namespace Go.Proofs.Ytbnagmjhdnnheaa
open Go.RowKit

/-- One record more at the end of a row, and where it lies then. -/
theorem run_append_sp {P : Program} {W w0 : World} {B : Nat} {e1 : TypeId} {s1 : Nat} {a1 : Option Addr} {n1 c1 : Nat} {xs1 : List Value} (t ty : TypeId)
    {z : Value} {bytes : Nat} (ht : P.underlying t = some (.slice e1)) (hinfo : (P.info? e1).map (fun i => (i.zero, i.size, i.bytes)) = some (some z, s1, bytes)) (hzs : z.cells.size = s1) (hsz : 0 < s1)
    (h2 : One W B w0 e1 s1 a1 n1 c1 xs1) (A : Option Addr) (m c : Nat) (news : List Value) (hm : news.length = m * s1) (hat : CellsAt w0 A news) (h1 : ∀ u ∈ news, u.oneCell' = true)
    (hm0 : 0 < m) (h63 : n1 + m ≤ maxLen) (hbytes : (n1 + m) * bytes ≤ 140737488355328) :
    ∃ ad' cap' w', (Builtin.append_ #[t, t] ty #[.slice a1 n1 c1, .slice A m c]).run P w0 = .ok (.slice ad' (n1 + m) cap') w' ∧ One W B w' e1 s1 ad' (n1 + m) cap' (xs1 ++ news) ∧ w0.grownBy w' (Value.ownBlock (.slice a1 n1 c1)) ∧ Spared w0 (.slice a1 n1 c1) (.slice ad' (n1 + m) cap') := by
  obtain ⟨i, hi, hz, hsi, hby⟩ := info_parts hinfo
  have hne : news ≠ [] := fun e => by
    rw [e] at hm
    have := Nat.mul_pos hm0 hsz
    simp at hm
    omega
  obtain ⟨b, o, rfl, _, hc⟩ := hat.spot hne
  have hcells : ∀ j u, news[j]? = some u → w0.cell? ((⟨b, o, none⟩ : Addr).add j) = some u := fun j u hu => by
    rw [Addr.add_lit]
    exact hc j u hu
  obtain ⟨v', w', hr, hown', hg', _⟩ := run_append_own (P := P) w0 B t ty e1 i z s1 bytes ht hi hz hsi hby hzs hsz _ n1 xs1 h2.own ⟨b, o, none⟩ m c news hm hcells h1 h63 hbytes h2.base
  have hsp := append_spared (P := P) w0 B t ty e1 i z s1 bytes ht hi hz hsi hby hsz _ n1 xs1 h2.own ⟨b, o, none⟩ m c news hm hcells h1 hm0 h63 hbytes v' w' hr
  obtain ⟨a', c', rfl⟩ := ownsRow_shape hown'
  exact ⟨a', c', w', hr, ⟨hown', Nat.le_trans h2.base hg'.size, below_grown_own h2.below h2.own hg' (Nat.le_refl _) h2.base⟩, hg', hsp⟩
theorem step_append_sp {P : Program} {ops : Array Oper} {o : Oper} {act : Act} {K : Act → World → Prop} {Q : Exit → Act → World → Prop} {E : Prop} {w0 : World} (W : World) (B : Nat) {e1 : TypeId} {s1 : Nat} (a1 : Option Addr) (n1 c1 : Nat) (xs1 : List Value)
    (A : Option Addr) (m c : Nat) (news : List Value)
    (hgd : o.guard = none) (s x : Operand) (t : TypeId) (ho : o.op = .call { callee := .builtin .append, args := #[s, x], argTypes := #[t, t] })
    (hs : act.eval s = .slice a1 n1 c1) (hx : act.eval x = .slice A m c)
    {z : Value} {bytes : Nat} (ht : P.underlying t = some (.slice e1)) (hinfo : (P.info? e1).map (fun i => (i.zero, i.size, i.bytes)) = some (some z, s1, bytes)) (hzs : z.cells.size = s1) (hsz : 0 < s1)
    (hm : news.length = m * s1) (h1 : ∀ u ∈ news, u.oneCell' = true) (hm0 : 0 < m) (h63 : n1 + m ≤ maxLen) (hbytes : (n1 + m) * bytes ≤ 140737488355328)
    (h2 : One W B w0 e1 s1 a1 n1 c1 xs1) (hat : CellsAt w0 A news)
    (h : ∀ ad' cap' w', One W B w' e1 s1 ad' (n1 + m) cap' (xs1 ++ news) → w0.grownBy w' (Value.ownBlock (.slice a1 n1 c1)) → Spared w0 (.slice a1 n1 c1) (.slice ad' (n1 + m) cap') → K (act.put o.dst (.slice ad' (n1 + m) cap')) w') :
    if Region.wanted o (yielded ops act.tmps) = true then Oper.wp P o act w0 K Q else E := by
  have hw : Region.wanted o (yielded ops act.tmps) = true := by simp [Region.wanted, hgd]
  rw [if_pos hw]
  obtain ⟨ad', cap', w', hr, h3, h4, h5⟩ := run_append_sp (P := P) t o.type ht hinfo hzs hsz h2 A m c news hm hat h1 hm0 h63 hbytes
  unfold Oper.wp execOp
  simp only [ho, resolve, invoke, builtin, Sem.run_bind, Sem.run_pure, Result.andThen_ok, List.map_toArray, List.map_cons, List.map_nil, hs, hx, hr]
  exact h ad' cap' w' h3 h4 h5

abbrev Sl := Option Addr × Nat × Nat
def slV (x : Sl) : Value := .slice x.1 x.2.1 x.2.2
def rowsV (n : Nat) (A : Nat → Sl) : List Value := (List.range n).map fun d => slV (A d)
theorem rowsV_get {n : Nat} {A : Nat → Sl} {d : Nat} (h : d < n) : (rowsV n A)[d]? = some (slV (A d)) := by simp [rowsV, h]
theorem rowsV_len (n : Nat) (A : Nat → Sl) : (rowsV n A).length = n := by simp [rowsV]
theorem rowsV_set {n : Nat} {A A' : Nat → Sl} {d : Nat} (h1 : ∀ e, e < n → e ≠ d → A' e = A e) : (rowsV n A).set d (slV (A' d)) = rowsV n A' := by
  apply List.ext_getElem
  · simp [rowsV]
  · intro e h2 h3
    have he : e < n := by simpa [rowsV] using h3
    by_cases hed : e = d
    · subst hed; simp [rowsV]
    · rw [List.getElem_set_ne (fun e => hed e.symm)]
      simp [rowsV, h1 e he hed]

/-- A row of rows of pairs. -/
structure TwRows (W : World) (B : Nat) (w : World) (g n : Nat) (A : Nat → Sl) (F : Nat → List (Int × Int)) : Prop where
  outer : w.heap[g]? = some (.cells (rowsV n A).toArray 82 (0, 0))
  base : B ≤ g
  inner : ∀ d, d < n → w.ownsRow B 86 2 (slV (A d)) (A d).2.1 (pairsC (F d))
  apart : ∀ d e, d < n → e < n → d ≠ e → ∀ b, (slV (A d)).ownBlock = some b → (slV (A e)).ownBlock ≠ some b
  apart0 : ∀ d, d < n → (slV (A d)).ownBlock ≠ some g
  room : B ≤ w.heap.size
  below : Below B W w

theorem TwRows.lt {W : World} {B : Nat} {w : World} {g n : Nat} {A : Nat → Sl} {F : Nat → List (Int × Int)} (h : TwRows W B w g n A F) : g < w.heap.size := (Array.getElem?_eq_some_iff.1 h.outer).1
theorem TwRows.later {W : World} {B : Nat} {w w' : World} {g n : Nat} {A : Nat → Sl} {F : Nat → List (Int × Int)} (h : TwRows W B w g n A F) (hb : Below w.heap.size w w') : TwRows W B w' g n A F :=
  ⟨(hb.block g h.lt).trans h.outer, h.base, fun d hd => ownsRow_below (h.inner d hd) hb, h.apart, h.apart0, Nat.le_trans h.room hb.size, h.below.trans (hb.mono h.room)⟩
theorem TwRows.cell {W : World} {B : Nat} {w : World} {g n : Nat} {A : Nat → Sl} {F : Nat → List (Int × Int)} (h : TwRows W B w g n A F) {d : Nat} (hd : d < n) : w.cell? ⟨g, d, none⟩ = some (slV (A d)) := by
  rw [cell_of_row w g d _ 82 (0, 0) h.outer]
  simpa using rowsV_get (A := A) hd
theorem TwRows.frozen {W : World} {B : Nat} {w : World} {g n : Nat} {A : Nat → Sl} {F : Nat → List (Int × Int)} (h : TwRows W B w g n A F) (d : Nat) : w.frozen? ⟨g, d, none⟩ = false := by simp [World.frozen?, h.outer]
theorem TwRows.one {W : World} {B : Nat} {w : World} {g n : Nat} {A : Nat → Sl} {F : Nat → List (Int × Int)} (h : TwRows W B w g n A F) {d : Nat} (hd : d < n) : One W B w 86 2 (A d).1 (A d).2.1 (A d).2.2 (pairsC (F d)) := ⟨h.inner d hd, h.room, h.below⟩
theorem TwRows.congr {W : World} {B : Nat} {w : World} {g n : Nat} {A : Nat → Sl} {F F' : Nat → List (Int × Int)} (h : TwRows W B w g n A F) (hF : ∀ d, d < n → F' d = F d) : TwRows W B w g n A F' :=
  ⟨h.outer, h.base, fun d hd => by rw [hF d hd]; exact h.inner d hd, h.apart, h.apart0, h.room, h.below⟩
/-- One record more in one of the rows. -/
theorem TwRows.step {W : World} {B : Nat} {w w' : World} {g n : Nat} {A A' : Nat → Sl} {F F' : Nat → List (Int × Int)} (h : TwRows W B w g n A F) {d : Nat} (hd : d < n)
    (hown : w'.ownsRow B 86 2 (slV (A' d)) (A' d).2.1 (pairsC (F' d))) (hg : w.grownBy w' (slV (A d)).ownBlock) (hs : Spared w (slV (A d)) (slV (A' d)))
    (hA : ∀ e, e < n → e ≠ d → A' e = A e) (hF : ∀ e, e < n → e ≠ d → F' e = F e) : TwRows W B (w'.setCell ⟨g, d, none⟩ (slV (A' d))) g n A' F' := by
  have hgw : g < w.heap.size := h.lt
  have h0 : w'.heap[g]? = some (.cells (rowsV n A).toArray 82 (0, 0)) := (hg.block g hgw (fun e => h.apart0 d hd e.symm)).trans h.outer
  have hG : w'.grownBy (w'.setCell ⟨g, d, none⟩ (slV (A' d))) (some g) := ⟨rfl, rfl, rfl, by simp [World.setCell], fun k _ hk => Below.heap_setCell _ _ _ _ (fun e => hk (by simp [e]))⟩
  have hnew : (slV (A' d)).ownBlock ≠ some g := hs g hgw (h.apart0 d hd)
  have hB1 : Below B W w' := h.below.grown hg h.room (fun k hk => ((h.inner d hd).lt k hk).1)
  refine ⟨?_, h.base, fun e he => ?_, fun e f he hf hef b hb => ?_, fun e he => ?_, Nat.le_trans h.room (Nat.le_trans hg.size hG.size), hB1.grown hG (Nat.le_trans h.room hg.size) (fun k hk => by injection hk with hk; subst hk; exact h.base)⟩
  · rw [← rowsV_set hA]
    simp only [World.setCell, Array.getElem?_modify, h0, if_true, Option.map_some]
    simp
  · by_cases hed : e = d
    · subst hed
      exact hown.kept hG (.inr hnew)
    · rw [hA e he hed, hF e he hed]
      have h1 : (slV (A e)).ownBlock = none ∨ (slV (A e)).ownBlock ≠ (slV (A d)).ownBlock := by
        cases hb : (slV (A e)).ownBlock with
        | none => exact .inl rfl
        | some b => exact .inr (fun e2 => h.apart e d he hd hed b hb e2.symm)
      exact ((h.inner e he).kept hg h1).kept hG (.inr (h.apart0 e he))
  · by_cases hed : e = d
    · subst hed
      have hfe : f ≠ e := fun e2 => hef e2.symm
      rw [hA f hf hfe]
      intro hb2
      have h2 := ((h.inner f hf).lt b hb2).2
      exact hs b h2 (fun e3 => h.apart f e hf he hfe b hb2 e3) hb
    · rw [hA e he hed] at hb
      by_cases hfd : f = d
      · subst hfd
        have h2 := ((h.inner e he).lt b hb).2
        exact hs b h2 (fun e3 => h.apart e f he hf hed b hb e3)
      · rw [hA f hf hfd]
        exact h.apart e f he hf hef b hb
  · by_cases hed : e = d
    · subst hed; exact hnew
    · rw [hA e he hed]; exact h.apart0 e he

/-- Twins by texts, when so many marks and so many entries of the mark at hand have been seen. -/
def twF (L : List En) (M : List (Int × Int)) (q : Nat) (E : List En) (y : Int) (e d : Nat) : List (Int × Int) := twOf L (M.take q) (d : Int) ++ ((E.take e).filter fun x => x.2.1 == (d : Int)).map fun x => (x.2.2, y)
theorem twF_start (L : List En) (M : List (Int × Int)) (q : Nat) (E : List En) (y : Int) (d : Nat) : twF L M q E y 0 d = twOf L (M.take q) (d : Int) := by simp [twF]
theorem twF_end {L : List En} {M : List (Int × Int)} {q : Nat} (hq : q < M.length) {E : List En} {p y : Int} (hm : M[q] = (p, y)) (hE : withP L p = E) (d : Nat) : twF L M q E y E.length d = twOf L (M.take (q + 1)) (d : Int) := by
  rw [twF, List.take_length, twOf, twOf, List.take_succ_eq_append_getElem hq, List.flatMap_append, hm]
  simp [hE]
theorem twF_yes {L : List En} {M : List (Int × Int)} {q : Nat} {E : List En} {y : Int} {e : Nat} (he : e < E.length) {x1 x2 x3 : Int} (hx : E[e] = (x1, x2, x3)) {d : Nat} (hd : x2 = (d : Int)) : twF L M q E y (e + 1) d = twF L M q E y e d ++ [(x3, y)] := by
  rw [twF, twF, List.take_succ_eq_append_getElem he, List.filter_append, List.map_append, hx, List.append_assoc]
  simp [hd]
theorem twF_no {L : List En} {M : List (Int × Int)} {q : Nat} {E : List En} {y : Int} {e : Nat} (he : e < E.length) {x1 x2 x3 : Int} (hx : E[e] = (x1, x2, x3)) {d : Nat} (hd : x2 ≠ (d : Int)) : twF L M q E y (e + 1) d = twF L M q E y e d := by
  rw [twF, twF, List.take_succ_eq_append_getElem he, List.filter_append, List.map_append, hx]
  simp [hd]
theorem twF_len {L : List En} {M : List (Int × Int)} {q : Nat} (hq : q < M.length) {E : List En} {y : Int} {e d : Nat} (hE : E.length ≤ L.length) : (twF L M q E y e d).length ≤ M.length * L.length := by
  rw [twF, List.length_append, List.length_map]
  have h1 := twOf_len L (M.take q) (d : Int)
  have h2 := List.length_filter_le (fun x : En => x.2.1 == (d : Int)) (E.take e)
  rw [List.length_take] at h1 h2
  have h3 : (min q M.length + 1) * L.length ≤ M.length * L.length := Nat.mul_le_mul (by omega) (Nat.le_refl _)
  rw [Nat.succ_mul] at h3
  omega

end Go.Proofs.Ytbnagmjhdnnheaa

namespace Go.Proofs.Ytbnagmjhdnnheaa
open Go.RowKit

theorem Try.ulTT : Try.prog.underlying 102 = some (.slice 82) := by kernel_rfl
theorem Try.infoTT : (Try.prog.info? 82).map (fun i => (i.zero, i.size, i.bytes)) = some (some (.slice none 0 0), 1, 24) := by kernel_rfl
theorem Try.ulT8 : Try.prog.underlying 82 = some (.slice 86) := by kernel_rfl
theorem Try.infoT8 : (Try.prog.info? 86).map (fun i => (i.zero, i.size, i.bytes)) = some (some (.agg #[.int .i64 0, .int .i64 0]), 2, 16) := by kernel_rfl

theorem make_tw (w : World) (n : Nat) (hn : n ≤ 1048576) :
    ∃ w', (Instr.makeSlice 102 (.int .i64 (n : Int)) (.int .i64 (n : Int))).run Try.prog w = .ok (.slice (some ⟨w.heap.size, 0, none⟩) n n) w' ∧
      TwRows w w.heap.size w' w.heap.size n (fun _ => (none, 0, 0)) (fun _ => []) := by
  obtain ⟨i, hi, hz, hsi, hby⟩ := info_parts Try.infoTT
  obtain ⟨w', h1, h2, h3⟩ := run_make_full (P := Try.prog) w w.heap.size 102 82 i (.slice none 0 0) 1 Try.ulTT hi hz hsi .i64 .i64 n (by rw [hby]; omega) (by unfold maxLen; omega) (Nat.le_refl _)
  have hb : Below w.heap.size w w' := ⟨h3.os, h3.tape, h3.output, h3.size, fun k hk => h3.block k hk (by simp)⟩
  have h4 := One.whole (W := w) ⟨h2, h3.size, hb⟩
  refine ⟨w', h1, ?_, Nat.le_refl _, fun d _ => World.ownsRow_nil _ _ _ _, fun d e _ _ _ b hb => by simp [slV, Value.ownBlock] at hb, fun d _ => by simp [slV, Value.ownBlock], h3.size, hb⟩
  rw [h4]
  have e : (madeCells (Value.cells (.slice none 0 0)) (n * 1)).toList = rowsV n (fun _ => ((none, 0, 0) : Sl)) := by
    rw [Nat.mul_one]
    apply List.ext_getElem
    · simp [madeCells, rowsV]
    · intro k h1 h2
      have hk : k < n := by simpa [madeCells] using h1
      have hc : (Value.cells (.slice none 0 0)) = #[.slice none 0 0] := rfl
      simp [madeCells, rowsV, slV, hc, Nat.mod_one]
  rw [e]

/-- A block of the call's own beside rows of rows. -/
structure TwSide (w : World) (n : Nat) (A : Nat → Sl) (g : Nat) (e : TypeId) (b : Nat) (xs : List Value) : Prop where
  at_ : w.heap[b]? = some (.cells xs.toArray e (0, 0))
  ne : b ≠ g
  apart : ∀ d, d < n → (slV (A d)).ownBlock ≠ some b
theorem TwSide.lt {w : World} {n g b : Nat} {A : Nat → Sl} {e : TypeId} {xs : List Value} (h : TwSide w n A g e b xs) : b < w.heap.size := (Array.getElem?_eq_some_iff.1 h.at_).1
theorem TwSide.later {w w' : World} {n g b : Nat} {A : Nat → Sl} {e : TypeId} {xs : List Value} (h : TwSide w n A g e b xs) (hb : Below w.heap.size w w') : TwSide w' n A g e b xs := ⟨(hb.block b h.lt).trans h.at_, h.ne, h.apart⟩
theorem TwSide.cell {w : World} {n g b : Nat} {A : Nat → Sl} {e : TypeId} {xs : List Value} (h : TwSide w n A g e b xs) (j : Nat) (u : Value) (hj : xs[j]? = some u) : w.cell? ⟨b, j, none⟩ = some u := by
  rw [cell_of_row w b j _ e (0, 0) h.at_]
  simpa using hj
theorem TwSide.fresh {W : World} {B : Nat} {w : World} {g n : Nat} {A : Nat → Sl} {F : Nat → List (Int × Int)} (h : TwRows W B w g n A F) (e : TypeId) (xs : List Value) : TwSide (w.alloc (.cells xs.toArray e)) n A g e w.heap.size xs :=
  ⟨heap_alloc_new w _, fun e2 => by have := h.lt; omega, fun d hd hb => by have := ((h.inner d hd).lt _ hb).2; omega⟩
theorem TwSide.grown {w w' : World} {n g b d : Nat} {A : Nat → Sl} {e : TypeId} {xs : List Value} (h : TwSide w n A g e b xs) (hd : d < n) (hg : w.grownBy w' (slV (A d)).ownBlock) : w'.heap[b]? = some (.cells xs.toArray e (0, 0)) :=
  (hg.block b h.lt (fun e2 => h.apart d hd e2.symm)).trans h.at_
theorem TwSide.step {w w' : World} {n g b d : Nat} {A A' : Nat → Sl} {e : TypeId} {xs : List Value} (h : TwSide w n A g e b xs) (hd : d < n) (hg : w.grownBy w' (slV (A d)).ownBlock) (hs : Spared w (slV (A d)) (slV (A' d))) (hA : ∀ e, e < n → e ≠ d → A' e = A e) (v : Value) :
    TwSide (w'.setCell ⟨g, d, none⟩ v) n A' g e b xs := by
  refine ⟨(Below.heap_setCell _ _ _ _ h.ne).trans (h.grown hd hg), h.ne, fun f hf => ?_⟩
  by_cases hfd : f = d
  · subst hfd
    exact hs b h.lt (h.apart f hf)
  · rw [hA f hf hfd]
    exact h.apart f hf

set_option maxRecDepth 4000 in
set_option maxHeartbeats 16000000 in
theorem implTwins8_any (L : List En) (nD : Nat) (M : List (Int × Int)) (a : Option Addr) (nL cL : Nat) (b : Option Addr) (nM cM : Nat) (w : World) (hnL : nL = L.length) (hL9 : nL ≤ 1048576) (hcap : nL ≤ cL) (hu : UpI (prL L)) (h0 : ∀ x ∈ L, 0 ≤ x.2.1) (hnM : nM = M.length) (hM9 : nM ≤ 1048576) (hD9 : nD ≤ 1048576) (hatL : CellsAt w a (entsC L)) (hatM : CellsAt w b (pairsC M)) :
    Calls Try.prog 78 #[.slice a nL cL, .int .i64 (nD : Int), .slice b nM cM] w fun e w' => ∃ g A, e = .returned (.slice (some ⟨g, 0, none⟩) nD nD) ∧ TwRows w w.heap.size w' g nD A (fun d => twOf L M (d : Int)) := by
  have c1 := fun p w h => implEntries_any L p a nL cL w hnL (by omega) hcap hu h
  have HNL := Lib.hid hnL
  have HNM := Lib.hid hnM
  have HL := Lib.hid hatL
  have HM := Lib.hid hatM
  have H0 := Lib.hid h0
  obtain ⟨w1, hmk, hrows⟩ := make_tw w nD hD9
  obtain ⟨g, hg⟩ : ∃ g, w.heap.size = g := ⟨_, rfl⟩
  have HG := Lib.hid hg
  rw [hg] at hmk
  have HR := Lib.hid (show TwRows w w.heap.size w1 g nD (fun _ => (none, 0, 0)) (fun d => twOf L (M.take 0) (d : Int)) by
    rw [← hg]
    exact hrows.congr (fun d _ => by simp [twOf]))
  clear hnL hnM hatL hatM h0 hu hg hrows
  go_enter Try.func78, Try.ntmps78
  go_wp2
  clear hmk
  go_loopw [16] (fun q_ wr => ∃ (q : Nat) (A : Nat → Sl), q ≤ nM ∧ q_ = .int .i64 (q : Int) ∧ Hid (TwRows w w.heap.size wr g nD A (fun d => twOf L (M.take q) (d : Int)))) (fun q_ _ => nM - (intOf q_).toNat)
  case atStart => exact ⟨0, _, Nat.zero_le _, rfl, HR⟩
  case round =>
    clear HR
    obtain ⟨q, A, hq, rfl, HR⟩ := hrel
    by_cases hlt : q < nM
    · have hqM : q < M.length := by have := HNM.out; omega
      obtain ⟨p, hp⟩ : ∃ x, M[q].1 = x := ⟨_, rfl⟩
      obtain ⟨y, hy⟩ : ∃ x, M[q].2 = x := ⟨_, rfl⟩
      have hm : M[q] = (p, y) := by rw [← hp, ← hy]
      obtain ⟨mb, mo, rfl, hmb, hc⟩ := (HM.out.below HR.out.below).pair (fun e => by rw [e] at hqM; simp at hqM)
      obtain ⟨e1, e2⟩ := hc q hqM
      rw [hp] at e1
      rw [hy] at e2
      have z1 : (q : Int) < (nM : Int) := by omega
      have z0 : (0 : Int) ≤ (q : Int) := by omega
      obtain ⟨E, hE⟩ : ∃ E, withP L p = E := ⟨_, rfl⟩
      have HEND := Lib.hid (fun d => twF_end (L := L) hqM hm hE d)
      have HEL := Lib.hid (show E.length ≤ L.length by rw [← hE]; exact withP_len L p)
      have HE0 := Lib.hid (show ∀ x ∈ E, 0 ≤ x.2.1 from fun x hx => by rw [← hE, withP, List.mem_filter] at hx; exact H0.out x hx.1)
      have HQM := Lib.hid hqM
      have d1 := c1 p
      rw [show (L.filter fun x => x.1 == p) = E from hE] at d1
      have ha := (Below.refl wr.heap.size wr).alloc (Nat.le_refl _) (.cells #[.int .i64 p, .int .i64 y] 74)
      have HS5 := Lib.hid (TwSide.fresh HR.out 74 [.int .i64 p, .int .i64 y])
      have HR5 := Lib.hid ((HR.out.later ha).congr (F' := fun d => twF L M q E y 0 d) (fun d _ => twF_start L M q E y d))
      have HLA := Lib.hid (HL.out.below HR5.out.below)
      clear hp hy hm hc hE HR ha
      go_wp2_with fail
      refine (d1 _ HLA.out).mono ?_
      rintro e w6 ⟨a2, qn, f, rfl, hqn, hqnL, hqf, hc2, rfl⟩
      have HQN := Lib.hid hqn
      have HC2 := Lib.hid hc2
      clear hqn hc2 d1 hqf
      obtain ⟨w5, hw5⟩ : ∃ w9, wr.alloc (.cells #[.int .i64 p, .int .i64 y] 74) = w9 := ⟨_, rfl⟩
      obtain ⟨gt, hgt⟩ : ∃ g, wr.heap.size = g := ⟨_, rfl⟩
      rw [show (wr.alloc (.cells [Value.int .i64 p, .int .i64 y].toArray 74)) = w5 from hw5, hgt] at HS5
      rw [hw5] at HR5
      rw [hw5, hgt]
      clear HLA hw5 hgt
      go_wp2
      go_loopw [25] (fun e_ wr => ∃ (e : Nat) (A : Nat → Sl), e ≤ qn ∧ e_ = .int .i64 (e : Int) ∧ Hid (TwRows w w.heap.size wr g nD A (fun d => twF L M q E y e d)) ∧ Hid (TwSide wr nD A g 74 gt [.int .i64 p, .int .i64 y])) (fun e_ _ => qn - (intOf e_).toNat)
      case atStart => exact ⟨0, A, Nat.zero_le _, rfl, HR5, HS5⟩
      case round =>
        clear HR5 HS5
        obtain ⟨e, A, he, rfl, HR, HS⟩ := hrel
        by_cases hle : e < qn
        · have heE : e < E.length := by have := HQN.out; omega
          obtain ⟨x1, hx1⟩ : ∃ x, E[e].1 = x := ⟨_, rfl⟩
          obtain ⟨x2, hx2⟩ : ∃ x, E[e].2.1 = x := ⟨_, rfl⟩
          obtain ⟨x3, hx3⟩ : ∃ x, E[e].2.2 = x := ⟨_, rfl⟩
          have hx : E[e] = (x1, x2, x3) := by rw [← hx1, ← hx2, ← hx3]
          obtain ⟨eb, eo, rfl, heb, k1, k2, k3⟩ := ent_cells (HC2.out _ (HL.out.below HR.out.below)) heE hx
          have h20 : 0 ≤ x2 := by rw [← hx2]; exact HE0.out _ (List.getElem_mem heE)
          have u1 : (e : Int) < (qn : Int) := by omega
          have u0 : (0 : Int) ≤ (e : Int) := by omega
          have ha := (Below.refl wr.heap.size wr).alloc (Nat.le_refl _) (.cells #[.int .i64 x1, .int .i64 x2, .int .i64 x3] 68)
          have hno := fun (d : Nat) (hd : x2 ≠ (d : Int)) => twF_no (L := L) (M := M) (q := q) (y := y) heE hx hd
          have hyes := fun (d : Nat) (hd : x2 = (d : Int)) => twF_yes (L := L) (M := M) (q := q) (y := y) heE hx hd
          have HFL := Lib.hid (fun d => twF_len (L := L) (y := y) (e := e) (d := d) HQM.out HEL.out)
          have HR6 := Lib.hid (HR.out.later ha)
          have HS6 := Lib.hid (HS.out.later ha)
          have HT6 := Lib.hid (TwSide.fresh HR.out 68 [.int .i64 x1, .int .i64 x2, .int .i64 x3])
          clear hx1 hx2 hx3 hx HR HS
          by_cases hxd : x2 < (nD : Int)
          · obtain ⟨d, rfl⟩ : ∃ d : Nat, x2 = (d : Int) := ⟨x2.toNat, by omega⟩
            have hdn : d < nD := by omega
            have t1 : decide ((d : Int) < (nD : Int)) = true := decide_eq_true hxd
            have t2 : decide (d < nD) = true := decide_eq_true hdn
            have HYES := Lib.hid (hyes d rfl)
            have HNO := Lib.hid (fun f (hf : f ≠ d) => hno f (by omega))
            clear hyes hno
            obtain ⟨ad, nd, cd, hAd⟩ : ∃ a n c, A d = (a, n, c) := ⟨_, _, _, rfl⟩
            have hsl : slV (A d) = .slice ad nd cd := by rw [hAd]; rfl
            obtain ⟨w6, hw6⟩ : ∃ w9, wr.alloc (.cells #[.int .i64 x1, .int .i64 (d : Int), .int .i64 x3] 68) = w9 := ⟨_, rfl⟩
            obtain ⟨ge, hge⟩ : ∃ g, wr.heap.size = g := ⟨_, rfl⟩
            rw [show (wr.alloc (.cells [Value.int .i64 x1, Value.int .i64 (d : Int), Value.int .i64 x3].toArray 68)) = w6 from hw6, hge] at HT6
            rw [hw6] at HR6 HS6
            have k0 := HT6.out.cell 1 (.int .i64 (d : Int)) rfl
            have k9 := HT6.out.cell 2 (.int .i64 x3) rfl
            have ky := HS6.out.cell 1 (.int .i64 y) rfl
            have kd := HR6.out.cell hdn
            rw [hsl] at kd
            have hbz := ((Below.refl w6.heap.size w6).alloc (Nat.le_refl _) (.cells #[.int .i64 x3, .int .i64 y] 86)).drew
            have HRZ := Lib.hid (HR6.out.later hbz)
            have HSZ := Lib.hid (HS6.out.later hbz)
            have HTZ := Lib.hid (HT6.out.later hbz)
            have hnd : nd + 1 ≤ 1099511627777 := by
              have h1 := pairs_len (HR6.out.one hdn).own
              rw [hAd] at h1
              have h2 := HFL.out d
              have h3 : M.length * L.length ≤ 1048576 * 1048576 := Nat.mul_le_mul (by have := HNM.out; omega) (by have := HNL.out; omega)
              simp only at h1
              omega
            have kd2 : ((w6.alloc (.cells #[.int .i64 x3, .int .i64 y] 86)).drew).cell? ⟨g, d, none⟩ = some (.slice ad nd cd) := by
              have h := HRZ.out.cell hdn
              rw [hsl] at h
              exact h
            have kd3 : (w6.alloc (.cells #[.int .i64 x3, .int .i64 y] 86)).cell? ⟨g, d, none⟩ = some (.slice ad nd cd) := kd2
            have HOZ := Lib.hid (show One w w.heap.size ((w6.alloc (.cells #[.int .i64 x3, .int .i64 y] 86)).drew) 86 2 ad nd cd (pairsC (twF L M q E y e d)) by
              have h := HRZ.out.one hdn
              rw [hAd] at h
              exact h)
            have HSA := Lib.hid (show ((w6.alloc (.cells #[.int .i64 x3, .int .i64 y] 86)).drew).cell? ⟨ge, 1, none⟩ = some (.int .i64 (d : Int)) ∧ ((w6.alloc (.cells #[.int .i64 x3, .int .i64 y] 86)).drew).cell? ⟨ge, 2, none⟩ = some (.int .i64 x3) ∧ ((w6.alloc (.cells #[.int .i64 x3, .int .i64 y] 86)).drew).cell? ⟨gt, 1, none⟩ = some (.int .i64 y) from
              ⟨HTZ.out.cell 1 _ rfl, HTZ.out.cell 2 _ rfl, HSZ.out.cell 1 _ rfl⟩)
            have HS3 := Lib.hid (show ∀ w', ((w6.alloc (.cells #[.int .i64 x3, .int .i64 y] 86)).drew).grownBy w' (Value.ownBlock (.slice ad nd cd)) → w'.cell? ⟨ge, 1, none⟩ = some (.int .i64 (d : Int)) ∧ w'.cell? ⟨ge, 2, none⟩ = some (.int .i64 x3) ∧ w'.cell? ⟨gt, 1, none⟩ = some (.int .i64 y) from fun w' hg => by
              rw [← hsl] at hg
              refine ⟨?_, ?_, ?_⟩
              · rw [cell_of_row w' ge 1 _ _ (0, 0) (HTZ.out.grown hdn hg)]; rfl
              · rw [cell_of_row w' ge 2 _ _ (0, 0) (HTZ.out.grown hdn hg)]; rfl
              · rw [cell_of_row w' gt 1 _ _ (0, 0) (HSZ.out.grown hdn hg)]; rfl)
            have HS4 := Lib.hid (show ∀ w' v, ((w6.alloc (.cells #[.int .i64 x3, .int .i64 y] 86)).drew).grownBy w' (Value.ownBlock (.slice ad nd cd)) → (w'.setCell ⟨g, d, none⟩ v).cell? ⟨ge, 1, none⟩ = some (.int .i64 (d : Int)) ∧ (w'.setCell ⟨g, d, none⟩ v).cell? ⟨ge, 2, none⟩ = some (.int .i64 x3) ∧ (w'.setCell ⟨g, d, none⟩ v).cell? ⟨gt, 1, none⟩ = some (.int .i64 y) from fun w' v hg => by
              rw [← hsl] at hg
              refine ⟨?_, ?_, ?_⟩
              · rw [cell_of_row _ ge 1 _ _ (0, 0) ((Below.heap_setCell _ _ _ _ HTZ.out.ne).trans (HTZ.out.grown hdn hg))]; rfl
              · rw [cell_of_row _ ge 2 _ _ (0, 0) ((Below.heap_setCell _ _ _ _ HTZ.out.ne).trans (HTZ.out.grown hdn hg))]; rfl
              · rw [cell_of_row _ gt 1 _ _ (0, 0) ((Below.heap_setCell _ _ _ _ HSZ.out.ne).trans (HSZ.out.grown hdn hg))]; rfl)
            have HFZ := Lib.hid (show ∀ w', ((w6.alloc (.cells #[.int .i64 x3, .int .i64 y] 86)).drew).grownBy w' (Value.ownBlock (.slice ad nd cd)) → w'.frozen? ⟨g, d, none⟩ = false ∧ w'.cell? ⟨g, d, none⟩ = some (.slice ad nd cd) from fun w' hg => by
              rw [← hsl] at hg
              have h0 := (hg.block g HRZ.out.lt (fun e2 => HRZ.out.apart0 d hdn e2.symm)).trans HRZ.out.outer
              refine ⟨by simp [World.frozen?, h0], ?_⟩
              rw [cell_of_row w' g d _ _ (0, 0) h0]
              have h1 := rowsV_get (A := A) hdn
              rw [hsl] at h1
              simpa using h1)
            have HFIN := Lib.hid (show ∀ a3 c3 w3, One w w.heap.size w3 86 2 a3 (nd + 1) c3 (pairsC (twF L M q E y e d) ++ [.int .i64 x3, .int .i64 y]) → ((w6.alloc (.cells #[.int .i64 x3, .int .i64 y] 86)).drew).grownBy w3 (Value.ownBlock (.slice ad nd cd)) → Spared ((w6.alloc (.cells #[.int .i64 x3, .int .i64 y] 86)).drew) (.slice ad nd cd) (.slice a3 (nd + 1) c3) →
                ∃ A', Hid (TwRows w w.heap.size (w3.setCell ⟨g, d, none⟩ (.slice a3 (nd + 1) c3)) g nD A' (fun f => twF L M q E y (e + 1) f)) ∧ Hid (TwSide (w3.setCell ⟨g, d, none⟩ (.slice a3 (nd + 1) c3)) nD A' g 74 gt [.int .i64 p, .int .i64 y]) from fun a3 c3 w3 h3 g3 s3 => by
              obtain ⟨A', h1, h2⟩ : ∃ A' : Nat → Sl, A' d = (a3, nd + 1, c3) ∧ ∀ f, f ≠ d → A' f = A f := ⟨fun f => if f = d then (a3, nd + 1, c3) else A f, by simp, fun f hf => by simp [hf]⟩
              have hs2 : slV (A' d) = .slice a3 (nd + 1) c3 := by rw [h1]; rfl
              rw [← hsl] at g3 s3
              rw [← hs2] at s3
              refine ⟨A', Lib.hid ?_, Lib.hid ?_⟩
              · have h := HRZ.out.step (A' := A') (F' := fun f => twF L M q E y (e + 1) f) hdn (by
                  rw [hs2, h1]
                  simp only [HYES.out, pairsC_append]
                  exact h3.own) g3 s3 (fun f _ hf => h2 f hf) (fun f _ hf => HNO.out f hf)
                rwa [hs2] at h
              · exact HSZ.out.step hdn g3 s3 (fun f _ hf => h2 f hf) _)
            clear ha hbz HTZ HSZ HRZ HR6 HS6 HT6 HYES HNO HFL hxd hAd hsl
            go_wp2
            clear hw6 hge
            refine wp_region_held_drew (S := fun w' => w'.cell? ⟨ge, 1, none⟩ = some (.int .i64 (d : Int)) ∧ w'.cell? ⟨ge, 2, none⟩ = some (.int .i64 x3) ∧ w'.cell? ⟨gt, 1, none⟩ = some (.int .i64 y)) (by kernel_rfl) ⟨k0, k9, ky⟩ (fun hHeld => ?_)
            have kd1 : w6.drew.cell? ⟨g, d, none⟩ = some (.slice ad nd cd) := kd
            refine wpAnyH_take (i := 0) (oi := { dst := some 33, op := Op.move (Operand.tmp 7), type := 102, pos := "l8_found.go:90", after := #[], guard := none }) (v := ?_) rfl (by kernel_rfl) (by kernel_rfl) (by kernel_rfl) (fun _ _ _ h => h) (Or.inl ⟨by rfl, ?_⟩) (by assumption) ?_
            rotate_left
            · (intro w' hSw; (try dsimp only at hSw); first | (go_simp; done) | (go_simp; with_reducible rfl) | (with_reducible rfl))
            try simp only [Act.put, List.setIfInBounds_toArray, List.set_cons_zero, List.set_cons_succ]
            refine wpAnyH_take (i := 1) (oi := { dst := some 34, op := Op.fieldAddr 68 (Operand.tmp 11) 1, type := 0, pos := "l8_found.go:90", after := #[], guard := none }) (v := ?_) rfl (by kernel_rfl) (by kernel_rfl) (by kernel_rfl) (fun _ _ _ h => h) (Or.inl ⟨by rfl, ?_⟩) (by assumption) ?_
            rotate_left
            · (intro w' hSw; (try dsimp only at hSw); first | (go_simp; done) | (go_simp; with_reducible rfl) | (with_reducible rfl))
            try simp only [Act.put, List.setIfInBounds_toArray, List.set_cons_zero, List.set_cons_succ]
            refine wpAnyH_take (i := 2) (oi := { dst := some 35, op := Op.load 3 (Operand.tmp 34), type := 3, pos := "l8_found.go:90", after := #[{ on := 1, ground := Ground.data }], guard := none }) (v := ?_) rfl (by kernel_rfl) (by kernel_rfl) (by kernel_rfl) (fun _ _ _ h => h) (Or.inl ⟨by rfl, ?_⟩) (by assumption) ?_
            rotate_left
            · (intro w' hSw; (try dsimp only at hSw); first | (go_simp; done) | (go_simp; with_reducible rfl) | (with_reducible rfl))
            try simp only [Act.put, List.setIfInBounds_toArray, List.set_cons_zero, List.set_cons_succ]
            refine wpAnyH_take (i := 3) (oi := { dst := some 36, op := Op.move (Operand.tmp 7), type := 102, pos := "l8_found.go:90", after := #[], guard := none }) (v := ?_) rfl (by kernel_rfl) (by kernel_rfl) (by kernel_rfl) (fun _ _ _ h => h) (Or.inl ⟨by rfl, ?_⟩) (by assumption) ?_
            rotate_left
            · (intro w' hSw; (try dsimp only at hSw); first | (go_simp; done) | (go_simp; with_reducible rfl) | (with_reducible rfl))
            try simp only [Act.put, List.setIfInBounds_toArray, List.set_cons_zero, List.set_cons_succ]
            refine wpAnyH_take (i := 4) (oi := { dst := some 37, op := Op.fieldAddr 68 (Operand.tmp 11) 1, type := 0, pos := "l8_found.go:90", after := #[], guard := none }) (v := ?_) rfl (by kernel_rfl) (by kernel_rfl) (by kernel_rfl) (fun _ _ _ h => h) (Or.inl ⟨by rfl, ?_⟩) (by assumption) ?_
            rotate_left
            · (intro w' hSw; (try dsimp only at hSw); first | (go_simp; done) | (go_simp; with_reducible rfl) | (with_reducible rfl))
            try simp only [Act.put, List.setIfInBounds_toArray, List.set_cons_zero, List.set_cons_succ]
            refine wpAnyH_take (i := 5) (oi := { dst := some 38, op := Op.load 3 (Operand.tmp 37), type := 3, pos := "l8_found.go:90", after := #[{ on := 4, ground := Ground.data }], guard := none }) (v := ?_) rfl (by kernel_rfl) (by kernel_rfl) (by kernel_rfl) (fun _ _ _ h => h) (Or.inl ⟨by rfl, ?_⟩) (by assumption) ?_
            rotate_left
            · (intro w' hSw; (try dsimp only at hSw); first | (go_simp; done) | (go_simp; with_reducible rfl) | (with_reducible rfl))
            try simp only [Act.put, List.setIfInBounds_toArray, List.set_cons_zero, List.set_cons_succ]
            refine wpAnyH_take (i := 6) (oi := { dst := some 39, op := Op.indexAddr 102 (Operand.tmp 36) (Operand.tmp 38), type := 0, pos := "l8_found.go:90", after := #[{ on := 3, ground := Ground.data }, { on := 5, ground := Ground.data }], guard := none }) (v := ?_) rfl (by kernel_rfl) (by kernel_rfl) (by kernel_rfl) (fun _ _ _ h => h) (Or.inl ⟨by rfl, ?_⟩) (by assumption) ?_
            rotate_left
            · (intro w' hSw; (try dsimp only at hSw); first | (go_simp; done) | (go_simp; with_reducible rfl) | (with_reducible rfl))
            try simp only [Act.put, List.setIfInBounds_toArray, List.set_cons_zero, List.set_cons_succ]
            refine wpAnyH_take (i := 8) (oi := { dst := some 41, op := Op.fieldAddr 68 (Operand.tmp 11) 2, type := 0, pos := "l8_found.go:90", after := #[], guard := none }) (v := ?_) rfl (by kernel_rfl) (by kernel_rfl) (by kernel_rfl) (fun _ _ _ h => h) (Or.inl ⟨by rfl, ?_⟩) (by assumption) ?_
            rotate_left
            · (intro w' hSw; (try dsimp only at hSw); first | (go_simp; done) | (go_simp; with_reducible rfl) | (with_reducible rfl))
            try simp only [Act.put, List.setIfInBounds_toArray, List.set_cons_zero, List.set_cons_succ]
            refine wpAnyH_take (i := 9) (oi := { dst := some 42, op := Op.load 3 (Operand.tmp 41), type := 3, pos := "l8_found.go:90", after := #[{ on := 8, ground := Ground.data }], guard := none }) (v := ?_) rfl (by kernel_rfl) (by kernel_rfl) (by kernel_rfl) (fun _ _ _ h => h) (Or.inl ⟨by rfl, ?_⟩) (by assumption) ?_
            rotate_left
            · (intro w' hSw; (try dsimp only at hSw); first | (go_simp; done) | (go_simp; with_reducible rfl) | (with_reducible rfl))
            try simp only [Act.put, List.setIfInBounds_toArray, List.set_cons_zero, List.set_cons_succ]
            refine wpAnyH_take (i := 10) (oi := { dst := some 43, op := Op.fieldAddr 74 (Operand.tmp 9) 1, type := 0, pos := "l8_found.go:90", after := #[], guard := none }) (v := ?_) rfl (by kernel_rfl) (by kernel_rfl) (by kernel_rfl) (fun _ _ _ h => h) (Or.inl ⟨by rfl, ?_⟩) (by assumption) ?_
            rotate_left
            · (intro w' hSw; (try dsimp only at hSw); first | (go_simp; done) | (go_simp; with_reducible rfl) | (with_reducible rfl))
            try simp only [Act.put, List.setIfInBounds_toArray, List.set_cons_zero, List.set_cons_succ]
            refine wpAnyH_take (i := 11) (oi := { dst := some 44, op := Op.load 3 (Operand.tmp 43), type := 3, pos := "l8_found.go:90", after := #[{ on := 10, ground := Ground.data }], guard := none }) (v := ?_) rfl (by kernel_rfl) (by kernel_rfl) (by kernel_rfl) (fun _ _ _ h => h) (Or.inl ⟨by rfl, ?_⟩) (by assumption) ?_
            rotate_left
            · (intro w' hSw; (try dsimp only at hSw); first | (go_simp; done) | (go_simp; with_reducible rfl) | (with_reducible rfl))
            try simp only [Act.put, List.setIfInBounds_toArray, List.set_cons_zero, List.set_cons_succ]
            refine wpAnyH_take (i := 12) (oi := { dst := some 45, op := Op.build 86 #[(0, Operand.tmp 42), (1, Operand.tmp 44)], type := 86, pos := "l8_found.go:90", after := #[{ on := 9, ground := Ground.data }, { on := 11, ground := Ground.data }], guard := none }) (v := ?_) rfl (by kernel_rfl) (by kernel_rfl) (by kernel_rfl) (fun _ _ _ h => h) (Or.inl ⟨by rfl, ?_⟩) (by assumption) ?_
            rotate_left
            · (intro w' hSw; (try dsimp only at hSw); first | (go_simp; done) | (go_simp; with_reducible rfl) | (with_reducible rfl))
            try simp only [Act.put, List.setIfInBounds_toArray, List.set_cons_zero, List.set_cons_succ]
            refine wpAnyH_ready (rs := [7, 13]) (by kernel_rfl) (by simp) (AllReadyH.cons (o := { dst := some 40, op := Op.load 82 (Operand.tmp 39), type := 82, pos := "l8_found.go:90", after := #[{ on := 6, ground := Ground.data }], guard := none }) rfl (fun K hK => ?_) (AllReadyH.cons (o := { dst := some 46, op := Op.buildSlice 82 1 #[(0, Operand.tmp 45)], type := 82, pos := "l8_found.go:90", after := #[{ on := 12, ground := Ground.data }], guard := none }) rfl (fun K hK => ?_) AllReadyH.nil))
            · go_simp
              refine hK.out _ _ ⟨k0, k9, ky⟩ (fun hHeld => ?_)
              clear hK K
              try simp only [Act.put, List.setIfInBounds_toArray, List.set_cons_zero, List.set_cons_succ]
              refine wpAnyH_ready (rs := [13]) (by kernel_rfl) (by simp) (AllReadyH.cons (o := { dst := some 46, op := Op.buildSlice 82 1 #[(0, Operand.tmp 45)], type := 82, pos := "l8_found.go:90", after := #[{ on := 12, ground := Ground.data }], guard := none }) rfl (fun K hK => ?_) AllReadyH.nil)
              go_simp
              refine hK.out _ _ HSA.out (fun hHeld => ?_)
              clear hK K
              try simp only [Act.put, List.setIfInBounds_toArray, List.set_cons_zero, List.set_cons_succ]
              refine wpAnyH_ready (rs := [14]) (by kernel_rfl) (by simp) (AllReadyH.cons (o := { dst := some 47, op := Op.call { callee := Callee.builtin Builtin.append, args := #[Operand.tmp 40, Operand.tmp 46], argTypes := #[82, 82] }, type := 82, pos := "l8_found.go:90", after := #[{ on := 7, ground := Ground.data }, { on := 13, ground := Ground.data }], guard := none }) rfl (fun K hK => ?_) AllReadyH.nil)
              (refine step_append_sp w w.heap.size ad nd cd (pairsC (twF L M q E y e d)) (some ⟨w6.heap.size, 0, none⟩) 1 1 [.int .i64 x3, .int .i64 y] (by rfl) (.tmp 40) (.tmp 46) 82 (by rfl) (by rfl) (by rfl) Try.ulT8 Try.infoT8 rfl (by decide) (by rfl) (by simp [Value.oneCell']) (by decide) (by unfold maxLen; omega) (by omega) HOZ.out (cellsAt_lit w6 86 #[.int .i64 x3, .int .i64 y] w6.heap.size rfl).drewW ?_; intro a3 c3 w3 h3 g3 s3; obtain ⟨r1, r2⟩ := HFZ.out w3 g3)
              refine hK.out _ _ (HS3.out _ g3) (fun hHeld => ?_)
              clear hK K
              try simp only [Act.put, List.setIfInBounds_toArray, List.set_cons_zero, List.set_cons_succ]
              refine wpAnyH_take (i := 15) (oi := { dst := some 48, op := Op.indexAddr 102 (Operand.tmp 33) (Operand.tmp 35), type := 0, pos := "l8_found.go:90", after := #[{ on := 0, ground := Ground.data }, { on := 2, ground := Ground.data }, { on := 0, ground := Ground.phase }, { on := 1, ground := Ground.phase }, { on := 2, ground := Ground.phase }, { on := 3, ground := Ground.phase }, { on := 4, ground := Ground.phase }, { on := 5, ground := Ground.phase }, { on := 6, ground := Ground.phase }, { on := 7, ground := Ground.phase }, { on := 8, ground := Ground.phase }, { on := 9, ground := Ground.phase }, { on := 10, ground := Ground.phase }, { on := 11, ground := Ground.phase }, { on := 12, ground := Ground.phase }, { on := 13, ground := Ground.phase }, { on := 14, ground := Ground.phase }], guard := none }) (v := ?_) rfl (by kernel_rfl) (by kernel_rfl) (by kernel_rfl) (fun _ _ _ h => h) (Or.inl ⟨by rfl, ?_⟩) (by assumption) ?_
              rotate_left
              · (intro w' hSw; (try dsimp only at hSw); first | (go_simp; done) | (go_simp; with_reducible rfl) | (with_reducible rfl))
              try simp only [Act.put, List.setIfInBounds_toArray, List.set_cons_zero, List.set_cons_succ]
              refine wpAnyH_ready (rs := [16]) (by kernel_rfl) (by simp) (AllReadyH.cons (o := { dst := none, op := Op.store 82 (Operand.tmp 48) (Operand.tmp 47), type := 0, pos := "l8_found.go:90", after := #[{ on := 15, ground := Ground.data }, { on := 14, ground := Ground.data }, { on := 14, ground := Ground.chain }, { on := 0, ground := Ground.phase }, { on := 1, ground := Ground.phase }, { on := 2, ground := Ground.phase }, { on := 3, ground := Ground.phase }, { on := 4, ground := Ground.phase }, { on := 5, ground := Ground.phase }, { on := 6, ground := Ground.phase }, { on := 7, ground := Ground.phase }, { on := 8, ground := Ground.phase }, { on := 9, ground := Ground.phase }, { on := 10, ground := Ground.phase }, { on := 11, ground := Ground.phase }, { on := 12, ground := Ground.phase }, { on := 13, ground := Ground.phase }, { on := 14, ground := Ground.phase }], guard := none }) rfl (fun K hK => ?_) AllReadyH.nil)
              go_simp
              refine hK.out _ _ (HS4.out _ _ g3) (fun hHeld => ?_)
              clear hK K
              try simp only [Act.put, List.setIfInBounds_toArray, List.set_cons_zero, List.set_cons_succ]
              refine wpAnyH_done (by kernel_rfl) ?_ _
              go_wp2
              go_roundw
              case rel =>
                obtain ⟨A', h1, h2⟩ := HFIN.out a3 c3 w3 h3 g3 s3
                exact ⟨e + 1, A', by omega, by go_num, h1, h2⟩
              case measure => simp [intOf]; omega
            · go_simp
              refine hK.out _ _ HSA.out (fun hHeld => ?_)
              clear hK K
              try simp only [Act.put, List.setIfInBounds_toArray, List.set_cons_zero, List.set_cons_succ]
              refine wpAnyH_ready (rs := [7]) (by kernel_rfl) (by simp) (AllReadyH.cons (o := { dst := some 40, op := Op.load 82 (Operand.tmp 39), type := 82, pos := "l8_found.go:90", after := #[{ on := 6, ground := Ground.data }], guard := none }) rfl (fun K hK => ?_) AllReadyH.nil)
              go_simp
              refine hK.out _ _ HSA.out (fun hHeld => ?_)
              clear hK K
              try simp only [Act.put, List.setIfInBounds_toArray, List.set_cons_zero, List.set_cons_succ]
              refine wpAnyH_ready (rs := [14]) (by kernel_rfl) (by simp) (AllReadyH.cons (o := { dst := some 47, op := Op.call { callee := Callee.builtin Builtin.append, args := #[Operand.tmp 40, Operand.tmp 46], argTypes := #[82, 82] }, type := 82, pos := "l8_found.go:90", after := #[{ on := 7, ground := Ground.data }, { on := 13, ground := Ground.data }], guard := none }) rfl (fun K hK => ?_) AllReadyH.nil)
              (refine step_append_sp w w.heap.size ad nd cd (pairsC (twF L M q E y e d)) (some ⟨w6.heap.size, 0, none⟩) 1 1 [.int .i64 x3, .int .i64 y] (by rfl) (.tmp 40) (.tmp 46) 82 (by rfl) (by rfl) (by rfl) Try.ulT8 Try.infoT8 rfl (by decide) (by rfl) (by simp [Value.oneCell']) (by decide) (by unfold maxLen; omega) (by omega) HOZ.out (cellsAt_lit w6 86 #[.int .i64 x3, .int .i64 y] w6.heap.size rfl).drewW ?_; intro a3 c3 w3 h3 g3 s3; obtain ⟨r1, r2⟩ := HFZ.out w3 g3)
              refine hK.out _ _ (HS3.out _ g3) (fun hHeld => ?_)
              clear hK K
              try simp only [Act.put, List.setIfInBounds_toArray, List.set_cons_zero, List.set_cons_succ]
              refine wpAnyH_take (i := 15) (oi := { dst := some 48, op := Op.indexAddr 102 (Operand.tmp 33) (Operand.tmp 35), type := 0, pos := "l8_found.go:90", after := #[{ on := 0, ground := Ground.data }, { on := 2, ground := Ground.data }, { on := 0, ground := Ground.phase }, { on := 1, ground := Ground.phase }, { on := 2, ground := Ground.phase }, { on := 3, ground := Ground.phase }, { on := 4, ground := Ground.phase }, { on := 5, ground := Ground.phase }, { on := 6, ground := Ground.phase }, { on := 7, ground := Ground.phase }, { on := 8, ground := Ground.phase }, { on := 9, ground := Ground.phase }, { on := 10, ground := Ground.phase }, { on := 11, ground := Ground.phase }, { on := 12, ground := Ground.phase }, { on := 13, ground := Ground.phase }, { on := 14, ground := Ground.phase }], guard := none }) (v := ?_) rfl (by kernel_rfl) (by kernel_rfl) (by kernel_rfl) (fun _ _ _ h => h) (Or.inl ⟨by rfl, ?_⟩) (by assumption) ?_
              rotate_left
              · (intro w' hSw; (try dsimp only at hSw); first | (go_simp; done) | (go_simp; with_reducible rfl) | (with_reducible rfl))
              try simp only [Act.put, List.setIfInBounds_toArray, List.set_cons_zero, List.set_cons_succ]
              refine wpAnyH_ready (rs := [16]) (by kernel_rfl) (by simp) (AllReadyH.cons (o := { dst := none, op := Op.store 82 (Operand.tmp 48) (Operand.tmp 47), type := 0, pos := "l8_found.go:90", after := #[{ on := 15, ground := Ground.data }, { on := 14, ground := Ground.data }, { on := 14, ground := Ground.chain }, { on := 0, ground := Ground.phase }, { on := 1, ground := Ground.phase }, { on := 2, ground := Ground.phase }, { on := 3, ground := Ground.phase }, { on := 4, ground := Ground.phase }, { on := 5, ground := Ground.phase }, { on := 6, ground := Ground.phase }, { on := 7, ground := Ground.phase }, { on := 8, ground := Ground.phase }, { on := 9, ground := Ground.phase }, { on := 10, ground := Ground.phase }, { on := 11, ground := Ground.phase }, { on := 12, ground := Ground.phase }, { on := 13, ground := Ground.phase }, { on := 14, ground := Ground.phase }], guard := none }) rfl (fun K hK => ?_) AllReadyH.nil)
              go_simp
              refine hK.out _ _ (HS4.out _ _ g3) (fun hHeld => ?_)
              clear hK K
              try simp only [Act.put, List.setIfInBounds_toArray, List.set_cons_zero, List.set_cons_succ]
              refine wpAnyH_done (by kernel_rfl) ?_ _
              go_wp2
              go_roundw
              case rel =>
                obtain ⟨A', h1, h2⟩ := HFIN.out a3 c3 w3 h3 g3 s3
                exact ⟨e + 1, A', by omega, by go_num, h1, h2⟩
              case measure => simp [intOf]; omega
          · have t1 : decide (x2 < (nD : Int)) = false := decide_eq_false hxd
            have HR7 := Lib.hid (HR6.out.congr (F' := fun d => twF L M q E y (e + 1) d) (fun d hd => hno d (by omega)))
            clear hno hyes HR6 ha HT6 hxd
            go_wp2
            go_roundw
            case rel => exact ⟨e + 1, A, by omega, by go_num, HR7, HS6⟩
            case measure => simp [intOf]; omega
        · have heq : e = E.length := by have := HQN.out; omega
          have HR8 := Lib.hid (show TwRows w w.heap.size wr g nD A (fun d => twOf L (M.take (q + 1)) (d : Int)) by
            have h := HR.out
            rw [heq] at h
            exact h.congr (fun d _ => (HEND.out d).symm))
          clear heq HR
          go_wp2
          go_roundw
          case rel => exact ⟨q + 1, A, by omega, by go_num, HR8⟩
          case measure => simp [intOf]; omega
    · have HE := Lib.hid (show M.take q = M from List.take_of_length_le (by have := HNM.out; omega))
      have HR8 := Lib.hid (show TwRows w w.heap.size wr g nD A (fun d => twOf L M (d : Int)) by
        have h := HR.out
        rw [HE.out] at h
        exact h)
      clear HR
      go_wp2
      go_ret
      exact ⟨g, A, rfl, HR8.out⟩

theorem byDocs_mono (F : Nat → List En) {m n : Nat} (h : m ≤ n) : (byDocs F m).length ≤ (byDocs F n).length := by
  induction n with
  | zero =>
    obtain rfl : m = 0 := by omega
    exact Nat.le_refl _
  | succ n ih =>
    by_cases e : m = n + 1
    · rw [e]; exact Nat.le_refl _
    · rw [byDocs_next, List.length_append]
      have := ih (by omega)
      omega

set_option maxHeartbeats 8000000 in
theorem implAsk8_any (S : List En) (D : List ByteArray) (s : ByteArray) (k v n : Int) (a : Option Addr) (nS cS : Nat) (b : Option Addr) (nD cD : Nat) (R : List Fd) (w : World) (hR : ask8 S D s k v n = R) (hnS : nS = S.length) (hnD : nD = D.length) (hS9 : nS ≤ 1048576) (hD9 : nD ≤ 1048576) (hScap : nS ≤ cS)
    (h63 : ∀ x ∈ S, x.2.2 ≤ 9223372036854775807) (hT : totalS D ≤ 1048576) (hs : s.size ≤ 1048576) (hv9 : v ≤ 9223372036854775807) (hatS : CellsAt w a (entsC S)) (hatD : CellsAt w b (strsC D)) :
    Calls Try.prog 46 #[.slice a nS cS, .slice b nD cD, .string s, .int .i64 k, .int .i64 v, .int .i64 n] w fun e w' => ∃ a' m c, e = .returned (.slice a' m c) ∧ One w w.heap.size w' 101 4 a' m c (fdsC R) := by
  subst hR
  by_cases hsh : shOk S
  · have c0 := fun w h => implShelfOk_is true S a nS cS w ⟨fun _ => hsh, fun _ => rfl⟩ hnS (by omega) h
    by_cases hno : k < 1 ∨ v < 1 ∨ n < 1
    · have HE := Lib.hid (ask8_not (L := S) (D := D) (s := s) (k := k) (w := v) (n := n) (fun h => by omega))
      have hc : decide (k < 1) = true ∨ (decide (k < 1) = false ∧ decide (v < 1) = true) ∨ (decide (k < 1) = false ∧ decide (v < 1) = false ∧ decide (n < 1) = true) := by
        by_cases h1 : k < 1
        · exact .inl (decide_eq_true h1)
        · by_cases h2 : v < 1
          · exact .inr (.inl ⟨decide_eq_false h1, decide_eq_true h2⟩)
          · exact .inr (.inr ⟨decide_eq_false h1, decide_eq_false h2, decide_eq_true (by omega)⟩)
      have HATS := Lib.hid hatS
      clear hno hsh hnS hnD h63 hatS hatD
      rcases hc with t1 | ⟨t1, t2⟩ | ⟨t1, t2, t3⟩
      all_goals (
        go_enter Try.func46, Try.ntmps46
        go_wp2_with fail
        refine (c0 _ HATS.out).mono ?_
        rintro e w1 ⟨rfl, b1⟩
        clear c0
        go_wp2
        go_ret
        exact ⟨_, _, _, rfl, by rw [HE.out]; exact (One.nil w1 101 4).under b1 b1.size⟩)
    · have hk1 : 1 ≤ k := by omega
      obtain ⟨M, hM⟩ : ∃ M, mkL s k v = M := ⟨_, rfl⟩
      obtain ⟨F, hF⟩ : ∃ F : Nat → List En, F = fun i => rowE (foundTo (docAt D i) s k n (twOf S M (i : Int))) := ⟨_, rfl⟩
      have hR := (ask8_ok (L := S) (D := D) (s := s) (k := k) (w := v) (n := n) ⟨hsh, by omega, by omega, by omega⟩).trans (ask_byDocs hsh.1 D s hk1 v n).symm
      rw [hM, ← hF] at hR
      have HR := Lib.hid hR
      have hMl : M.length ≤ 1048576 := by rw [← hM]; exact Nat.le_trans (mkL_len s k v) hs
      have HRM := Lib.hid (show ∀ i, i ≤ D.length → (byDocs F i).length ≤ 1099511627776 from fun i hi => by
        have h1 := byDocs_mono F hi
        rw [← hR, ask8_ok ⟨hsh, by omega, by omega, by omega⟩, askR, hM] at h1
        have h2 := rowF_len (askTo S D s k n M)
        have h3 := askTo_len S D s k n M
        have h4 : M.length * S.length ≤ 1048576 * 1048576 := Nat.mul_le_mul hMl (by omega)
        omega)
      have HF := Lib.hid (fun i => congrFun hF i)
      have HOT := Lib.hid (show ∀ d : Int, OrdT (twOf S M d) from fun d => by rw [← hM]; exact twOf_ord S s k v d)
      have HPT := Lib.hid (show ∀ d : Int, PosT (twOf S M d) from fun d => by rw [← hM]; exact twOf_pos hsh.1 h63 hs d)
      have HTL := Lib.hid (show ∀ d : Int, (twOf S M d).length ≤ 1099511627776 from fun d => by
        have h1 := twOf_len S M d
        have h4 : M.length * S.length ≤ 1048576 * 1048576 := Nat.mul_le_mul hMl (by omega)
        omega)
      have cM := fun w => implMarks_any s k v M w hM (by omega) hv9
      have cT := fun b nM cM w hnM h1 h2 h3 => implTwins8_any S nD M a nS cS b nM cM w hnS hS9 hScap (shOk_upI hsh) (fun x hx => by have := hsh.1 x hx; unfold enOk at this; omega) hnM h1 hD9 h2 h3
      have t1 : decide (k < 1) = false := decide_eq_false (by omega)
      have t2 : decide (v < 1) = false := decide_eq_false (by omega)
      have t3 : decide (n < 1) = false := decide_eq_false (by omega)
      have HND := Lib.hid hnD
      have HATS := Lib.hid hatS
      have HATD := Lib.hid hatD
      clear hF hR hM hno hsh hnS hnD h63 hatS hatD
      go_enter Try.func46, Try.ntmps46
      go_wp2_with fail
      refine (c0 _ HATS.out).mono ?_
      rintro e w1 ⟨rfl, b1⟩
      clear c0
      go_wp2_with fail
      refine (cM _).mono ?_
      rintro e w2 ⟨aM, nM, dM, rfl, oM⟩
      have hb2 : Below w.heap.size w w2 := b1.trans (oM.below.mono b1.size)
      have d2 := cT aM nM dM w2 (pairs_len oM.own) (by have := pairs_len oM.own; omega) (HATS.out.below hb2) oM.at_
      have HB2 := Lib.hid hb2
      clear cM cT b1 oM hb2
      go_wp2_with fail
      refine d2.mono ?_
      rintro e w3 ⟨g, A, rfl, hTW⟩
      have HTW := Lib.hid hTW
      have HB3 := Lib.hid (HB2.out.trans (hTW.below.mono HB2.out.size))
      clear d2 hTW
      go_wp2
      go_loopw [13, 40] (fun u i_ wr => ∃ (i m d : Nat) (a' : Option Addr), i ≤ nD ∧ i_ = .int .i64 (i : Int) ∧ u = .slice a' m d ∧ Hid (One w3 w3.heap.size wr 101 4 a' m d (fdsC (byDocs F i)))) (fun _ i_ _ => nD - (intOf i_).toNat)
      case atStart => exact ⟨0, 0, 0, none, Nat.zero_le _, rfl, rfl, Lib.hid (One.nil w3 101 4)⟩
      case round =>
        obtain ⟨i, m, d, a', hi, rfl, rfl, HO⟩ := hrel
        by_cases hlt : i < nD
        · have hil : i < D.length := by have := HND.out; omega
          obtain ⟨b2, o2, rfl, hb9, hc⟩ := (HATD.out.below (HB3.out.trans (HO.out.below.mono HB3.out.size))).str (fun e => by rw [e] at hil; simp at hil)
          obtain ⟨t, ht⟩ : ∃ s, D[i] = s := ⟨_, rfl⟩
          have e1 := hc i hil
          rw [ht] at e1
          have hsz : t.size ≤ 1048576 := by have h1 := totalS_get D i hil; rw [ht] at h1; omega
          have z1 : (i : Int) < (nD : Int) := by omega
          have z0 : (0 : Int) ≤ (i : Int) := by omega
          have hTW := HTW.out.later HO.out.below
          obtain ⟨ad, nd, cd, hAd⟩ : ∃ a n c, A i = (a, n, c) := ⟨_, _, _, rfl⟩
          have kd := hTW.cell hlt
          have hone := hTW.one hlt
          rw [show slV (A i) = .slice ad nd cd by rw [hAd]; rfl] at kd
          rw [hAd] at hone
          have hnd := pairs_len hone.own
          obtain ⟨T, hTT⟩ : ∃ T, twOf S M (i : Int) = T := ⟨_, rfl⟩
          have hOT := HOT.out (i : Int)
          have hPT := HPT.out (i : Int)
          have hTL := HTL.out (i : Int)
          have hFi := HF.out i
          rw [docAt_get hil, ht] at hFi
          simp only [hTT] at hone hnd hOT hPT hTL hFi
          obtain ⟨P, hP⟩ : ∃ P, F i = P := ⟨_, rfl⟩
          rw [hP] at hFi
          have c5 := implGrown_any t s T k n ad nd cd P wr hFi.symm hk1 hnd (by omega) hOT hPT hsz hs hone.at_
          have HFI := Lib.hid hP
          have HRM2 := Lib.hid (HRM.out (i + 1) (by have := HND.out; omega))
          clear hc ht hTW hAd hone hnd hTT hOT hPT hTL hFi hP
          go_wp2_with fail
          refine c5.mono ?_
          rintro e w5 ⟨a5, n5, d5, rfl, o5⟩
          have hB := show Beside w5 a5 (entsC P) (.slice a' m d) from ⟨o5.at_, fun hne b o hb hk => by
            have h2 := HO.out.block_lt b hk
            have h3 := (o5.own.lt b (by rw [hb]; rfl)).1
            omega⟩
          have c6 := implWithF_any w3 w3.heap.size (byDocs F i) P (i : Int) a' m d a5 n5 d5 w5 (HO.out.later o5.below) (ents_len7 o5.own) hB (by
            have h1 := HRM2.out
            rw [byDocs_next, List.length_append, List.length_map, HFI.out] at h1
            have h2 := ents_len7 o5.own
            have h3 := fds_len HO.out.own
            omega)
          clear o5 c5 hB
          go_wp2_with fail
          refine c6.mono ?_
          rintro e w6 ⟨a6, n6, d6, rfl, o6⟩
          have HO6 := Lib.hid (show One w3 w3.heap.size w6 101 4 a6 n6 d6 (fdsC (byDocs F (i + 1))) by
            rw [byDocs_next, HFI.out]
            exact o6)
          clear o6 c6 HO
          go_wp2
          go_roundw
          case rel => exact ⟨i + 1, n6, d6, a6, by omega, by go_num, rfl, HO6⟩
          case measure => simp [intOf]; omega
        · have hin : i = D.length := by have := HND.out; omega
          have HE := Lib.hid hin
          clear hin
          go_wp2
          go_ret
          exact ⟨_, _, _, rfl, by rw [HR.out, ← HE.out]; exact HO.out.under HB3.out HB3.out.size⟩
  · have HE := Lib.hid (ask8_not (L := S) (D := D) (s := s) (k := k) (w := v) (n := n) (fun h => hsh h.1))
    have c0 := fun w h => implShelfOk_is false S a nS cS w ⟨(fun h => absurd h (by decide)), (fun h => absurd h hsh)⟩ hnS (by omega) h
    have HATS := Lib.hid hatS
    clear hsh hnS hnD h63 hatS hatD
    go_enter Try.func46, Try.ntmps46
    go_wp2_with fail
    refine (c0 _ HATS.out).mono ?_
    rintro e w1 ⟨rfl, b1⟩
    clear c0
    go_wp2
    go_ret
    exact ⟨_, _, _, rfl, by rw [HE.out]; exact (One.nil w1 101 4).under b1 b1.size⟩

end Go.Proofs.Ytbnagmjhdnnheaa

namespace Go.Proofs.Ytbnagmjhdnnheaa

/-- What a byte becomes in a text that is made alike. -/
def signOf (b : Int) : Int :=
  if b < 0 ∨ 255 < b then -1
  else if 65 ≤ b ∧ b ≤ 90 then b + 32
  else if (97 ≤ b ∧ b ≤ 122) ∨ (48 ≤ b ∧ b ≤ 57) ∨ 128 ≤ b then b
  else 32

theorem signOf_none {b : Int} (h : b < 0 ∨ 255 < b) : signOf b = -1 := by unfold signOf; rw [if_pos h]
theorem signOf_great {b : Int} (h1 : 65 ≤ b) (h2 : b ≤ 90) : signOf b = b + 32 := by
  unfold signOf; rw [if_neg (by omega), if_pos ⟨h1, h2⟩]
theorem signOf_same {b : Int} (h0 : 0 ≤ b) (h9 : b ≤ 255) (h : (97 ≤ b ∧ b ≤ 122) ∨ (48 ≤ b ∧ b ≤ 57) ∨ 128 ≤ b) : signOf b = b := by
  unfold signOf; rw [if_neg (by omega), if_neg (by omega), if_pos h]
theorem signOf_gap {b : Int} (h0 : 0 ≤ b) (h9 : b < 128) (h1 : b < 65 ∨ 90 < b) (h2 : b < 97 ∨ 122 < b) (h3 : b < 48 ∨ 57 < b) : signOf b = 32 := by
  unfold signOf; rw [if_neg (by omega), if_neg (by omega), if_neg (by omega)]

/-- The ways on which a number goes: each is one row of tests. -/
theorem signOf_ways (b : Int) : b < 0 ∨ 255 < b ∨ (0 ≤ b ∧ b < 48) ∨ (48 ≤ b ∧ b ≤ 57) ∨ (57 < b ∧ b < 65) ∨ (65 ≤ b ∧ b ≤ 90) ∨ (90 < b ∧ b < 97) ∨ (97 ≤ b ∧ b ≤ 122) ∨ (122 < b ∧ b < 128) ∨ (128 ≤ b ∧ b ≤ 255) := by omega

end Go.Proofs.Ytbnagmjhdnnheaa

namespace Go.Proofs.Ytbnagmjhdnnheaa
open Go.RowKit

theorem ret_int {k : IntKind} {a b : Int} (h : a = b) : Ending.returned (.int k a) = .returned (.int k b) := by rw [h]




end Go.Proofs.Ytbnagmjhdnnheaa

namespace Go.Proofs.Ytbnagmjhdnnheaa
open Go.RowKit

theorem list_differs : ∀ (xs ys : List Int), xs.length = ys.length → xs ≠ ys → ∃ j, j < xs.length ∧ xs.getD j 0 ≠ ys.getD j 0 ∧ ∀ i, i < j → xs.getD i 0 = ys.getD i 0
  | [], [], _, h => absurd rfl h
  | x :: xs, y :: ys, hl, h => by
    by_cases hxy : x = y
    · subst hxy
      obtain ⟨j, hj, hd, hs⟩ := list_differs xs ys (by simpa using hl) (fun e => h (by rw [e]))
      refine ⟨j + 1, by simpa using hj, by simpa using hd, fun i hi => ?_⟩
      cases i with
      | zero => rfl
      | succ i => simpa using hs i (by omega)
    · exact ⟨0, by simp, by simpa using hxy, fun i hi => by omega⟩

theorem eqIntS_len (a b : Option Addr) (n m c d : Nat) (w : World) (h : n ≠ m) :
    Calls Try.prog 20 #[.slice a n c, .slice b m d] w fun e w' => e = .returned (.bool false) ∧ ∃ q, w' = w.drewN q := by
  have t1 : ((n : Int) != (m : Int)) = true := by simp; omega
  go_enter Try.func20, Try.ntmps20
  go_wp2
  go_ret
  exact ⟨rfl, 0, rfl⟩

theorem eqIntS_same (a b : Option Addr) (c d : Nat) (xs : List Int) (w : World) (hn : xs.length < 1099511627776) (h1 : IntsAt w a xs) (h2 : IntsAt w b xs) :
    Calls Try.prog 20 #[.slice a xs.length c, .slice b xs.length d] w fun e w' => e = .returned (.bool true) ∧ ∃ q, w' = w.drewN q := by
  obtain ⟨n, hxs⟩ : ∃ n, xs.length = n := ⟨_, rfl⟩
  rw [hxs] at hn ⊢
  by_cases h0 : n = 0
  · subst h0
    go_enter Try.func20, Try.ntmps20
    go_wp2
    refine wp_loop_rounds 1 ?_
    rw [rounds_succ]
    go_wp2
    go_ret
    exact ⟨rfl, 0, rfl⟩
  · have hne : xs ≠ [] := fun e => h0 (by rw [← hxs, e]; rfl)
    obtain ⟨b1, o1, rfl, hc1⟩ := h1.spot hne
    obtain ⟨b2, o2, rfl, hc2⟩ := h2.spot hne
    rw [hxs] at hc1 hc2
    have H1 := Lib.hid hc1
    have H2 := Lib.hid hc2
    have HX := Lib.hid hxs
    clear h1 h2 hc1 hc2 hne hxs
    go_enter Try.func20, Try.ntmps20
    go_wp2
    go_loopw [5] (fun i wr => ∃ k : Nat, k ≤ n ∧ i = .int .i64 k ∧ ∃ q, wr = w.drewN q) (fun i _ => n - (intOf i).toNat)
    case atStart => exact ⟨0, Nat.zero_le _, rfl, 0, rfl⟩
    case round =>
      obtain ⟨k, hk, rfl, q, rfl⟩ := hrel
      by_cases hlt : k < n
      · have g1 : w.cell? ⟨b1, o1 + k, none⟩ = some (.int .i64 (xs.getD k 0)) := H1.out k hlt
        have g2 : w.cell? ⟨b2, o2 + k, none⟩ = some (.int .i64 (xs.getD k 0)) := H2.out k hlt
        obtain ⟨z, hz⟩ : ∃ z, xs.getD k 0 = z := ⟨_, rfl⟩
        rw [hz] at g1 g2
        clear hz
        go_wp2
        go_quiet (fail)
        go_wp2
        go_roundw
        case rel => exact ⟨k + 1, by omega, by go_num, _, rfl⟩
        case measure => simp [intOf]; omega
      · go_wp2
        go_ret
        exact ⟨rfl, q, rfl⟩

/-- Ascending numbers from m on. -/
def marks (m : Int) : Nat → List Int
  | 0 => []
  | k + 1 => marks m k ++ [m + k]

theorem marks_len (m : Int) (k : Nat) : (marks m k).length = k := by
  induction k with
  | zero => rfl
  | succ k ih => simp [marks, ih]

theorem marks_get (m : Int) (n k : Nat) (h : k < n) : (marks m n).getD k 0 = m + k := by
  induction n with
  | zero => omega
  | succ n ih =>
    simp only [marks, List.getD]
    by_cases hk : k < n
    · rw [List.getElem?_append_left (by rw [marks_len]; exact hk)]
      exact ih hk
    · obtain rfl : k = n := by omega
      rw [List.getElem?_append_right (by rw [marks_len]; exact Nat.le_refl _), marks_len]
      simp

theorem marks_step (m : Int) (xs : List Int) (k : Nat) (h : k < xs.length) : (intCells (marks m k ++ xs.drop k)).set k (.int .i64 (m + k)) = intCells (marks m (k + 1) ++ xs.drop (k + 1)) := by
  have e : xs.drop k = xs[k] :: xs.drop (k + 1) := (List.drop_eq_getElem_cons h)
  have e2 : (marks m k ++ xs.drop k).set k (m + k) = marks m (k + 1) ++ xs.drop (k + 1) := by
    rw [List.set_append, if_neg (by rw [marks_len]; omega), marks_len, Nat.sub_self, e, List.set_cons_zero, marks, List.append_assoc]
    rfl
  rw [← e2, intCells, intCells, List.map_set]

set_option maxHeartbeats 1000000 in
theorem markIntS_any (B : Nat) (a : Option Addr) (n c : Nat) (xs : List Int) (m : Int) (w : World) (hown : w.ownsRow B 3 1 (.slice a n c) n (intCells xs)) (hn : n < 1099511627776) (h0 : 0 ≤ m) (hm : m < 1099511627776) :
    Calls Try.prog 21 #[.slice a n c, .int .i64 m] w fun e w' => e = .returned (.int .i64 (m + n)) ∧ w'.ownsRow B 3 1 (.slice a n c) n (intCells (marks m n)) ∧ w.grownBy w' (Value.ownBlock (.slice a n c)) := by
  have hlen : xs.length = n := (intsAt_own hown).1.symm
  by_cases hz : n = 0
  · subst hz
    have hx : xs = [] := List.length_eq_zero_iff.1 hlen
    subst hx
    go_enter Try.func21, Try.ntmps21
    go_wp2
    refine wp_loop_rounds 1 ?_
    rw [rounds_succ]
    go_wp2
    go_ret
    exact ⟨ret_int (by simp), hown, World.grownBy.refl _ _⟩
  · have hne : xs ≠ [] := fun e => hz (by rw [← hlen, e]; rfl)
    obtain ⟨g, rfl⟩ : ∃ g, a = some ⟨g, 0, none⟩ := by
      rcases hown.2 with ⟨hv, h0⟩ | ⟨g, cap', cur, hv, _⟩
      · exact absurd h0 hz
      · exact ⟨g, (by simpa using hv : a = some ⟨g, 0, none⟩ ∧ c = cap').1⟩
    have HL := Lib.hid hlen
    clear hlen hne
    go_enter Try.func21, Try.ntmps21
    go_wp2
    go_loopw [1, 5] (fun q i wr => ∃ k : Nat, k ≤ n ∧ i = .int .i64 k ∧ q = .int .i64 (m + k) ∧ wr.ownsRow B 3 1 (.slice (some ⟨g, 0, none⟩) n c) n (intCells (marks m k ++ xs.drop k)) ∧ w.grownBy wr (some g)) (fun _ i _ => n - (intOf i).toNat)
    case atStart => exact ⟨0, Nat.zero_le _, rfl, by go_num, by simpa [marks] using hown, World.grownBy.refl _ _⟩
    case round =>
      obtain ⟨k, hk, rfl, rfl, hownr, hg⟩ := hrel
      by_cases hlt : k < n
      · have hfz : wr.frozen? ⟨g, k, none⟩ = false := hownr.frozenAt k
        have hcell : wr.cell? ⟨g, k, none⟩ = some (.int .i64 ((marks m k ++ xs.drop k).getD k 0)) := by
          have hh := (intsAt_own hownr)
          rw [hownr.cellAt k (by omega)]
          have : k < (marks m k ++ xs.drop k).length := by rw [← hh.1]; exact hlt
          show (List.map _ _)[k]? = _
          rw [List.getElem?_map, List.getD_eq_getElem?_getD, List.getElem?_eq_getElem this]
          rfl
        have hst := hownr.stored k (.int .i64 (m + k))
        rw [marks_step m xs k (by rw [HL.out]; exact hlt)] at hst
        obtain ⟨z, hz⟩ : ∃ z, (marks m k ++ xs.drop k).getD k 0 = z := ⟨_, rfl⟩
        rw [hz] at hcell
        clear hz hownr
        obtain ⟨hs1, hs2⟩ := hst
        go_wp2
        go_roundw
        case rel => exact ⟨k + 1, by omega, by go_num, by go_num, hs1, grownBy_trans hg hs2⟩
        case measure => simp [intOf]; omega
      · obtain rfl : k = n := by omega
        rw [show marks m k ++ xs.drop k = marks m k from by rw [List.drop_of_length_le (by rw [HL.out]; exact Nat.le_refl _), List.append_nil]] at hownr
        go_wp2
        go_ret
        exact ⟨rfl, hownr, hg⟩

theorem heldIntS_any (a : Option Addr) (n c : Nat) (m : Int) (w : World) (hat : IntsAt w a (marks m n)) (hn : n < 1099511627776) (h0 : 0 ≤ m) (hm : m < 1099511627776) :
    Calls Try.prog 22 #[.slice a n c, .int .i64 m] w fun e w' => e = .returned (.int .i64 (m + n)) ∧ w = w' := by
  by_cases hz : n = 0
  · subst hz
    clear hat
    go_enter Try.func22, Try.ntmps22
    go_wp2
    refine wp_loop_rounds 1 ?_
    rw [rounds_succ]
    go_wp2
    go_ret
    exact ⟨ret_int (by simp), rfl⟩
  · obtain ⟨b, o, rfl, hc⟩ := hat.spot (fun e => hz (by rw [← marks_len m n, e]; rfl))
    rw [marks_len] at hc
    have HC := Lib.hid hc
    clear hc hat
    go_enter Try.func22, Try.ntmps22
    go_wp2
    go_loop [1, 5] (fun q i => ∃ k : Nat, k ≤ n ∧ i = .int .i64 k ∧ q = .int .i64 (m + k)) (fun _ i => n - (intOf i).toNat)
    case atStart => exact ⟨0, Nat.zero_le _, rfl, by go_num⟩
    case round =>
      obtain ⟨k, hk, rfl, rfl⟩ := hrel
      by_cases hlt : k < n
      · have g1 := HC.out k hlt
        rw [marks_get m n k hlt] at g1
        go_wp2
        go_round
        case rel => exact ⟨k + 1, by omega, by go_num, by go_num⟩
        case measure => simp [intOf]; omega
      · obtain rfl : k = n := by omega
        go_wp2
        go_ret
        exact ⟨rfl, rfl⟩

end Go.Proofs.Ytbnagmjhdnnheaa

namespace Go.Proofs.Ytbnagmjhdnnheaa
open Go.RowKit

theorem Try.ulS' : Try.prog.underlying 53 = some (.slice 9) := by kernel_rfl
theorem Try.uls' : Try.prog.underlying 9 = some .string := by kernel_rfl
theorem Try.ulB' : Try.prog.underlying 115 = some (.slice 5) := by kernel_rfl
theorem Try.ulb' : Try.prog.underlying 5 = some (.int .u8) := by kernel_rfl

/-- The decimal digits of a number ahead of what is there. -/
def digL (k : Nat) (out : List UInt8) : List UInt8 := if h : 0 < k then digL (k / 10) (UInt8.ofNat (48 + k % 10) :: out) else out
termination_by k
decreasing_by omega

theorem digL_pos {k : Nat} (h : 0 < k) (out : List UInt8) : digL k out = digL (k / 10) (UInt8.ofNat (48 + k % 10) :: out) := by rw [digL, dif_pos h]
theorem digL_zero (out : List UInt8) : digL 0 out = out := by rw [digL, dif_neg (by omega)]

/-- The text that marks a number. -/
def markB (k : Nat) : ByteArray := ⟨(109 :: digL k []).toArray⟩

theorem one_byte_string {P : Program} (w : World) (src dst e : TypeId) (v : Int) (hs : P.underlying src = some (.slice e)) (he : P.underlying e = some (.int .u8)) (hd : P.underlying dst = some .string) :
    (convert src dst (.slice (some ⟨w.heap.size, 0, none⟩) 1 1)).run P (w.alloc (.cells #[.int .u8 v] e)) = .ok (.string ⟨#[UInt8.ofNat v.toNat]⟩) (w.alloc (.cells #[.int .u8 v] e)) := by
  rw [run_convert_bytes_string _ src dst e _ 1 1 hs he hd]
  have hl := run_loadCells_list (P := P) (w.alloc (.cells #[.int .u8 v] e)) ⟨w.heap.size, 0, none⟩ [.int .u8 v] (fun j u hj => by
    rw [Addr.add_lit, cell_of_row _ w.heap.size (0 + j) _ e (0, 0) (heap_alloc_new w _)]
    simpa using hj)
  rw [run_bytesToString _ ⟨w.heap.size, 0, none⟩ 1 1 [v] hl]
  rfl

theorem dig_cat (u : UInt8) (out : List UInt8) : (⟨#[u]⟩ : ByteArray) ++ ⟨out.toArray⟩ = ⟨(u :: out).toArray⟩ := by
  apply ByteArray.ext
  simp
theorem ret_strM {a b : ByteArray} (h : a = b) : Ending.returned (.string a) = .returned (.string b) := by rw [h]

set_option maxHeartbeats 1000000 in
theorem markText_any (k : Nat) (w : World) (h0 : 0 < k) (hk : k < 1099511627776) :
    Calls Try.prog 76 #[.int .i64 k] w fun e w' => e = .returned (.string (markB k)) ∧ Below w.heap.size w w' := by
  go_enter Try.func76, Try.ntmps76
  go_wp2
  go_loopw [0, 3] (fun q v wr => ∃ n : Nat, ∃ out : List UInt8, n + out.length ≤ k ∧ q = .int .i64 n ∧ v = .string ⟨out.toArray⟩ ∧ Hid (digL n out = digL k []) ∧ w.heap.size ≤ wr.heap.size ∧ Below w.heap.size w wr)
    (fun q _ _ => (intOf q).toNat)
  case atStart => exact ⟨k, [], by simp, rfl, rfl, Lib.hid rfl, Nat.le_refl _, Below.refl _ _⟩
  case round =>
    obtain ⟨n, out, hn, rfl, rfl, HD, hsz, hb⟩ := hrel
    by_cases hp : 0 < n
    · have HX := (show digL (n / 10) (UInt8.ofNat (48 + n % 10) :: out) = digL k [] by rw [← digL_pos hp, HD.out])
      have hm : n % 10 < 10 := Nat.mod_lt _ (by omega)
      have hd : n / 10 < n := by omega
      obtain ⟨r, hr⟩ : ∃ r, n % 10 = r := ⟨_, rfl⟩
      obtain ⟨q, hq⟩ : ∃ q, n / 10 = q := ⟨_, rfl⟩
      rw [hr] at hm HX
      rw [hq] at hd HX
      have e1 : (n : Int).tmod 10 = r := by rw [← hr]; exact (Int.ofNat_tmod n 10).symm
      have e2 : (n : Int).tdiv 10 = q := by rw [← hq]; exact (Int.ofNat_tdiv n 10).symm
      have e3 : IntKind.u8.wrap (48 + (r : Int)) = 48 + (r : Int) := by simp [IntKind.wrap, IntKind.bits, IntKind.signed]; omega
      obtain ⟨u, hu⟩ : ∃ u : UInt8, UInt8.ofNat (48 + r) = u := ⟨_, rfl⟩
      have hcv : ∀ w : World, (convert 115 9 (.slice (some ⟨w.heap.size, 0, none⟩) 1 1)).run Try.prog (w.alloc (.cells #[.int .u8 (48 + (r : Int))] 5)) = .ok (.string ⟨#[u]⟩) (w.alloc (.cells #[.int .u8 (48 + (r : Int))] 5)) := fun w => by
        rw [one_byte_string (P := Try.prog) w 115 9 5 (48 + (r : Int)) Try.ulB' Try.ulb' Try.uls', ← hu]
        have e : (48 + (r : Int)).toNat = 48 + r := by omega
        rw [e]
      rw [hu] at HX
      have HX := Lib.hid HX
      clear hr hq hu
      go_wp2
      go_roundw
      case rel => exact ⟨q, u :: out, by simp; omega, rfl, by rw [dig_cat], HX, Nat.le_trans hsz (heap_le_alloc _ _), hb.alloc hsz _⟩
      case measure => simp [intOf]; omega
    · obtain rfl : n = 0 := by omega
      have HE := Lib.hid (show (⟨#[109]⟩ : ByteArray) ++ ⟨out.toArray⟩ = markB k by
        have h := HD.out
        rw [digL_zero] at h
        rw [markB, ← h]
        apply ByteArray.ext
        simp)
      go_wp2
      go_ret
      exact ⟨ret_strM HE.out, hb⟩

theorem markText_is (z : Int) (t : ByteArray) (w : World) (h0 : 0 < z) (hk : z < 1099511627776) (ht : markB z.toNat = t) :
    Calls Try.prog 76 #[.int .i64 z] w fun e w' => e = .returned (.string t) ∧ Below w.heap.size w w' := by
  obtain ⟨k, rfl⟩ : ∃ k : Nat, z = k := ⟨z.toNat, by omega⟩
  subst ht
  exact markText_any k w (by omega) (by omega)

theorem grown_below {w w' : World} (h : Below w.heap.size w w') (row : Option Nat) : w.grownBy w' row := ⟨h.os, h.tape, h.output, h.size, fun k hk _ => h.block k hk⟩

/-! ### Slices of texts -/
theorem strs_len {w : World} {B : Nat} {e : TypeId} {a : Option Addr} {n c : Nat} {l : List ByteArray} (h : w.ownsRow B e 1 (.slice a n c) n (strsC l)) : n = l.length := by
  have := h.1
  rw [strsC_len] at this; omega

set_option maxHeartbeats 1000000 in
theorem eqStringS_same (a b : Option Addr) (n c d : Nat) (l : List ByteArray) (w : World) (hn : n = l.length) (hl : n < 1099511627776) (h1 : CellsAt w a (strsC l)) (h2 : CellsAt w b (strsC l)) :
    Calls Try.prog 43 #[.slice a n c, .slice b n d] w fun e w' => e = .returned (.bool true) ∧ ∃ q, w' = w.drewN q := by
  have HN := Lib.hid hn
  clear hn
  go_enter Try.func43, Try.ntmps43
  go_wp2
  go_loopw [5] (fun i wr => ∃ k : Nat, k ≤ n ∧ i = .int .i64 k ∧ ∃ q, wr = w.drewN q) (fun i _ => n - (intOf i).toNat)
  case atStart => exact ⟨0, Nat.zero_le _, rfl, 0, rfl⟩
  case round =>
    obtain ⟨k, hk, rfl, q, rfl⟩ := hrel
    by_cases hlt : k < n
    · have hkl : k < l.length := by rw [← HN.out]; exact hlt
      have hne : l ≠ [] := fun e => by rw [e] at hkl; simp at hkl
      obtain ⟨b1, o1, rfl, _, hc1⟩ := h1.str hne
      obtain ⟨b2, o2, rfl, _, hc2⟩ := h2.str hne
      have g1 := hc1 k hkl
      have g2 := hc2 k hkl
      obtain ⟨z, hz⟩ : ∃ z, l[k] = z := ⟨_, rfl⟩
      rw [hz] at g1 g2
      clear hz hc1 hc2 hne
      go_wp2
      go_quiet (fail)
      go_wp2
      go_roundw
      case rel => exact ⟨k + 1, by omega, by go_num, _, rfl⟩
      case measure => simp [intOf]; omega
    · go_wp2
      go_ret
      exact ⟨rfl, q, rfl⟩

/-- Texts that mark ascending numbers. -/
def marksT (m : Nat) (n : Nat) : List ByteArray := (List.range n).map fun i => markB (m + i)
theorem marksT_len (m n : Nat) : (marksT m n).length = n := by simp [marksT]
theorem marksT_get (m n k : Nat) (h : k < n) : (marksT m n)[k]'(by rw [marksT_len]; exact h) = markB (m + k) := by simp [marksT]
theorem marksT_step (m : Nat) (l : List ByteArray) (k : Nat) (h : k < l.length) {t : ByteArray} (ht : markB (m + k) = t) : (strsC (marksT m k ++ l.drop k)).set k (.string t) = strsC (marksT m (k + 1) ++ l.drop (k + 1)) := by
  have e : l.drop k = l[k] :: l.drop (k + 1) := (List.drop_eq_getElem_cons h)
  have e2 : (marksT m k ++ l.drop k).set k t = marksT m (k + 1) ++ l.drop (k + 1) := by
    rw [List.set_append, if_neg (by rw [marksT_len]; omega), marksT_len, Nat.sub_self, e, List.set_cons_zero, marksT, marksT, List.range_succ, List.map_append, List.append_assoc, ← ht]
    rfl
  rw [← e2, strsC, strsC, List.map_set]

set_option maxHeartbeats 2000000 in
theorem markStringS_any (B : Nat) (a : Option Addr) (n c : Nat) (l : List ByteArray) (m : Nat) (w : World) (hown : w.ownsRow B 9 1 (.slice a n c) n (strsC l)) (hn : n < 549755813888) (h0 : 0 < m) (hm : m < 549755813888) :
    Calls Try.prog 44 #[.slice a n c, .int .i64 m] w fun e w' => e = .returned (.int .i64 ((m : Int) + n)) ∧ w'.ownsRow B 9 1 (.slice a n c) n (strsC (marksT m n)) ∧ w.grownBy w' (Value.ownBlock (.slice a n c)) := by
  have hlen : l.length = n := (strs_len hown).symm
  have HL := Lib.hid hlen
  clear hlen
  go_enter Try.func44, Try.ntmps44
  go_wp2
  go_loopw [1, 5] (fun q i wr => ∃ k : Nat, k ≤ n ∧ i = .int .i64 k ∧ q = .int .i64 ((m : Int) + k) ∧ wr.ownsRow B 9 1 (.slice a n c) n (strsC (marksT m k ++ l.drop k)) ∧ w.grownBy wr (Value.ownBlock (.slice a n c))) (fun _ i _ => n - (intOf i).toNat)
  case atStart => exact ⟨0, Nat.zero_le _, rfl, by go_num, by simpa [marksT] using hown, World.grownBy.refl _ _⟩
  case round =>
    obtain ⟨k, hk, rfl, rfl, hownr, hg⟩ := hrel
    by_cases hlt : k < n
    · obtain ⟨g, rfl⟩ : ∃ g, a = some ⟨g, 0, none⟩ := by
        rcases hownr.2 with ⟨hv, h0⟩ | ⟨g, cap', cur, hv, _⟩
        · omega
        · exact ⟨g, (by simpa using hv : a = some ⟨g, 0, none⟩ ∧ c = cap').1⟩
      have hgs := (hownr.lt g rfl).2
      obtain ⟨t, ht⟩ : ∃ t, markB (m + k) = t := ⟨_, rfl⟩
      have HX := Lib.hid (marksT_step m l k (by rw [HL.out]; exact hlt) ht)
      have HT := Lib.hid ht
      clear ht
      have E0 : Hid ((m : Int) + (k : Int) = ((m + k : Nat) : Int)) := Lib.hid (by omega)
      go_wp2_with fail
      refine (markText_is _ t _ (by omega) (by omega) (by rw [E0.out]; exact HT.out)).mono ?_
      rintro e w1 ⟨rfl, hb1⟩
      have hown1 := ownsRow_below hownr hb1
      have hg1 := grownBy_trans hg (grown_below hb1 _)
      have hfz : w1.frozen? ⟨g, k, none⟩ = false := hown1.frozenAt k
      obtain ⟨z, hcell⟩ : ∃ z, w1.cell? ⟨g, k, none⟩ = some z := by
        rw [hown1.cellAt k (by omega)]
        exact ⟨_, List.getElem?_eq_getElem (by rw [strsC_len, List.length_append, marksT_len, List.length_drop, HL.out]; omega)⟩
      have hst := hown1.stored k (.string t)
      rw [HX.out] at hst
      obtain ⟨hs1, hs2⟩ := hst
      clear hownr hown1 hb1 hg
      go_wp2
      go_roundw
      case rel => exact ⟨k + 1, by omega, by go_num, by go_num, hs1, grownBy_trans hg1 hs2⟩
      case measure => simp [intOf]; omega
    · obtain rfl : k = n := by omega
      rw [show marksT m k ++ l.drop k = marksT m k from by rw [List.drop_of_length_le (by rw [HL.out]; exact Nat.le_refl _), List.append_nil]] at hownr
      go_wp2
      go_ret
      exact ⟨rfl, hownr, hg⟩



theorem Try.infoS' : (Try.prog.info? 9).map (fun i => (i.zero, i.size, i.bytes)) = some (some (.string ⟨#[]⟩), 1, 16) := by kernel_rfl

/-- How much room a law has left behind its texts. -/
theorem szStringS_any (l : List ByteArray) (a : Option Addr) (n c left : Nat) (w : World) (hn : n = l.length) (hl : left ≤ 1048576) (hm : n ≤ maxLen) (hs : ∀ x ∈ l, x.size ≤ maxLen) (hat : CellsAt w a (strsC l)) :
    Calls Try.prog 39 #[.slice a n c, .int .i64 left] w fun e w' => (∃ r : Int, e = .returned (.int .i64 r) ∧ (r < 0 ∨ (r = (left : Int) - n - totalS l ∧ 0 ≤ r))) ∧ w = w' := by
  unfold maxLen at hm hs
  have HN := Lib.hid hn
  have HS := Lib.hid hs
  clear hn hs
  by_cases h0 : left < n
  · have e1 : IntKind.i64.wrap ((left : Int) - n) = (left : Int) - n := IntWalk.i64_in _ (by omega)
    have t1 : (left : Int) - n < 0 := by omega
    go_enter Try.func39, Try.ntmps39
    go_wp2
    go_ret
    exact ⟨⟨-1, rfl, .inl (by decide)⟩, rfl⟩
  · have e1 : IntKind.i64.wrap ((left : Int) - n) = (left : Int) - n := IntWalk.i64_in _ (by omega)
    have t1 : ¬ (left : Int) - n < 0 := by omega
    go_enter Try.func39, Try.ntmps39
    go_wp2
    go_loop [1, 5] (fun q i => ∃ k m : Nat, k ≤ n ∧ i = .int .i64 k ∧ q = .int .i64 m ∧ m ≤ 1048576 ∧ Hid ((m : Int) = (left : Int) - n - totalS (l.take k))) (fun _ i => n - (intOf i).toNat)
    case atStart => exact ⟨0, left - n, Nat.zero_le _, rfl, by congr 1; omega, by omega, Lib.hid (by simp only [List.take_zero, totalS_nil]; omega)⟩
    case round =>
      obtain ⟨k, m, hk, rfl, rfl, hm9, HM⟩ := hrel
      by_cases hlt : k < n
      · have hkl : k < l.length := by rw [← HN.out]; exact hlt
        obtain ⟨b, o, rfl, _, hc⟩ := hat.str (fun e => by rw [e] at hkl; simp at hkl)
        have g1 := hc k hkl
        have hxs := HS.out (l[k]) (List.getElem_mem hkl)
        have htk := totalS_take l k hkl
        have hto := totalS_take_le l (k + 1)
        obtain ⟨x, hx⟩ : ∃ x, l[k] = x := ⟨_, rfl⟩
        rw [hx] at g1 hxs htk
        have HT := Lib.hid htk
        have HO := Lib.hid hto
        clear hc hx htk hto
        have e2 : IntKind.i64.wrap ((m : Int) - x.size) = (m : Int) - x.size := IntWalk.i64_in _ (by omega)
        by_cases hx : m < x.size
        · have t2 : (m : Int) - x.size < 0 := by omega
          go_wp2
          go_ret
          exact ⟨⟨-1, rfl, .inl (by decide)⟩, rfl⟩
        · have t2 : ¬ (m : Int) - x.size < 0 := by omega
          go_wp2
          go_round
          case rel => exact ⟨k + 1, m - x.size, by omega, by go_num, by congr 1; omega, by omega, Lib.hid (by have h1 := HM.out; have h2 := HT.out; omega)⟩
          case measure => simp [intOf]; omega
      · obtain rfl : k = n := by omega
        have hE : l.take k = l := List.take_of_length_le (by rw [HN.out]; exact Nat.le_refl _)
        have h1 := HM.out
        rw [hE] at h1
        have HE := Lib.hid h1
        clear hE h1 e1 t1
        go_wp2
        go_ret
        exact ⟨⟨m, rfl, .inr ⟨HE.out, by omega⟩⟩, rfl⟩

set_option maxHeartbeats 1000000 in
/-- The laws' copy of a slice of texts: a row of its own. -/
theorem toStringS_any (l : List ByteArray) (a : Option Addr) (n c : Nat) (w : World) (hn : n = l.length) (hm : n ≤ 1048576) (hat : CellsAt w a (strsC l)) :
    Calls Try.prog 41 #[.slice a n c] w fun e w' => ∃ a', e = .returned (.slice a' n n) ∧ One w w.heap.size w' 9 1 a' n n (strsC l) := by
  obtain ⟨zs, w1, hmk, hzl, hone⟩ := make_own (P := Try.prog) 53 9 Try.ulS' Try.infoS' n (by omega) (by unfold maxLen; omega) w
  have HN := Lib.hid hn
  have HZ := Lib.hid hzl
  clear hn hzl
  go_enter Try.func41, Try.ntmps41
  go_wp2
  clear hmk
  go_loopw [4] (fun i wr => ∃ k : Nat, k ≤ n ∧ i = .int .i64 k ∧ One w w.heap.size wr 9 1 (some ⟨w.heap.size, 0, none⟩) n n (strsC (l.take k) ++ zs.drop k)) (fun i _ => n - (intOf i).toNat)
  case atStart => exact ⟨0, Nat.zero_le _, rfl, by simpa [strsC] using hone⟩
  case round =>
    clear hone
    obtain ⟨k, hk, rfl, hone⟩ := hrel
    by_cases hlt : k < n
    · have hkl : k < l.length := by rw [← HN.out]; exact hlt
      obtain ⟨b, o, rfl, _, hc⟩ := (hat.below hone.below).str (fun e => by rw [e] at hkl; simp at hkl)
      have g1 := hc k hkl
      obtain ⟨t, ht⟩ : ∃ t, l[k] = t := ⟨_, rfl⟩
      rw [ht] at g1
      have hst := hone.stored k (.string t)
      rw [set_next (by rw [strsC_len, List.length_take]; omega) (by rw [HZ.out]; omega), ← ht, ← strsC_take l k hkl] at hst
      obtain ⟨z, hz⟩ := hone.cell k (by omega)
      have hfz := hone.frozen k
      rw [ht] at hst
      clear hc hone ht
      go_wp2
      go_roundw
      case rel => exact ⟨k + 1, by omega, by go_num, hst⟩
      case measure => simp [intOf]; omega
    · obtain rfl : k = n := by omega
      have hE : strsC (l.take k) ++ zs.drop k = strsC l := by
        rw [List.take_of_length_le (by rw [HN.out]; exact Nat.le_refl _), List.drop_of_length_le (by rw [HZ.out]; omega), List.append_nil]
      rw [hE] at hone
      clear hE
      go_wp2
      go_ret
      exact ⟨_, rfl, hone⟩

end Go.Proofs.Ytbnagmjhdnnheaa

namespace Go.Proofs.Ytbnagmjhdnnheaa
open Go.RowKit

theorem below_same {w w' : World} (h : w = w') : Below w.heap.size w w' := by subst h; exact Below.refl _ _
theorem below_drawn {w w' : World} (h : ∃ q, w' = w.drewN q) : Below w.heap.size w w' := by obtain ⟨q, rfl⟩ := h; exact below_drewN' (Below.refl _ _) q

theorem eqStringS_b (a b : Option Addr) (n c d : Nat) (l : List ByteArray) (w : World) (hn : n = l.length) (hl : n < 274877906944) (h1 : CellsAt w a (strsC l)) (h2 : CellsAt w b (strsC l)) :
    Calls Try.prog 43 #[.slice a n c, .slice b n d] w fun e w' => e = .returned (.bool true) ∧ Below w.heap.size w w' :=
  (eqStringS_same a b n c d l w hn (by omega) h1 h2).mono fun _ _ h => ⟨h.1, below_drawn h.2⟩

theorem markStringS_z (B : Nat) (a : Option Addr) (n c : Nat) (l : List ByteArray) (z : Int) (m : Nat) (w : World) (hown : w.ownsRow B 9 1 (.slice a n c) n (strsC l)) (hz : z = m) (hn : n < 68719476736) (h0 : 0 < m) (hm : m < 274877906944) :
    Calls Try.prog 44 #[.slice a n c, .int .i64 z] w fun e w' => e = .returned (.int .i64 ((m + n * 1 : Nat) : Int)) ∧ w'.ownsRow B 9 1 (.slice a n c) n (strsC (marksT m n)) ∧ w.grownBy w' (Value.ownBlock (.slice a n c)) := by
  subst hz
  refine (markStringS_any B a n c l m w hown (by omega) h0 (by omega)).mono fun _ _ h => ⟨h.1.trans (ret_int (by omega)), h.2⟩


/-- A slice of ints that reads as these numbers, in the words of the elder texts. -/
theorem CellsAt.ints {w : World} {a : Option Addr} {l : List Int} (h : CellsAt w a (intCells l)) : IntsAt w a l :=
  ⟨fun hne => by
    obtain ⟨b, o, ha, _, hc⟩ := h.spot (by simpa [intCells] using hne)
    refine ⟨b, o, ha, fun j hj => hc j _ ?_⟩
    simp [intCells, List.getD, List.getElem?_eq_getElem hj]⟩

theorem ints_len {w : World} {B : Nat} {e : TypeId} {a : Option Addr} {n c : Nat} {l : List Int} (h : w.ownsRow B e 1 (.slice a n c) n (intCells l)) : n = l.length := by
  have := h.1
  simp only [intCells, List.length_map] at this; omega

theorem eqIntS_b (a b : Option Addr) (n c d : Nat) (l : List Int) (w : World) (hn : n = l.length) (hl : n < 274877906944) (h1 : CellsAt w a (intCells l)) (h2 : CellsAt w b (intCells l)) :
    Calls Try.prog 20 #[.slice a n c, .slice b n d] w fun e w' => e = .returned (.bool true) ∧ Below w.heap.size w w' := by
  subst hn
  exact (eqIntS_same a b c d l w (by omega) h1.ints h2.ints).mono fun _ _ h => ⟨h.1, below_drawn h.2⟩

theorem markIntS_z (B : Nat) (a : Option Addr) (n c : Nat) (l : List Int) (z : Int) (m : Nat) (w : World) (hown : w.ownsRow B 3 1 (.slice a n c) n (intCells l)) (hz : z = m) (hn : n < 68719476736) (_h0 : 0 < m) (hm : m < 274877906944) :
    Calls Try.prog 21 #[.slice a n c, .int .i64 z] w fun e w' => e = .returned (.int .i64 ((m + n * 1 : Nat) : Int)) ∧ w'.ownsRow B 3 1 (.slice a n c) n (intCells (marks m n)) ∧ w.grownBy w' (Value.ownBlock (.slice a n c)) := by
  subst hz
  refine (markIntS_any B a n c l m w hown (by omega) (by omega) (by omega)).mono fun _ _ h => ⟨h.1.trans (ret_int (by omega)), h.2⟩

theorem heldIntS_z (a : Option Addr) (n c : Nat) (z : Int) (m : Nat) (w : World) (hat : CellsAt w a (intCells (marks m n))) (hz : z = m) (hn : n < 68719476736) (_h0 : 0 < m) (hm : m < 274877906944) :
    Calls Try.prog 22 #[.slice a n c, .int .i64 z] w fun e w' => e = .returned (.int .i64 ((m + n * 1 : Nat) : Int)) ∧ Below w.heap.size w w' := by
  subst hz
  refine (heldIntS_any a n c m w hat.ints (by omega) (by omega) (by omega)).mono fun _ _ h => ⟨h.1.trans (ret_int (by omega)), below_same h.2⟩




end Go.Proofs.Ytbnagmjhdnnheaa

namespace Go.Proofs.Ytbnagmjhdnnheaa
open Go.RowKit Go.ChangeShapes Go.WideShapes Go.Deep

theorem list_choose {α : Type} {R : Nat → α → Prop} : ∀ n : Nat, (∀ i, i < n → ∃ x, R i x) → ∃ l : List α, l.length = n ∧ ∀ i (h : i < l.length), R i l[i]
  | 0, _ => ⟨[], rfl, fun i h => absurd h (by simp)⟩
  | n + 1, h => by
    obtain ⟨l, hl, hR⟩ := list_choose n (fun i hi => h i (by omega))
    obtain ⟨x, hx⟩ := h n (by omega)
    refine ⟨l ++ [x], by simp [hl], fun i hi => ?_⟩
    by_cases hin : i < l.length
    · rw [List.getElem_append_left hin]; exact hR i hin
    · have : i = n := by simp at hi; omega
      subst this
      rw [List.getElem_append_right (by omega)]
      simpa [hl] using hx

/-- The cells of a slice, element by element. -/
theorem cellsAt_elems {α : Type} {w : World} {a : Addr} (enc : α → List Value) (size : Nat) (hs : 0 < size) (hlen : ∀ x, (enc x).length = size) (l : List α)
    (h : ∀ i (hi : i < l.length) j, j < size → w.cell? (a.add (i * size + j)) = (enc l[i])[j]?) : CellsAt w (some a) (l.flatMap enc) := by
  refine ⟨fun hne => ?_⟩
  have hl0 : 0 < l.length := by
    cases l with
    | nil => exact absurd rfl hne
    | cons x l => simp
  obtain ⟨b, o, sp⟩ := a
  have c0 := h 0 hl0 0 hs
  rw [Nat.zero_mul, Nat.add_zero, List.getElem?_eq_getElem (by rw [hlen]; exact hs)] at c0
  have hsp : sp = none := by simpa [Addr.add] using World.cell?_spot c0
  subst hsp
  refine ⟨b, o, rfl, by simpa [Addr.add] using World.block_lt_of_cell? w _ c0, fun j v hj => ?_⟩
  have hjl : j < l.length * size := by
    have := (List.getElem?_eq_some_iff.1 hj).1
    rwa [flat_len enc size hlen] at this
  have hi : j / size < l.length := Nat.div_lt_of_lt_mul (by rw [Nat.mul_comm]; exact hjl)
  have hr : j % size < size := Nat.mod_lt _ hs
  have e : j / size * size + j % size = j := by rw [Nat.mul_comm]; exact Nat.div_add_mod j size
  have hc := h (j / size) hi (j % size) hr
  rw [e, Addr.add_lit] at hc
  rw [hc]
  have hf := flat_get enc size hlen l (j / size) (j % size) hi hr
  rw [e, hj] at hf
  exact hf.symm

theorem map_flat {α : Type} (f : α → Value) (l : List α) : l.map f = l.flatMap (fun s => [f s]) := by
  induction l with
  | nil => rfl
  | cons x l ih => simp [ih]

section
variable {H : Type} {enc : TypeId × Value → H} {P : Program} {w : World} {spare : Nat → Bool} {held : Bool}

/-- A slice that came in, with what each element reads as. -/
theorem open_elems {α : Type} {t e : TypeId} {a : Option Addr} {n c : Nat} {d : DataW H} {p : List MemPlace} (cellsOf : α → List Value) (size : Nat) (ok : α → Prop) (hs : 0 < size) (hlen : ∀ x, (cellsOf x).length = size)
    (ht : P.underlying t = some (.slice e)) (hC : P.cellsOf e = size)
    (hel : ∀ fuel cs x, cs.length = size → DataW.trod enc P w 0 spare held fuel e cs = some x → ∃ y, cs = cellsOf y ∧ ok y)
    (h : DataW.Trod enc P w 0 spare held t (.slice a n c) d p) : ∃ l : List α, n = l.length ∧ n ≤ c ∧ c ≤ maxLen ∧ (∀ x ∈ l, ok x) ∧ CellsAt w a (l.flatMap cellsOf) := by
  obtain ⟨fuel, hf⟩ := h
  rcases open_slice ht hf with ⟨hcs, _⟩ | ⟨x, len, cap, m, nn, D, Pl, hcs, _, hl, hm, hmm, _, hi⟩
  · simp [Value.cells] at hcs
    obtain ⟨rfl, rfl, rfl⟩ := hcs
    exact ⟨[], rfl, Nat.le_refl _, by decide, fun x hx => absurd hx (by simp), cellsAt_nil _ _⟩
  · simp [Value.cells] at hcs
    obtain ⟨rfl, rfl, rfl⟩ := hcs
    have hnm : n ≤ m := by rw [hmm]; split <;> omega
    obtain ⟨l, hll, hR⟩ := list_choose (R := fun i y => ok y ∧ ∀ j, j < size → w.cell? (x.add (i * size + j)) = (cellsOf y)[j]?) n (fun i hi' => by
      obtain ⟨cs', hc, ht'⟩ := hi i (by omega)
      rw [hC] at hc
      obtain ⟨_, hcl, hat⟩ := World.cells?_some hc
      obtain ⟨y, rfl, hy⟩ := hel nn cs' _ hcl ht'
      exact ⟨y, hy, fun j hj => by rw [← Go.Deep.add_add]; exact hat j hj⟩)
    refine ⟨l, hll.symm, hl, hm, fun y hy => ?_, cellsAt_elems cellsOf size hs hlen l (fun i hi' j hj => (hR i hi').2 j hj)⟩
    obtain ⟨i, hi', rfl⟩ := List.getElem_of_mem hy
    exact (hR i hi').1

/-- The one-cell fields of a record. -/
theorem open_fields {e : TypeId} {fs : Array Field} {fuel : Nat} {cs : List Value} {x : DataW H × List MemPlace} (he : P.underlying e = some (.struct fs)) (hone : oneCellFields P fs = true) (hl : cs.length = fs.size)
    (h : DataW.trod enc P w 0 spare held fuel e cs = some x) : ∀ (j : Nat) (f : Field), fs[j]? = some f → ∃ v y n, cs[j]? = some v ∧ DataW.trod enc P w 0 spare held n f.type [v] = some y := by
  obtain ⟨xs, n, _, _, _, hxl, hg⟩ := DataW.trod_struct he h
  intro j f hj
  obtain ⟨h1, h2⟩ := hone_of hone j f hj
  have hjl : j < fs.size := (Array.getElem?_eq_some_iff.1 hj).1
  have hgj := hg j f hj
  have hcj : j < cs.length := by omega
  rw [h1, h2, List.drop_eq_getElem_cons hcj, List.getElem?_eq_getElem (by omega)] at hgj
  exact ⟨cs[j], _, n, List.getElem?_eq_getElem hcj, hgj⟩

theorem open_strs {t e : TypeId} {a : Option Addr} {n c : Nat} {d : DataW H} {p : List MemPlace} (ht : P.underlying t = some (.slice e)) (he : P.underlying e = some .string) (hC : P.cellsOf e = 1)
    (h : DataW.Trod enc P w 0 spare held t (.slice a n c) d p) : ∃ l : List ByteArray, n = l.length ∧ n ≤ c ∧ c ≤ maxLen ∧ (∀ x ∈ l, x.size ≤ maxLen) ∧ CellsAt w a (strsC l) := by
  obtain ⟨l, h1, h2, h3, h4, h5⟩ := open_elems (fun s : ByteArray => [Value.string s]) 1 (fun s => s.size ≤ maxLen) (by decide) (fun _ => rfl) ht hC (fun fuel cs x _ hx => by
    obtain ⟨s, rfl, _, hw⟩ := DataW.trod_string he hx
    exact ⟨s, rfl, hw⟩) h
  refine ⟨l, h1, h2, h3, h4, ?_⟩
  rw [strsC, map_flat]; exact h5

theorem open_ints' {t e : TypeId} {a : Option Addr} {n c : Nat} {d : DataW H} {p : List MemPlace} (ht : P.underlying t = some (.slice e)) (he : P.underlying e = some (.int .i64)) (hC : P.cellsOf e = 1)
    (h : DataW.Trod enc P w 0 spare held t (.slice a n c) d p) : ∃ l : List Int, n = l.length ∧ n ≤ c ∧ c ≤ maxLen ∧ (∀ x ∈ l, (Lit.int .i64 x).wf = true) ∧ CellsAt w a (intCells l) := by
  obtain ⟨l, h1, h2, h3, h4, h5⟩ := open_elems (fun s : Int => [Value.int .i64 s]) 1 (fun s => (Lit.int .i64 s).wf = true) (by decide) (fun _ => rfl) ht hC (fun fuel cs x _ hx => by
    obtain ⟨s, rfl, _, hw⟩ := DataW.trod_int he hx
    exact ⟨s, rfl, hw⟩) h
  refine ⟨l, h1, h2, h3, h4, ?_⟩
  rw [intCells, map_flat]; exact h5
end

end Go.Proofs.Ytbnagmjhdnnheaa
