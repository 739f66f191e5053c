/-
  Plain mathematics of chapter 1: each sign is what the byte at its place becomes, and the places are ascending. No conditions.
-/
import Derived.Test.YtnbogoklmjnneaaMathTidy
namespace Go.Proofs.Ytnbogoklmjnneaa

theorem getD_snoc {α : Type} (l : List α) (x d : α) (j : Nat) : (l ++ [x]).getD j d = if j < l.length then l.getD j d else if j = l.length then x else d := by
  simp only [List.getD]
  by_cases h : j < l.length
  · rw [if_pos h, List.getElem?_append_left h]
  · rw [if_neg h, List.getElem?_append_right (by omega)]
    by_cases h2 : j = l.length
    · subst h2; simp
    · rw [if_neg h2]
      have : j - l.length ≠ 0 := by omega
      obtain ⟨m, hm⟩ : ∃ m, j - l.length = m + 1 := ⟨j - l.length - 1, by omega⟩
      rw [hm]; rfl

/-- What holds of the machine behind the first k bytes. -/
structure Inv (s : List UInt8) (k : Nat) (st : AS) : Prop where
  len : st.at_.length = st.out.length
  sign : ∀ j, j < st.out.length → 0 ≤ st.at_.getD j 0 ∧ st.at_.getD j 0 < k ∧ signOf (s.getD (st.at_.getD j 0).toNat 0).toNat = (st.out.getD j 0).toNat
  rise : ∀ j, j + 1 < st.out.length → st.at_.getD j 0 < st.at_.getD (j + 1) 0
  gap : 0 ≤ st.gap → st.gap < k ∧ signOf (s.getD st.gap.toNat 0).toNat = 32 ∧ ∀ j, j < st.out.length → st.at_.getD j 0 < st.gap
  back : ∀ j, j < st.out.length → st.out.getD j 0 ≠ 32 → (stA s ((st.at_.getD j 0).toNat + 1)).out.length = j + 1 ∧ (stA s ((st.at_.getD j 0).toNat + 1)).out <+: st.out

theorem inv_all (s : List UInt8) (k : Nat) : Inv s k (stA s k) := by
  induction k with
  | zero => exact ⟨rfl, fun j hj => by simp [stA] at hj, fun j hj => by simp [stA] at hj, fun h => by simp [stA] at h, fun j hj => by simp [stA] at hj⟩
  | succ k ih =>
    obtain ⟨i1, i2, i3, i4, i5⟩ := ih
    have hsucc : stA s (k + 1) = (stA s k).step k (s.getD k 0) := rfl
    by_cases hb : signOf (s.getD k 0).toNat = 32
    · by_cases hg : (stA s k).gap < 0
      · rw [hsucc, step_gap hb hg]
        refine ⟨i1, fun j hj => ?_, i3, fun _ => ⟨by dsimp only; omega, by simpa using hb, fun j hj => ?_⟩, i5⟩
        · obtain ⟨a, b, c⟩ := i2 j hj
          exact ⟨a, Int.lt_trans b (by omega), c⟩
        · have hj' : j < (stA s k).out.length := hj
          exact (i2 j hj').2.1
      · rw [hsucc, step_gap_on hb hg]
        refine ⟨i1, fun j hj => ?_, i3, fun h => ?_, i5⟩
        · obtain ⟨a, b, c⟩ := i2 j hj
          exact ⟨a, by omega, c⟩
        · obtain ⟨a, b, c⟩ := i4 h
          exact ⟨by omega, b, c⟩
    · have hsg := sg_toNat (s.getD k 0)
      have hne := sg_ne (s.getD k 0) hb
      by_cases hg : 0 ≤ (stA s k).gap ∧ (stA s k).out ≠ []
      · have hstep := step_two hb hg.1 hg.2 (st := stA s k) (k := k)
        obtain ⟨g1, g2, g3⟩ := i4 hg.1
        have hl : 0 < (stA s k).out.length := List.length_pos_iff.2 hg.2
        rw [hsucc, hstep]
        refine ⟨by simp [i1], fun j hj => ?_, fun j hj => ?_, fun h => by simp at h, fun j hj hj32 => ?_⟩
        · simp only [List.length_append, List.length_cons, List.length_nil] at hj
          simp only [getD_snoc, List.length_append, List.length_cons, List.length_nil, i1]
          by_cases h1 : j < (stA s k).out.length
          · rw [if_pos (by omega), if_pos h1, if_pos (by omega), if_pos h1]
            obtain ⟨a, b, c⟩ := i2 j h1
            exact ⟨a, by omega, c⟩
          · by_cases h2 : j = (stA s k).out.length
            · rw [if_pos (by omega), if_neg h1, if_pos h2, if_pos (by omega), if_neg h1, if_pos h2]
              exact ⟨hg.1, by omega, g2⟩
            · have h3 : j = (stA s k).out.length + 1 := by omega
              rw [if_neg (by omega), if_pos (by omega), if_neg (by omega), if_pos (by omega)]
              exact ⟨by omega, by omega, by rw [Int.toNat_natCast]; exact hsg.symm⟩
        · simp only [List.length_append, List.length_cons, List.length_nil] at hj
          simp only [getD_snoc, List.length_append, List.length_cons, List.length_nil, i1]
          by_cases h1 : j + 1 < (stA s k).out.length
          · rw [if_pos (by omega), if_pos (by omega), if_pos (by omega), if_pos h1]
            exact i3 j h1
          · by_cases h2 : j + 1 = (stA s k).out.length
            · rw [if_pos (by omega), if_pos (by omega), if_pos (by omega), if_neg h1, if_pos h2]
              exact g3 j (by omega)
            · rw [if_pos (by omega), if_neg (by omega), if_pos (by omega), if_neg (by omega), if_pos (by omega)]
              omega
        · simp only [List.length_append, List.length_cons, List.length_nil] at hj
          simp only [getD_snoc, List.length_append, List.length_cons, List.length_nil, i1] at hj32 ⊢
          by_cases h1 : j < (stA s k).out.length
          · rw [if_pos (by omega), if_pos h1] at hj32
            rw [if_pos (by omega), if_pos h1]
            obtain ⟨a, b⟩ := i5 j h1 hj32
            exact ⟨a, b.trans ⟨[32] ++ [UInt8.ofNat (signOf (s.getD k 0).toNat).toNat], by simp⟩⟩
          · by_cases h2 : j = (stA s k).out.length
            · rw [if_pos (by omega), if_neg h1, if_pos h2] at hj32
              exact absurd rfl hj32
            · rw [if_neg (by omega), if_pos (by omega), Int.toNat_natCast, hsucc, hstep]
              exact ⟨by simp; omega, List.prefix_refl _⟩
      · have hg' : (stA s k).gap < 0 ∨ (stA s k).out = [] := by
          by_cases h : (stA s k).gap < 0
          · exact Or.inl h
          · exact Or.inr (Classical.byContradiction fun h2 => hg ⟨by omega, h2⟩)
        have hstep := step_one hb hg' (st := stA s k) (k := k)
        rw [hsucc, hstep]
        refine ⟨by simp [i1], fun j hj => ?_, fun j hj => ?_, fun h => by simp at h, fun j hj hj32 => ?_⟩
        · simp only [List.length_append, List.length_cons, List.length_nil] at hj
          simp only [getD_snoc, i1]
          by_cases h1 : j < (stA s k).out.length
          · rw [if_pos h1, if_pos h1]
            obtain ⟨a, b, c⟩ := i2 j h1
            exact ⟨a, by omega, c⟩
          · rw [if_neg h1, if_pos (by omega), if_neg h1, if_pos (by omega)]
            exact ⟨by omega, by omega, by rw [Int.toNat_natCast]; exact hsg.symm⟩
        · simp only [List.length_append, List.length_cons, List.length_nil] at hj
          simp only [getD_snoc, i1]
          by_cases h1 : j + 1 < (stA s k).out.length
          · rw [if_pos (by omega), if_pos h1]
            exact i3 j h1
          · rw [if_pos (by omega), if_neg h1, if_pos (by omega)]
            exact (i2 j (by omega)).2.1
        · simp only [List.length_append, List.length_cons, List.length_nil] at hj
          simp only [getD_snoc, i1] at hj32 ⊢
          by_cases h1 : j < (stA s k).out.length
          · rw [if_pos h1] at hj32
            rw [if_pos h1]
            obtain ⟨a, b⟩ := i5 j h1 hj32
            exact ⟨a, b.trans ⟨[UInt8.ofNat (signOf (s.getD k 0).toNat).toNat], rfl⟩⟩
          · rw [if_neg h1, if_pos (by omega), Int.toNat_natCast, hsucc, hstep]
            exact ⟨by simp; omega, List.prefix_refl _⟩

/-- The signs of a text made alike and their places. -/
theorem alike_places (s : List UInt8) (j : Nat) (h : j < (alikeP s).length) : 0 ≤ (alikeP s).getD j 0 ∧ (alikeP s).getD j 0 < s.length ∧ signOf (s.getD ((alikeP s).getD j 0).toNat 0).toNat = ((alikeT s).getD j 0).toNat :=
  (inv_all s s.length).sign j (by rw [← (inv_all s s.length).len]; exact h)
theorem alike_rising (s : List UInt8) (j : Nat) (h : j + 1 < (alikeP s).length) : (alikeP s).getD j 0 < (alikeP s).getD (j + 1) 0 :=
  (inv_all s s.length).rise j (by rw [← (inv_all s s.length).len]; exact h)

/-- The machine on a text that begins with a sign, behind whatever was written. -/
theorem outM_from (x : List UInt8) (p : Bool) (b : UInt8) (l : List UInt8) (hb : signOf b.toNat ≠ 32) :
    (b :: l).foldl outM (x, p) = ((if p = true ∧ x ≠ [] then x ++ [32] else x) ++ ((b :: l).foldl outM ([], false)).1, ((b :: l).foldl outM ([], false)).2) ∧ ((b :: l).foldl outM ([], false)).1 ≠ [] := by
  induction l using rev_ind with
  | h0 =>
    simp only [List.foldl_cons, List.foldl_nil]
    rw [outM_one (x := []) hb (Or.inl rfl)]
    cases p with
    | false => rw [outM_one hb (Or.inl rfl)]; simp
    | true =>
      by_cases hx : x = []
      · rw [outM_one hb (Or.inr hx)]; simp [hx]
      · rw [outM_two hb hx]; simp [hx]
  | h1 l c ih =>
    obtain ⟨ih, hne⟩ := ih
    rw [← List.cons_append, List.foldl_append, List.foldl_append, ih]
    simp only [List.foldl_cons, List.foldl_nil] at hne ⊢
    generalize List.foldl outM (outM ([], false) b) l = r at *
    generalize (if p = true ∧ x ≠ [] then x ++ [32] else x) = y at *
    obtain ⟨r1, r2⟩ := r
    have hy : y ++ r1 ≠ [] := fun e => hne (List.append_eq_nil_iff.1 e).2
    by_cases hc : signOf c.toNat = 32
    · rw [outM_gap hc, outM_gap hc]
      exact ⟨rfl, hne⟩
    · cases r2 with
      | true =>
        rw [outM_two hc hy, outM_two hc hne]
        simp
      | false =>
        rw [outM_one hc (Or.inl rfl), outM_one hc (Or.inl rfl)]
        simp

theorem alike_take (s : List UInt8) (k : Nat) (hk : k ≤ s.length) : (stA s k).out = alikeT (s.take k) := by
  rw [(stA_outM s k hk).1, alikeT_eq]

/-- A span that goes back is the same one made alike, if it neither begins nor ends with a space. -/
theorem alike_span (s : List UInt8) (x y : Nat) (hxy : x ≤ y) (hy : y < (alikeT s).length) (h1 : (alikeT s).getD x 0 ≠ 32) (h2 : (alikeT s).getD y 0 ≠ 32) :
    alikeT ((s.take (((alikeP s).getD y 0).toNat + 1)).drop ((alikeP s).getD x 0).toNat) = ((alikeT s).take (y + 1)).drop x := by
  have hinv := inv_all s s.length
  have hlen : (alikeP s).length = (alikeT s).length := hinv.len
  obtain ⟨px0, px1, px2⟩ := alike_places s x (by omega)
  obtain ⟨py0, py1, _⟩ := alike_places s y (by omega)
  obtain ⟨bx1, bx2⟩ := hinv.back x (show x < (alikeT s).length by omega) h1
  obtain ⟨by1, by2⟩ := hinv.back y hy h2
  have hmono : ∀ i d, i + d < (alikeP s).length → (alikeP s).getD i 0 ≤ (alikeP s).getD (i + d) 0 := by
    intro i d
    induction d with
    | zero => intro _; exact Int.le_refl _
    | succ d ih =>
      intro h
      have a := ih (by omega)
      have b := alike_rising s (i + d) (by omega)
      rw [show i + (d + 1) = i + d + 1 from rfl]
      omega
  have hle : (alikeP s).getD x 0 ≤ (alikeP s).getD y 0 := by
    have := hmono x (y - x) (by omega)
    rwa [show x + (y - x) = y by omega] at this
  change (stA s (((alikeP s).getD x 0).toNat + 1)).out.length = x + 1 at bx1
  change (stA s (((alikeP s).getD x 0).toNat + 1)).out <+: alikeT s at bx2
  change (stA s (((alikeP s).getD y 0).toNat + 1)).out.length = y + 1 at by1
  change (stA s (((alikeP s).getD y 0).toNat + 1)).out <+: alikeT s at by2
  obtain ⟨px, hpx⟩ : ∃ p : Nat, ((alikeP s).getD x 0).toNat = p := ⟨_, rfl⟩
  obtain ⟨py, hpy⟩ : ∃ p : Nat, ((alikeP s).getD y 0).toNat = p := ⟨_, rfl⟩
  rw [hpx] at px2 bx1 bx2 ⊢
  rw [hpy] at by1 by2 ⊢
  have hpl : px ≤ py ∧ py < s.length := by omega
  clear hmono hle px0 px1 py0 py1 hpx hpy
  -- the text up to the end of the span: what is ahead of it, and the span
  have e1 : s.take (py + 1) = s.take px ++ (s.take (py + 1)).drop px := by
    conv => lhs; rw [← List.take_append_drop px (s.take (py + 1))]
    rw [List.take_take, Nat.min_eq_left (by omega)]
  have hd : (s.take (py + 1)).drop px = s[px] :: ((s.take (py + 1)).drop (px + 1)) := by
    rw [List.drop_eq_getElem_cons (by rw [List.length_take]; omega)]
    rw [List.getElem_take]
  have hsx : signOf s[px].toNat ≠ 32 := by
    have e : s.getD px 0 = s[px] := by simp [List.getD, (by omega : px < s.length)]
    rw [e] at px2
    rw [px2]
    intro h
    exact h1 (UInt8.toNat_inj.1 (by show ((alikeT s).getD x 0).toNat = 32; omega))
  have hX := alike_take s (px + 1) (by omega)
  have hY := alike_take s (py + 1) (by omega)
  rw [hX] at bx1 bx2
  rw [hY] at by1 by2
  rw [alikeT_eq, e1, List.foldl_append] at by1 by2
  have e3 : s.take (px + 1) = s.take px ++ [s[px]] := List.take_succ_eq_append_getElem (by omega)
  rw [alikeT_eq, e3, List.foldl_append] at bx1
  rcases hF : (s.take px).foldl outM ([], false) with ⟨F, p⟩
  rw [hF] at by1 by2 bx1
  have ho := outM_from F p s[px] ((s.take (py + 1)).drop (px + 1)) hsx
  have ho1 := outM_from F p s[px] [] hsx
  rw [← hd] at ho
  rw [ho.1] at by1 by2
  rw [ho1.1] at bx1
  rw [← alikeT_eq] at by1 by2
  generalize (if p = true ∧ F ≠ [] then F ++ [32] else F) = G at *
  have hone : (List.foldl outM ([], false) [s[px]]).1.length = 1 := by
    simp only [List.foldl_cons, List.foldl_nil]
    rw [outM_one hsx (Or.inl rfl)]
    rfl
  simp only [List.length_append, hone] at bx1 by1
  obtain ⟨rest, hrest⟩ := by2
  simp only at hrest
  have hGx : G.length = x := by omega
  generalize alikeT (List.drop px (List.take (py + 1) s)) = M at *
  have e5 : (G ++ M).length = y + 1 := by rw [List.length_append]; exact by1
  rw [← hrest, List.take_append_of_le_length (by omega), List.take_of_length_le (by omega), ← hGx, List.drop_left]

theorem extract_list (s : ByteArray) (a b : Nat) : (s.extract a b).data.toList = (s.data.toList.take b).drop a := by
  rw [ByteArray.data_extract, Array.toList_extract, List.extract_eq_take_drop, List.drop_take]

theorem getD_byte (s : ByteArray) (k : Nat) (h : k < s.size) : s.data.toList.getD k 0 = s[k] := getD_at s k h

/-- A span that goes back, over strings. -/
theorem alikeB_span (s : ByteArray) (x y : Nat) (hxy : x ≤ y) (hy : y < (alikeB s).size) (h1 : (alikeB s)[x].toNat ≠ 32) (h2 : (alikeB s)[y].toNat ≠ 32) :
    alikeB (s.extract ((alikeP s.data.toList).getD x 0).toNat (((alikeP s.data.toList).getD y 0).toNat + 1)) = (alikeB s).extract x (y + 1) := by
  have e := alike_span s.data.toList x y hxy hy
    (by rw [← alikeB_list, getD_byte (alikeB s) x (by omega)]; intro h; exact h1 (by rw [h]; rfl))
    (by rw [← alikeB_list, getD_byte (alikeB s) y hy]; intro h; exact h2 (by rw [h]; rfl))
  apply ByteArray.ext
  apply Array.toList_inj.1
  rw [alikeB_list, extract_list, extract_list, alikeB_list, e]

theorem alikeB_span' (s T : ByteArray) (hT : alikeB s = T) (x y : Nat) (hxy : x ≤ y) (hy : y < T.size) (h1 : T[x].toNat ≠ 32) (h2 : T[y].toNat ≠ 32) :
    alikeB (s.extract ((alikeP s.data.toList).getD x 0).toNat (((alikeP s.data.toList).getD y 0).toNat + 1)) = T.extract x (y + 1) := by
  subst hT
  exact alikeB_span s x y hxy hy h1 h2

theorem alikeB_sign (s : ByteArray) (j : Nat) (h : j < (alikeB s).size) : ∃ p : Nat, (alikeP s.data.toList).getD j 0 = (p : Int) ∧ ∃ hp : p < s.size, signOf (s[p].toNat : Int) = ((alikeB s)[j].toNat : Int) := by
  have hl : (alikeP s.data.toList).length = (alikeB s).size := (alikeT_len s.data.toList).2
  obtain ⟨a, b, c⟩ := alike_places s.data.toList j (by omega)
  have hsz : s.data.toList.length = s.size := rfl
  refine ⟨((alikeP s.data.toList).getD j 0).toNat, by omega, by omega, ?_⟩
  rw [← getD_byte s _ (by omega), c, ← alikeB_list, getD_byte (alikeB s) j h]

/-- Whether the first k bytes are as in a tidy text. -/
def okAt (s : ByteArray) (k : Nat) : Bool :=
  decide (signOf ((s.data.toList.getD k 0).toNat : Int) = (s.data.toList.getD k 0).toNat) && (decide ((s.data.toList.getD k 0).toNat ≠ 32) || (decide (0 < k) && decide (k + 1 < s.size) && decide ((s.data.toList.getD (k - 1) 0).toNat ≠ 32)))
def okTo (s : ByteArray) : Nat → Bool
  | 0 => true
  | k + 1 => okTo s k && okAt s k

theorem ne32 (b : UInt8) : b ≠ 32 ↔ b.toNat ≠ 32 := by
  constructor
  · intro h e; exact h (UInt8.toNat_inj.1 (by show b.toNat = 32; exact e))
  · intro h e; exact h (by rw [e]; rfl)

theorem okAt_tidy (s : ByteArray) (k : Nat) : okAt s k = true ↔ TidyAt s.data.toList k := by
  unfold okAt TidyAt
  have hsz : s.data.toList.length = s.size := rfl
  simp only [Bool.and_eq_true, Bool.or_eq_true, decide_eq_true_eq, ne32, hsz, and_assoc]

theorem okTo_all (s : ByteArray) (k : Nat) : okTo s k = true ↔ ∀ i, i < k → TidyAt s.data.toList i := by
  induction k with
  | zero => simp [okTo]
  | succ k ih =>
    simp only [okTo, Bool.and_eq_true, ih, okAt_tidy]
    constructor
    · rintro ⟨a, b⟩ i hi
      by_cases h : i = k
      · subst h; exact b
      · exact a i (by omega)
    · intro h
      exact ⟨fun i hi => h i (by omega), h k (by omega)⟩

/-- A text is its own text made alike exactly if it is tidy. -/
theorem okTo_alike (s : ByteArray) : ((alikeB s).toList == s.toList) = okTo s s.size := by
  rw [Bool.eq_iff_iff, okTo_all, beq_iff_eq, ByteArray.toList_eq, ByteArray.toList_eq, alikeB_list]
  constructor
  · intro h i hi
    have ht := tidy_alike s.data.toList
    rw [h] at ht
    exact ht i hi
  · intro h
    exact (alike_tidy (t := s.data.toList) h).1

end Go.Proofs.Ytnbogoklmjnneaa
