/-
  Plain mathematics of chapter 1: what is made alike is tidy, what is tidy is as it is when it is made alike, and two texts with a gap between are made alike one by one. No conditions.
-/
import Derived.Test.YtdcdminjoehiiaaMathAlike
import Derived.Lib.SmallJoins
namespace Go.Proofs.Ytdcdminjoehiiaa

theorem rev_ind {α : Type} {P : List α → Prop} (h0 : P []) (h1 : ∀ (l : List α) (b : α), P l → P (l ++ [b])) (l : List α) : P l := by
  rw [← List.reverse_reverse l]
  induction l.reverse with
  | nil => exact h0
  | cons b l ih => rw [List.reverse_cons]; exact h1 _ _ ih

/-- The sign that a byte becomes. -/
def sg (b : UInt8) : UInt8 := UInt8.ofNat (signOf b.toNat).toNat

theorem sg_toNat (b : UInt8) : ((sg b).toNat : Int) = signOf b.toNat := by
  have h255 : b.toNat < 256 := b.toNat_lt
  have h : 0 ≤ signOf b.toNat ∧ signOf b.toNat ≤ 255 := by
    unfold signOf
    split
    · omega
    · split
      · omega
      · split <;> omega
  unfold sg
  rw [UInt8.toNat_ofNat', Nat.mod_eq_of_lt (by omega)]
  omega

theorem signOf_signOf (b : Int) (h0 : 0 ≤ b) (h9 : b ≤ 255) : signOf (signOf b) = signOf b := by
  rcases signOf_ways b with h | h | h | h | h | h | h | h | h | h
  all_goals first
    | (exfalso; omega)
    | (have hg := signOf_great (b := b) (by omega) (by omega); rw [hg]; exact signOf_same (by omega) (by omega) (by omega))
    | (have hg := signOf_same (b := b) (by omega) (by omega) (by omega); rw [hg]; exact hg)
    | (have hg := signOf_gap (b := b) (by omega) (by omega) (by omega) (by omega) (by omega); rw [hg]; exact signOf_gap (by omega) (by omega) (by omega) (by omega) (by omega))

theorem signOf_sg (b : UInt8) : signOf (sg b).toNat = (sg b).toNat := by
  rw [sg_toNat]
  exact signOf_signOf _ (by omega) (by have := b.toNat_lt; omega)

theorem signOf_32 : signOf 32 = 32 := by decide

/-- The machine without places: what is written, and whether a gap is open. -/
def outM (st : List UInt8 × Bool) (b : UInt8) : List UInt8 × Bool :=
  if signOf b.toNat = 32 then (st.1, true)
  else if st.2 = true ∧ st.1 ≠ [] then (st.1 ++ [32] ++ [sg b], false)
  else (st.1 ++ [sg b], false)

theorem stA_outM (s : List UInt8) (k : Nat) (hk : k ≤ s.length) : (stA s k).out = ((s.take k).foldl outM ([], false)).1 ∧ (0 ≤ (stA s k).gap ↔ ((s.take k).foldl outM ([], false)).2 = true) := by
  induction k with
  | zero => simp [stA]
  | succ k ih =>
    have hlt : k < s.length := by omega
    obtain ⟨i1, i2⟩ := ih (by omega)
    have e : s.take (k + 1) = s.take k ++ [s[k]] := List.take_succ_eq_append_getElem hlt
    have ed : s.getD k 0 = s[k] := by simp [List.getD, hlt]
    rw [e, List.foldl_append, List.foldl_cons, List.foldl_nil]
    generalize (s.take k).foldl outM ([], false) = r at i1 i2 ⊢
    simp only [stA, ed]
    unfold AS.step outM
    by_cases h : signOf s[k].toNat = 32
    · rw [if_pos h, if_pos h]
      refine ⟨i1, ?_⟩
      dsimp only
      split <;> (simp; try omega)
    · rw [if_neg h, if_neg h]
      by_cases h2 : 0 ≤ (stA s k).gap ∧ (stA s k).out ≠ []
      · rw [if_pos h2, if_pos ⟨i2.1 h2.1, by rw [← i1]; exact h2.2⟩]
        exact ⟨by rw [i1]; rfl, by simp⟩
      · rw [if_neg h2, if_neg (fun h3 => h2 ⟨i2.2 h3.1, by rw [i1]; exact h3.2⟩)]
        exact ⟨by rw [i1]; rfl, by simp⟩

theorem alikeT_eq (s : List UInt8) : alikeT s = (s.foldl outM ([], false)).1 := by
  have := (stA_outM s s.length (Nat.le_refl _)).1
  rwa [List.take_length] at this

/-- A text is tidy: it has just signs, and spaces stand between two signs that are none. -/
def TidyAt (l : List UInt8) (k : Nat) : Prop := signOf (l.getD k 0).toNat = (l.getD k 0).toNat ∧ (l.getD k 0 ≠ 32 ∨ (0 < k ∧ k + 1 < l.length ∧ l.getD (k - 1) 0 ≠ 32))
def Tidy (l : List UInt8) : Prop := ∀ k, k < l.length → TidyAt l k

theorem outM_nil (p : Bool) (l : List UInt8) : (l.foldl outM ([], p)).1 = (l.foldl outM ([], false)).1 ∧ ((l.foldl outM ([], false)).1 ≠ [] → (l.foldl outM ([], p)).2 = (l.foldl outM ([], false)).2) := by
  induction l using rev_ind with
  | h0 => simp
  | h1 l b ih =>
    simp only [List.foldl_append, List.foldl_cons, List.foldl_nil]
    obtain ⟨i1, i2⟩ := ih
    generalize l.foldl outM ([], p) = r at *
    generalize l.foldl outM ([], false) = r0 at *
    unfold outM
    by_cases h : signOf b.toNat = 32
    · rw [if_pos h, if_pos h]
      exact ⟨i1, fun _ => rfl⟩
    · rw [if_neg h, if_neg h]
      by_cases h0 : r0.1 = []
      · rw [if_neg (by rw [i1]; simp [h0]), if_neg (by simp [h0]), i1]
        exact ⟨rfl, fun _ => rfl⟩
      · rw [i1, i2 h0]
        exact ⟨rfl, fun _ => rfl⟩

theorem outM_gap {st : List UInt8 × Bool} {b : UInt8} (h : signOf b.toNat = 32) : outM st b = (st.1, true) := by unfold outM; rw [if_pos h]
theorem outM_two {x : List UInt8} {b : UInt8} (h : signOf b.toNat ≠ 32) (hx : x ≠ []) : outM (x, true) b = (x ++ [32] ++ [sg b], false) := by
  unfold outM; rw [if_neg h, if_pos ⟨rfl, hx⟩]
theorem outM_one {x : List UInt8} {p : Bool} {b : UInt8} (h : signOf b.toNat ≠ 32) (hx : p = false ∨ x = []) : outM (x, p) b = (x ++ [sg b], false) := by
  unfold outM; rw [if_neg h, if_neg (fun hh => hx.elim (fun e => by rw [e] at hh; exact absurd hh.1 (by simp)) (fun e => hh.2 e))]

/-- Behind an open gap: what is written is written behind a space. -/
theorem outM_behind (x : List UInt8) (hx : x ≠ []) (l : List UInt8) :
    l.foldl outM (x, true) = if (l.foldl outM ([], false)).1 = [] then (x, true) else (x ++ [32] ++ (l.foldl outM ([], false)).1, (l.foldl outM ([], false)).2) := by
  induction l using rev_ind with
  | h0 => simp
  | h1 l b ih =>
    simp only [List.foldl_append, List.foldl_cons, List.foldl_nil]
    rw [ih]
    generalize l.foldl outM ([], false) = r
    obtain ⟨y, p⟩ := r
    by_cases h : signOf b.toNat = 32
    · rw [outM_gap h (st := (y, p))]
      by_cases h0 : y = []
      · rw [if_pos h0, outM_gap h, if_pos h0]
      · rw [if_neg h0, outM_gap h, if_neg h0]
    · by_cases h0 : y = []
      · rw [if_pos h0, outM_two h hx, outM_one h (Or.inr h0), if_neg (by simp), h0]
        simp
      · rw [if_neg h0]
        cases p with
        | true =>
          rw [outM_two h h0, outM_two h (by simp), if_neg (by simp)]
          simp
        | false =>
          rw [outM_one h (Or.inl rfl), outM_one h (Or.inl rfl), if_neg (by simp)]
          simp

/-- Nothing is written exactly if all bytes are gaps. -/
theorem outM_gaps (l : List UInt8) (st : List UInt8 × Bool) (h : ∀ b ∈ l, signOf b.toNat = 32) (hne : l ≠ []) : l.foldl outM st = (st.1, true) := by
  induction l generalizing st with
  | nil => exact absurd rfl hne
  | cons b l ih =>
    rw [List.foldl_cons]
    have hb : outM st b = (st.1, true) := by unfold outM; rw [if_pos (h b (by simp))]
    rw [hb]
    cases l with
    | nil => rfl
    | cons c l => rw [ih (st.1, true) (fun x hx => h x (by simp [hx])) (by simp)]

theorem outM_grows (l : List UInt8) (st : List UInt8 × Bool) (h : (l.foldl outM st).1 = []) : st.1 = [] ∧ ∀ b ∈ l, signOf b.toNat = 32 := by
  induction l generalizing st with
  | nil => exact ⟨h, by simp⟩
  | cons b l ih =>
    rw [List.foldl_cons] at h
    obtain ⟨i1, i2⟩ := ih _ h
    unfold outM at i1
    by_cases hb : signOf b.toNat = 32
    · rw [if_pos hb] at i1
      exact ⟨i1, fun x hx => by
        rcases List.mem_cons.1 hx with rfl | hx
        · exact hb
        · exact i2 x hx⟩
    · rw [if_neg hb] at i1
      split at i1 <;> simp at i1

/-- Two texts with a gap between are made alike one by one. -/
theorem alike_join (a g b : List UInt8) (hg : alikeT g = []) (hne : g ≠ []) :
    alikeT (a ++ g ++ b) = if alikeT a ≠ [] ∧ alikeT b ≠ [] then alikeT a ++ [32] ++ alikeT b else alikeT a ++ alikeT b := by
  have hgap := (outM_grows g ([], false) (by rw [← alikeT_eq]; exact hg)).2
  rw [alikeT_eq, alikeT_eq a, alikeT_eq b, List.foldl_append, List.foldl_append, outM_gaps g _ hgap hne]
  by_cases ha : (a.foldl outM ([], false)).1 = []
  · rw [ha, if_neg (by simp), (outM_nil true b).1]
    simp
  · rw [outM_behind _ ha]
    by_cases hb : (b.foldl outM ([], false)).1 = []
    · rw [if_pos hb, if_neg (by simp [hb]), hb]
      simp
    · rw [if_neg hb, if_pos ⟨ha, hb⟩]

theorem getD_left (x y : List UInt8) (k : Nat) (h : k < x.length) : (x ++ y).getD k 0 = x.getD k 0 := by
  simp only [List.getD, List.getElem?_append_left h]
theorem getD_last (x : List UInt8) (c : UInt8) : (x ++ [c]).getD x.length 0 = c := by
  simp [List.getD]

theorem tidy_last {x : List UInt8} (hx : Tidy x) (hne : x ≠ []) : x.getD (x.length - 1) 0 ≠ 32 := by
  have hl : 0 < x.length := List.length_pos_iff.2 hne
  rcases (hx (x.length - 1) (by omega)).2 with h | h
  · exact h
  · omega

theorem tidy_snoc {x : List UInt8} {c : UInt8} (hx : Tidy x) (hc : signOf c.toNat = c.toNat) (h32 : c ≠ 32) : Tidy (x ++ [c]) := by
  intro k hk
  simp only [List.length_append, List.length_cons, List.length_nil] at hk
  unfold TidyAt
  by_cases hlt : k < x.length
  · obtain ⟨a, b⟩ := hx k hlt
    rw [getD_left x [c] k hlt]
    refine ⟨a, b.imp id fun b => ⟨b.1, by simp; omega, ?_⟩⟩
    rw [getD_left x [c] (k - 1) (by omega)]
    exact b.2.2
  · obtain rfl : k = x.length := by omega
    rw [getD_last]
    exact ⟨hc, Or.inl h32⟩

theorem tidy_gap {x : List UInt8} {c : UInt8} (hx : Tidy x) (hne : x ≠ []) (hc : signOf c.toNat = c.toNat) (h32 : c ≠ 32) : Tidy (x ++ [32] ++ [c]) := by
  intro k hk
  simp only [List.length_append, List.length_cons, List.length_nil] at hk
  have hl : 0 < x.length := List.length_pos_iff.2 hne
  unfold TidyAt
  by_cases hlt : k < x.length
  · obtain ⟨a, b⟩ := hx k hlt
    rw [getD_left (x ++ [32]) [c] k (by simp; omega), getD_left x [32] k hlt]
    refine ⟨a, b.imp id fun b => ⟨b.1, by simp; omega, ?_⟩⟩
    rw [getD_left (x ++ [32]) [c] (k - 1) (by simp; omega), getD_left x [32] (k - 1) (by omega)]
    exact b.2.2
  · by_cases hk2 : k = x.length
    · subst hk2
      rw [getD_left (x ++ [32]) [c] x.length (by simp), getD_last, getD_left (x ++ [32]) [c] (x.length - 1) (by simp; omega), getD_left x [32] (x.length - 1) (by omega)]
      exact ⟨by decide, Or.inr ⟨hl, by simp, tidy_last hx hne⟩⟩
    · have e : k = (x ++ [32]).length := by simp; omega
      rw [e, getD_last]
      exact ⟨hc, Or.inl h32⟩

theorem sg_ne (b : UInt8) (h : signOf b.toNat ≠ 32) : sg b ≠ 32 := by
  intro e
  have := sg_toNat b
  rw [e] at this
  exact h (by rw [← this]; rfl)

/-- What is made alike is tidy. -/
theorem tidy_alike (s : List UInt8) : Tidy (alikeT s) := by
  rw [alikeT_eq]
  induction s using rev_ind with
  | h0 => intro k hk; simp at hk
  | h1 l b ih =>
    simp only [List.foldl_append, List.foldl_cons, List.foldl_nil]
    generalize l.foldl outM ([], false) = r at *
    unfold outM
    by_cases h : signOf b.toNat = 32
    · rw [if_pos h]; exact ih
    · rw [if_neg h]
      by_cases h2 : r.2 = true ∧ r.1 ≠ []
      · rw [if_pos h2]; exact tidy_gap ih h2.2 (signOf_sg b) (sg_ne b h)
      · rw [if_neg h2]; exact tidy_snoc ih (signOf_sg b) (sg_ne b h)

/-- The places 0, 1, 2 .. -/
def idx : Nat → List Int
  | 0 => []
  | k + 1 => idx k ++ [(k : Int)]

theorem idx_len (n : Nat) : (idx n).length = n := by
  induction n with
  | zero => rfl
  | succ n ih => simp [idx, ih]
theorem idx_get (n k : Nat) (h : k < n) : (idx n).getD k 0 = k := by
  induction n with
  | zero => omega
  | succ n ih =>
    simp only [idx, List.getD]
    by_cases hk : k < n
    · rw [List.getElem?_append_left (by rw [idx_len]; exact hk)]
      exact ih hk
    · obtain rfl : k = n := by omega
      rw [List.getElem?_append_right (by rw [idx_len]; exact Nat.le_refl _), idx_len]
      simp

theorem sg_same (b : UInt8) (h : signOf b.toNat = b.toNat) : UInt8.ofNat (signOf b.toNat).toNat = b := by
  rw [h]; simp

theorem tidy_state {t : List UInt8} (ht : Tidy t) (k : Nat) (hk : k ≤ t.length) :
    stA t k = if 0 < k ∧ t.getD (k - 1) 0 = 32 then ⟨t.take (k - 1), idx (k - 1), ((k - 1 : Nat) : Int)⟩ else ⟨t.take k, idx k, -1⟩ := by
  induction k with
  | zero => rfl
  | succ k ih =>
    have hlt : k < t.length := by omega
    obtain ⟨h1, h2⟩ := ht k hlt
    have ed : t.getD k 0 = t[k] := by simp [List.getD, hlt]
    have et : t.take (k + 1) = t.take k ++ [t[k]] := List.take_succ_eq_append_getElem hlt
    rw [stA, ih (by omega)]
    clear ih
    rw [ed] at h1 h2
    simp only [Nat.add_sub_cancel, ed]
    by_cases hb : t[k] = 32
    · obtain ⟨k0, k1, hp⟩ := h2.resolve_left (fun h => h hb)
      rw [if_neg (c := 0 < k ∧ t.getD (k - 1) 0 = 32) (fun h => hp h.2), if_pos ⟨Nat.succ_pos _, hb⟩]
      have hs : signOf (t[k].toNat : Int) = 32 := by rw [h1, hb]; rfl
      rw [step_gap hs (by simp)]
    · have hs : signOf (t[k].toNat : Int) ≠ 32 := by
        rw [h1]
        intro e
        exact hb (UInt8.toNat_inj.1 (by show t[k].toNat = 32; omega))
      rw [if_neg (c := 0 < k + 1 ∧ t[k] = 32) (fun h => hb h.2)]
      by_cases hp : 0 < k ∧ t.getD (k - 1) 0 = 32
      · rw [if_pos hp]
        have hk1 := (ht (k - 1) (by omega)).2.resolve_left (fun h => h hp.2)
        have ep : t.take k = t.take (k - 1) ++ [32] := by
          have : k = (k - 1) + 1 := by omega
          rw [this, List.take_succ_eq_append_getElem (by omega : k - 1 < t.length)]
          congr 2
          have e3 := hp.2
          simp only [List.getD, List.getElem?_eq_getElem (by omega : k - 1 < t.length), Option.getD_some] at e3
          exact e3
        rw [step_two hs (by simp) (by intro e; have e2 := congrArg List.length e; rw [List.length_take, List.length_nil] at e2; omega)]
        rw [sg_same _ h1, et, ep]
        have ei : idx (k + 1) = idx (k - 1) ++ [((k - 1 : Nat) : Int)] ++ [(k : Int)] := by
          have : k = (k - 1) + 1 := by omega
          conv => lhs; rw [idx]
          congr 1
          conv => lhs; rw [this, idx]
        rw [ei]
      · rw [if_neg hp, step_one hs (Or.inl (by simp)), sg_same _ h1, et]
        rfl

/-- What is tidy is as it is when it is made alike, each sign at its own place. -/
theorem alike_tidy {t : List UInt8} (ht : Tidy t) : alikeT t = t ∧ alikeP t = idx t.length := by
  have h := tidy_state ht t.length (Nat.le_refl _)
  have hn : ¬ (0 < t.length ∧ t.getD (t.length - 1) 0 = 32) := fun hh => tidy_last ht (List.length_pos_iff.1 hh.1) hh.2
  rw [if_neg hn] at h
  unfold alikeT alikeP
  rw [h]
  exact ⟨List.take_length, rfl⟩

theorem alike_again (s : List UInt8) : alikeT (alikeT s) = alikeT s ∧ alikeP (alikeT s) = idx (alikeT s).length := alike_tidy (tidy_alike s)

theorem alikeB_list (s : ByteArray) : (alikeB s).data.toList = alikeT s.data.toList := rfl
theorem empty_list (s : ByteArray) : s.toList = [] ↔ s.data.toList = [] := by rw [ByteArray.toList_eq]

theorem joinB_both {a g b G X Y L : ByteArray} (hG : alikeB g = G) (hX : alikeB a = X) (hY : alikeB b = Y) (hL : alikeB (a ++ g ++ b) = L) (h1 : G.toList = []) (h2 : g.toList.isEmpty = false)
    (h3 : (!X.toList.isEmpty) = true ∧ (!Y.toList.isEmpty) = true) : L.toList = (X ++ { data := #[32] } ++ Y).toList := by
  subst hG hX hY hL
  rw [empty_list, alikeB_list] at h1
  simp only [ByteArray.toList_eq, alikeB_list] at h2 h3 ⊢
  simp only [Joins.data_append, alikeB_list]
  rw [alike_join _ _ _ h1 (by intro e; rw [e] at h2; simp at h2), if_pos ⟨by intro e; rw [e] at h3; simp at h3, by intro e; rw [e] at h3; simp at h3⟩]

theorem joinB_one {a g b G X Y L : ByteArray} (hG : alikeB g = G) (hX : alikeB a = X) (hY : alikeB b = Y) (hL : alikeB (a ++ g ++ b) = L) (h1 : G.toList = []) (h2 : g.toList.isEmpty = false)
    (h3 : (!X.toList.isEmpty) = false ∨ (!Y.toList.isEmpty) = false) : L.toList = (X ++ Y).toList := by
  subst hG hX hY hL
  rw [empty_list, alikeB_list] at h1
  simp only [ByteArray.toList_eq, alikeB_list] at h2 h3 ⊢
  simp only [Joins.data_append, alikeB_list]
  rw [alike_join _ _ _ h1 (by intro e; rw [e] at h2; simp at h2), if_neg]
  rintro ⟨hx, hy⟩
  rcases h3 with h3 | h3
  · exact hx (by simpa using h3)
  · exact hy (by simpa using h3)

theorem alikeB_again (s : ByteArray) : alikeB (alikeB s) = alikeB s := by
  unfold alikeB
  rw [(alike_again s.data.toList).1]

end Go.Proofs.Ytdcdminjoehiiaa
