/-
  Plain mathematics of words, continued: a text made alike is its words with one space between, its words are those of the text, and words are in order. No conditions.
-/
import Derived.Test.YtdcdminjoehiiaaMathTidy
import Derived.Test.YtdcdminjoehiiaaMathWords
namespace Go.Proofs.Ytdcdminjoehiiaa

/-- Cut at gaps: what is done, and what is open. -/
def spl (st : List (List UInt8) × List UInt8) (b : UInt8) : List (List UInt8) × List UInt8 :=
  if gapB b then (if st.2 = [] then st else (st.1 ++ [st.2], [])) else (st.1, st.2 ++ [b])
def spF (l : List UInt8) : List (List UInt8) × List UInt8 := l.foldl spl ([], [])
def close (st : List (List UInt8) × List UInt8) : List (List UInt8) := st.1 ++ (if st.2 = [] then [] else [st.2])
def splitW (l : List UInt8) : List (List UInt8) := close (spF l)

theorem spl_none {st : List (List UInt8) × List UInt8} {b : UInt8} (h : gapB b = true) (h2 : st.2 = []) : spl st b = st := by
  unfold spl; rw [if_pos h, if_pos h2]
theorem spl_done {st : List (List UInt8) × List UInt8} {b : UInt8} (h : gapB b = true) (h2 : st.2 ≠ []) : spl st b = (st.1 ++ [st.2], []) := by
  unfold spl; rw [if_pos h, if_neg h2]
theorem spl_sign {st : List (List UInt8) × List UInt8} {b : UInt8} (h : gapB b = false) : spl st b = (st.1, st.2 ++ [b]) := by
  unfold spl; rw [if_neg (by rw [h]; simp)]
theorem spF_snoc (l : List UInt8) (b : UInt8) : spF (l ++ [b]) = spl (spF l) b := by simp [spF]

/-- A row without gaps. -/
def Full (t : List UInt8) : Prop := t ≠ [] ∧ ∀ b ∈ t, gapB b = false

theorem spF_full (l : List UInt8) : (∀ t ∈ (spF l).1, Full t) ∧ ∀ b ∈ (spF l).2, gapB b = false := by
  induction l using rev_ind with
  | h0 => simp [spF]
  | h1 l b ih =>
    rw [spF_snoc]
    obtain ⟨i1, i2⟩ := ih
    cases hg : gapB b with
    | true =>
      by_cases h2 : (spF l).2 = []
      · rw [spl_none hg h2]; exact ⟨i1, i2⟩
      · rw [spl_done hg h2]
        refine ⟨fun t ht => ?_, by simp⟩
        rcases List.mem_append.1 ht with ht | ht
        · exact i1 t ht
        · rw [List.mem_singleton] at ht; subst ht; exact ⟨h2, i2⟩
    | false =>
      rw [spl_sign hg]
      refine ⟨i1, fun c hc => ?_⟩
      rcases List.mem_append.1 hc with hc | hc
      · exact i2 c hc
      · rw [List.mem_singleton] at hc; subst hc; exact hg

theorem splitW_full (l : List UInt8) : ∀ t ∈ splitW l, Full t := by
  obtain ⟨i1, i2⟩ := spF_full l
  intro t ht
  unfold splitW close at ht
  rcases List.mem_append.1 ht with ht | ht
  · exact i1 t ht
  · by_cases h2 : (spF l).2 = []
    · rw [if_pos h2] at ht; simp at ht
    · rw [if_neg h2, List.mem_singleton] at ht; subst ht; exact ⟨h2, i2⟩

/-! ### Words in order, with one space between -/
def glue (x t : List UInt8) : List UInt8 := if x = [] then t else x ++ [32] ++ t
def jn (ts : List (List UInt8)) : List UInt8 := ts.foldl glue []

theorem jn_snoc (ts : List (List UInt8)) (t : List UInt8) : jn (ts ++ [t]) = glue (jn ts) t := by simp [jn]
theorem glue_ne {x t : List UInt8} (h : t ≠ []) : glue x t ≠ [] := by
  unfold glue; split <;> simp [h]
theorem jn_nil {ts : List (List UInt8)} (h : ∀ t ∈ ts, t ≠ []) : jn ts = [] ↔ ts = [] := by
  induction ts using rev_ind with
  | h0 => simp [jn]
  | h1 ts t ih =>
    rw [jn_snoc]
    constructor
    · intro e; exact absurd e (glue_ne (h t (by simp)))
    · intro e; simp at e

def mp (ts : List (List UInt8)) : List (List UInt8) := ts.map (·.map sg)
theorem mp_snoc (ts : List (List UInt8)) (t : List UInt8) : mp (ts ++ [t]) = mp ts ++ [t.map sg] := by simp [mp]

theorem outM_words (l : List UInt8) :
    ((spF l).2 = [] → (l.foldl outM ([], false)).1 = jn (mp (spF l).1) ∧ ((l.foldl outM ([], false)).1 = [] ∨ (l.foldl outM ([], false)).2 = true)) ∧
    ((spF l).2 ≠ [] → l.foldl outM ([], false) = (glue (jn (mp (spF l).1)) ((spF l).2.map sg), false)) := by
  induction l using rev_ind with
  | h0 => simp [spF, jn, mp]
  | h1 l b ih =>
    rw [spF_snoc, List.foldl_append, List.foldl_cons, List.foldl_nil]
    obtain ⟨i1, i2⟩ := ih
    generalize l.foldl outM ([], false) = r at i1 i2 ⊢
    generalize spF l = q at i1 i2 ⊢
    obtain ⟨d, c⟩ := q
    obtain ⟨x, p⟩ := r
    dsimp only at i1 i2
    cases hg : gapB b with
    | true =>
      rw [outM_gap (gapB_yes hg)]
      by_cases h2 : c = []
      · rw [spl_none hg h2]
        exact ⟨fun _ => ⟨(i1 h2).1, .inr rfl⟩, fun h => absurd h2 h⟩
      · rw [spl_done hg h2]
        have h3 := i2 h2
        injection h3 with h3 h4
        refine ⟨fun _ => ⟨?_, .inr rfl⟩, fun h => absurd rfl h⟩
        dsimp only
        rw [mp_snoc, jn_snoc]
        exact h3
    | false =>
      have hn := gapB_no hg
      rw [spl_sign hg]
      refine ⟨fun h => by simp at h, fun _ => ?_⟩
      dsimp only
      by_cases h2 : c = []
      · obtain ⟨j1, j2⟩ := i1 h2
        subst h2
        by_cases hx : x = []
        · rw [outM_one hn (.inr hx), ← j1, hx]
          rfl
        · have hp : p = true := j2.resolve_left hx
          rw [hp, outM_two hn hx, ← j1]
          unfold glue
          rw [if_neg hx]
          rfl
      · have h3 := i2 h2
        injection h3 with h3 h4
        rw [outM_one hn (.inl h4), h3]
        congr 1
        unfold glue
        split <;> simp

theorem alike_words (l : List UInt8) : alikeT l = jn (mp (splitW l)) := by
  rw [alikeT_eq]
  obtain ⟨h1, h2⟩ := outM_words l
  unfold splitW close
  by_cases h : (spF l).2 = []
  · rw [if_pos h, List.append_nil]; exact (h1 h).1
  · rw [if_neg h, mp_snoc, jn_snoc, h2 h]

/-- A row without gaps is made alike byte by byte. -/
theorem alike_full {t : List UInt8} (h : ∀ b ∈ t, gapB b = false) : alikeT t = t.map sg := by
  rw [alikeT_eq]
  suffices hh : t.foldl outM ([], false) = (t.map sg, false) by rw [hh]
  induction t using rev_ind with
  | h0 => rfl
  | h1 t b ih =>
    rw [List.foldl_append, ih (fun c hc => h c (by simp [hc])), List.foldl_cons, List.foldl_nil, outM_one (gapB_no (h b (by simp))) (.inl rfl)]
    simp

theorem gapB_sg {b : UInt8} (h : gapB b = false) : gapB (sg b) = false := by
  have h1 := gapB_no h
  have h2 := signOf_sg b
  have h3 := sg_toNat b
  simp only [gapB]
  rw [h2, h3]
  simpa using h1
theorem gapB_32 : gapB 32 = true := by decide

theorem full_mp {ts : List (List UInt8)} (h : ∀ t ∈ ts, Full t) : ∀ t ∈ mp ts, Full t := by
  intro t ht
  obtain ⟨u, hu, rfl⟩ := List.mem_map.1 ht
  obtain ⟨h1, h2⟩ := h u hu
  refine ⟨by simpa using h1, fun b hb => ?_⟩
  obtain ⟨c, hc, rfl⟩ := List.mem_map.1 hb
  exact gapB_sg (h2 c hc)

theorem spl_run (d : List (List UInt8)) (c t : List UInt8) (h : ∀ b ∈ t, gapB b = false) : t.foldl spl (d, c) = (d, c ++ t) := by
  induction t using rev_ind with
  | h0 => simp
  | h1 t b ih =>
    rw [List.foldl_append, ih (fun x hx => h x (by simp [hx])), List.foldl_cons, List.foldl_nil, spl_sign (h b (by simp))]
    simp

/-- The words of words with one space between are these. -/
theorem split_jn {ts : List (List UInt8)} (h : ∀ t ∈ ts, Full t) : splitW (jn ts) = ts := by
  suffices hh : (ts = [] ∧ spF (jn ts) = ([], [])) ∨ ∃ d c, spF (jn ts) = (d, c) ∧ c ≠ [] ∧ ts = d ++ [c] by
    rcases hh with ⟨h1, h2⟩ | ⟨d, c, h1, h2, h3⟩
    · unfold splitW close; rw [h2, h1]; rfl
    · unfold splitW close; rw [h1, if_neg h2, h3]
  induction ts using rev_ind with
  | h0 => exact .inl ⟨rfl, rfl⟩
  | h1 ts t ih =>
    have ht := h t (by simp)
    have hts : ∀ x ∈ ts, Full x := fun x hx => h x (by simp [hx])
    rw [jn_snoc]
    rcases ih hts with ⟨h1, h2⟩ | ⟨d, c, h1, h2, h3⟩
    · subst h1
      refine .inr ⟨[], t, ?_, ht.1, rfl⟩
      show spF (glue [] t) = _
      unfold glue
      rw [if_pos rfl, spF, spl_run [] [] t ht.2]; rfl
    · have hne : jn ts ≠ [] := fun e => by rw [(jn_nil (fun x hx => (hts x hx).1)).1 e] at h3; simp at h3
      refine .inr ⟨ts, t, ?_, ht.1, rfl⟩
      unfold glue
      rw [if_neg hne, spF, List.foldl_append, List.foldl_append]
      have e : (jn ts).foldl spl ([], []) = (d, c) := h1
      rw [e, List.foldl_cons, List.foldl_nil, spl_done gapB_32 h2, spl_run _ _ t ht.2]
      simp [h3]

/-- The words of a text made alike are those of the text, made alike. -/
theorem split_alike (l : List UInt8) : splitW (alikeT l) = mp (splitW l) := by
  rw [alike_words]
  exact split_jn (full_mp (splitW_full l))

theorem sg_sg (b : UInt8) : sg (sg b) = sg b := by
  have h := signOf_sg b
  show UInt8.ofNat (signOf (sg b).toNat).toNat = sg b
  exact sg_same _ h
theorem mp_mp (ts : List (List UInt8)) : mp (mp ts) = mp ts := by
  simp only [mp, List.map_map]
  congr 1
  funext t
  simp [sg_sg]

/-! ### The words told by places are these -/
def sl (s : List UInt8) (p : Nat × Nat) : List UInt8 := (s.take p.2).drop p.1

theorem at0_lt (s : List UInt8) (k : Nat) (h : k < s.length) : at0 s k = s[k] := by
  unfold at0; simp [List.getD, h]

theorem spF_places (s : List UInt8) (k : Nat) (hk : k ≤ s.length) :
    spF (s.take k) = ((stW s k).out.map (sl s), if (stW s k).from_ < 0 then [] else sl s ((stW s k).from_.toNat, k)) := by
  induction k with
  | zero => simp [spF, stW]
  | succ k ih =>
    have hlt : k < s.length := by omega
    rw [List.take_succ_eq_append_getElem hlt, spF_snoc, ih (by omega)]
    have ha := at0_lt s k hlt
    have hinv := stW_inv s k (by omega)
    have hne : ∀ f : Nat, f < k → sl s (f, k) ≠ [] := fun f hf e => by
      have := congrArg List.length e
      simp [sl] at this
      omega
    cases hg : gapB (at0 s k) with
    | true =>
      have hg2 : gapB s[k] = true := by rw [← ha]; exact hg
      rcases hinv with ⟨h1, h2, _⟩ | ⟨f, h1, h2, h3, h4⟩
      · rw [if_pos (by omega), spl_none hg2 rfl, stW_gap hg (by omega)]
        simp
      · rw [if_neg (by omega), h1, spl_done hg2 (by simpa using hne f h2), stW_word hg (by omega), h1]
        simp
    | false =>
      have hg2 : gapB s[k] = false := by rw [← ha]; exact hg
      rcases hinv with ⟨h1, h2, _⟩ | ⟨f, h1, h2, h3, h4⟩
      · rw [if_pos (by omega), spl_sign hg2, stW_new hg (by omega)]
        have e : sl s (k, k + 1) = [s[k]] := by
          unfold sl
          dsimp only
          rw [List.take_succ_eq_append_getElem hlt, List.drop_append_of_le_length (by rw [List.length_take]; omega), List.drop_eq_nil_of_le (by rw [List.length_take]; omega), List.nil_append]
        dsimp only
        rw [if_neg (by omega), Int.toNat_natCast, e, List.nil_append]
      · rw [if_neg (by omega), spl_sign hg2, stW_on hg (by omega), h1, if_neg (by omega)]
        simp only [sl, Int.toNat_natCast]
        rw [List.take_succ_eq_append_getElem hlt, List.drop_append_of_le_length (by rw [List.length_take]; omega)]

theorem split_places (s : List UInt8) : splitW s = (wordsL s).map (sl s) := by
  have h := spF_places s s.length (Nat.le_refl _)
  rw [List.take_length] at h
  have hg : gapB (at0 s s.length) = true := by rw [at0_end s _ (Nat.le_refl _)]; exact gapB_zero
  have he := stW_end s
  unfold splitW close
  rw [h]
  rcases stW_inv s s.length (Nat.le_refl _) with ⟨h1, h2, _⟩ | ⟨f, h1, h2, h3, h4⟩
  · rw [stW_gap hg (by omega)] at he
    rw [if_pos (by omega), ← he]
    simp
  · rw [stW_word hg (by omega), h1] at he
    have hne : sl s (f, s.length) ≠ [] := fun e => by
      have := congrArg List.length e
      simp [sl] at this
      omega
    rw [if_neg (by omega), h1, ← he]
    dsimp only
    rw [if_neg (by simpa using hne)]
    simp

/-- Words are in order, a gap at least between. -/
theorem wordsL_order (s : List UInt8) : (wordsL s).Pairwise fun p q => p.2 < q.1 := by
  suffices hh : ∀ k, k ≤ s.length → (wordsTo s k).Pairwise fun p q => p.2 < q.1 from hh _ (Nat.le_refl _)
  intro k hk
  induction k with
  | zero => exact List.Pairwise.nil
  | succ k ih =>
    by_cases hb : begB s k = true
    · rw [wordsTo_beg hb]
      refine List.pairwise_append.2 ⟨ih (by omega), by simp, fun p hp q hq => ?_⟩
      rw [List.mem_singleton] at hq
      subst hq
      have h := wordsTo_all s k (by omega) p hp
      rw [h.2.2]
      exact wEnd_ahead s p.1 k (by omega) h.1 hb (begB_parts h.2.1).1
    · rw [wordsTo_no (by simpa using hb)]
      exact ih (by omega)

end Go.Proofs.Ytdcdminjoehiiaa
