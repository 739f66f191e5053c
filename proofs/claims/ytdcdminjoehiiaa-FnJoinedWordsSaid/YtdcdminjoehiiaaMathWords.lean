/-
  Plain mathematics of chapter 2: words and sentences of a text, as the program and the model find them. No conditions.
-/
import Derived.Test.YtdcdminjoehiiaaMathAlike
namespace Go.Proofs.Ytdcdminjoehiiaa

/-- Is a byte a gap? -/
def gapB (b : UInt8) : Bool := signOf b.toNat == 32

theorem gapB_yes {b : UInt8} (h : gapB b = true) : signOf (b.toNat : Int) = 32 := by simpa [gapB] using h
theorem gapB_no {b : UInt8} (h : gapB b = false) : signOf (b.toNat : Int) ≠ 32 := by simpa [gapB] using h
theorem gapB_zero : gapB 0 = true := by decide

/-- The byte at a place; a gap behind the end. -/
def at0 (s : List UInt8) (k : Nat) : UInt8 := s.getD k 0

theorem at0_end (s : List UInt8) (k : Nat) (h : s.length ≤ k) : at0 s k = 0 := by
  unfold at0; simp [List.getD, List.getElem?_eq_none h]

/-- Does a word begin here? -/
def begB (s : List UInt8) (k : Nat) : Bool := !gapB (at0 s k) && (k == 0 || gapB (at0 s (k - 1)))

def wEndF (s : List UInt8) : Nat → Nat → Nat
  | 0, k => k
  | n + 1, k => if gapB (at0 s k) then k else wEndF s n (k + 1)

/-- Where the word that has this place ends. -/
def wEnd (s : List UInt8) (k : Nat) : Nat := wEndF s (s.length - k) k

theorem wEndF_spec (s : List UInt8) : ∀ (n k : Nat), k + n = s.length → k ≤ wEndF s n k ∧ wEndF s n k ≤ s.length ∧ gapB (at0 s (wEndF s n k)) = true ∧ ∀ i, k ≤ i → i < wEndF s n k → gapB (at0 s i) = false
  | 0, k, h => by
    refine ⟨Nat.le_refl _, by simp only [wEndF]; omega, ?_, fun i h1 h2 => ?_⟩
    · simp only [wEndF]; rw [at0_end s k (by omega)]; exact gapB_zero
    · simp only [wEndF] at h2; omega
  | n + 1, k, h => by
    simp only [wEndF]
    by_cases hg : gapB (at0 s k) = true
    · rw [if_pos hg]
      exact ⟨Nat.le_refl _, by omega, hg, fun i h1 h2 => by omega⟩
    · rw [if_neg hg]
      have ih := wEndF_spec s n (k + 1) (by omega)
      refine ⟨by omega, ih.2.1, ih.2.2.1, fun i h1 h2 => ?_⟩
      by_cases hi : i = k
      · subst hi; simpa using hg
      · exact ih.2.2.2 i (by omega) h2

theorem wEnd_spec (s : List UInt8) (k : Nat) (h : k ≤ s.length) : k ≤ wEnd s k ∧ wEnd s k ≤ s.length ∧ gapB (at0 s (wEnd s k)) = true ∧ ∀ i, k ≤ i → i < wEnd s k → gapB (at0 s i) = false :=
  wEndF_spec s _ k (by omega)

theorem wEnd_uniq (s : List UInt8) (k j : Nat) (h : k ≤ s.length) (hkj : k ≤ j) (hg : gapB (at0 s j) = true) (hb : ∀ i, k ≤ i → i < j → gapB (at0 s i) = false) : wEnd s k = j := by
  have hs := wEnd_spec s k h
  rcases Nat.lt_trichotomy (wEnd s k) j with hl | he | hl
  · have := hb _ hs.1 hl
    rw [hs.2.2.1] at this; cases this
  · exact he
  · have := hs.2.2.2 j hkj hl
    rw [hg] at this; cases this

theorem wEnd_lt (s : List UInt8) (k : Nat) (h : gapB (at0 s k) = false) : k < wEnd s k := by
  have hk : k < s.length := by
    rcases Nat.lt_or_ge k s.length with h1 | h1
    · exact h1
    · rw [at0_end s k h1, gapB_zero] at h; cases h
  have hs := wEnd_spec s k (by omega)
  rcases Nat.lt_or_ge k (wEnd s k) with h1 | h1
  · exact h1
  · have e : wEnd s k = k := by omega
    rw [e, h] at hs
    cases hs.2.2.1

/-- The words that begin ahead of k. -/
def wordsTo (s : List UInt8) : Nat → List (Nat × Nat)
  | 0 => []
  | k + 1 => if begB s k then wordsTo s k ++ [(k, wEnd s k)] else wordsTo s k

def wordsL (s : List UInt8) : List (Nat × Nat) := wordsTo s s.length

theorem wordsTo_len (s : List UInt8) (k : Nat) : (wordsTo s k).length ≤ k := by
  induction k with
  | zero => simp [wordsTo]
  | succ k ih => simp only [wordsTo]; split <;> (try simp) <;> omega

theorem wordsTo_beg {s : List UInt8} {k : Nat} (h : begB s k = true) : wordsTo s (k + 1) = wordsTo s k ++ [(k, wEnd s k)] := by rw [wordsTo, if_pos h]
theorem wordsTo_no {s : List UInt8} {k : Nat} (h : begB s k = false) : wordsTo s (k + 1) = wordsTo s k := by rw [wordsTo, if_neg (by rw [h]; simp)]

theorem begB_parts {s : List UInt8} {k : Nat} (h : begB s k = true) : gapB (at0 s k) = false ∧ (k = 0 ∨ gapB (at0 s (k - 1)) = true) := by
  simpa [begB] using h

/-- Each word is a longest row of bytes that are no gaps. -/
theorem wordsTo_all (s : List UInt8) (k : Nat) (hk : k ≤ s.length) : ∀ p ∈ wordsTo s k, p.1 < k ∧ begB s p.1 = true ∧ p.2 = wEnd s p.1 := by
  induction k with
  | zero => simp [wordsTo]
  | succ k ih =>
    intro p hp
    by_cases hb : begB s k = true
    · rw [wordsTo_beg hb, List.mem_append, List.mem_singleton] at hp
      rcases hp with hp | rfl
      · have := ih (by omega) p hp
        exact ⟨by omega, this.2⟩
      · exact ⟨by omega, hb, rfl⟩
    · rw [wordsTo_no (by simpa using hb)] at hp
      have := ih (by omega) p hp
      exact ⟨by omega, this.2⟩

theorem wordsL_all (s : List UInt8) : ∀ p ∈ wordsL s, p.1 < p.2 ∧ p.2 ≤ s.length ∧ begB s p.1 = true ∧ p.2 = wEnd s p.1 := by
  intro p hp
  have h := wordsTo_all s s.length (Nat.le_refl _) p hp
  have hg := (begB_parts h.2.1).1
  have h1 := wEnd_lt s p.1 hg
  have h2 := wEnd_spec s p.1 (by omega)
  rw [h.2.2]
  exact ⟨h1, h2.2.1, h.2.1, rfl⟩

/-- A word ends ahead of the next one's beginning. -/
theorem wEnd_ahead (s : List UInt8) (x k : Nat) (hk : k ≤ s.length) (hx : x < k) (hb : begB s k = true) (hg : gapB (at0 s x) = false) : wEnd s x < k := by
  have hp := (begB_parts hb).2
  have hs := wEnd_spec s x (by omega)
  rcases hp with h0 | hp
  · omega
  · rcases Nat.lt_or_ge (k - 1) (wEnd s x) with h1 | h1
    · have := hs.2.2.2 (k - 1) (by omega) h1
      rw [hp] at this; cases this
    · omega

/-! ### The model's way -/
structure WS where
  out : List (Nat × Nat)
  from_ : Int

def WS.step (s : List UInt8) (st : WS) (k : Nat) : WS :=
  if gapB (at0 s k) then (if 0 ≤ st.from_ then ⟨st.out ++ [(st.from_.toNat, k)], -1⟩ else ⟨st.out, -1⟩)
  else ⟨st.out, if st.from_ < 0 then k else st.from_⟩

def stW (s : List UInt8) : Nat → WS
  | 0 => ⟨[], -1⟩
  | k + 1 => (stW s k).step s k

theorem stW_gap {s : List UInt8} {k : Nat} (h : gapB (at0 s k) = true) (hf : ¬ 0 ≤ (stW s k).from_) : stW s (k + 1) = ⟨(stW s k).out, -1⟩ := by
  rw [stW, WS.step, if_pos h, if_neg hf]
theorem stW_word {s : List UInt8} {k : Nat} (h : gapB (at0 s k) = true) (hf : 0 ≤ (stW s k).from_) : stW s (k + 1) = ⟨(stW s k).out ++ [((stW s k).from_.toNat, k)], -1⟩ := by
  rw [stW, WS.step, if_pos h, if_pos hf]
theorem stW_new {s : List UInt8} {k : Nat} (h : gapB (at0 s k) = false) (hf : (stW s k).from_ < 0) : stW s (k + 1) = ⟨(stW s k).out, k⟩ := by
  rw [stW, WS.step, if_neg (by rw [h]; simp), if_pos hf]
theorem stW_on {s : List UInt8} {k : Nat} (h : gapB (at0 s k) = false) (hf : ¬ (stW s k).from_ < 0) : stW s (k + 1) = stW s k := by
  rw [stW, WS.step, if_neg (by rw [h]; simp), if_neg hf]

theorem stW_inv (s : List UInt8) (k : Nat) (hk : k ≤ s.length) :
    ((stW s k).from_ = -1 ∧ (stW s k).out = wordsTo s k ∧ (k = 0 ∨ gapB (at0 s (k - 1)) = true)) ∨
    (∃ f : Nat, (stW s k).from_ = f ∧ f < k ∧ wordsTo s k = (stW s k).out ++ [(f, wEnd s f)] ∧ ∀ i, f ≤ i → i < k → gapB (at0 s i) = false) := by
  induction k with
  | zero => exact .inl ⟨rfl, rfl, .inl rfl⟩
  | succ k ih =>
    rcases ih (by omega) with ⟨h1, h2, h3⟩ | ⟨f, h1, h2, h3, h4⟩
    · by_cases hg : gapB (at0 s k) = true
      · rw [stW_gap hg (by omega)]
        have hb : begB s k = false := by simp [begB, hg]
        exact .inl ⟨rfl, by rw [wordsTo_no hb]; exact h2, .inr hg⟩
      · have hg' : gapB (at0 s k) = false := by simpa using hg
        rw [stW_new hg' (by omega)]
        have hb : begB s k = true := by
          simp only [begB, hg', Bool.not_false, Bool.true_and, Bool.or_eq_true, beq_iff_eq]
          exact h3
        refine .inr ⟨k, rfl, by omega, by rw [wordsTo_beg hb, h2], fun i hi1 hi2 => ?_⟩
        obtain rfl : i = k := by omega
        exact hg'
    · have hb : begB s k = false := by
        have := h4 (k - 1) (by omega) (by omega)
        simp only [begB, this, Bool.or_false, Bool.and_eq_false_iff]
        right; simp; omega
      rw [wordsTo_no hb]
      by_cases hg : gapB (at0 s k) = true
      · rw [stW_word hg (by omega)]
        refine .inl ⟨rfl, ?_, .inr hg⟩
        rw [h3, h1, wEnd_uniq s f k (by omega) (by omega) hg h4]
        rfl
      · have hg' : gapB (at0 s k) = false := by simpa using hg
        rw [stW_on hg' (by omega)]
        refine .inr ⟨f, h1, by omega, h3, fun i hi1 hi2 => ?_⟩
        by_cases hi : i = k
        · subst hi; exact hg'
        · exact h4 i hi1 (by omega)

theorem stW_end (s : List UInt8) : (stW s (s.length + 1)).out = wordsL s := by
  have hg : gapB (at0 s s.length) = true := by rw [at0_end s _ (Nat.le_refl _)]; exact gapB_zero
  rcases stW_inv s s.length (Nat.le_refl _) with ⟨h1, h2, _⟩ | ⟨f, h1, h2, h3, h4⟩
  · rw [stW_gap hg (by omega)]; exact h2
  · rw [stW_word hg (by omega)]
    show _ = wordsTo s s.length
    rw [h3, h1, wEnd_uniq s f s.length (by omega) (by omega) hg h4]
    rfl

theorem stW_room (s : List UInt8) (k : Nat) (hk : k ≤ s.length) : (stW s k).out.length ≤ k ∧ -1 ≤ (stW s k).from_ ∧ (stW s k).from_ < k + 1 := by
  have hl := wordsTo_len s k
  rcases stW_inv s k hk with ⟨h1, h2, _⟩ | ⟨f, h1, h2, h3, h4⟩
  · rw [h2]; omega
  · rw [h3] at hl; simp at hl; omega

/-! ### The word at a place -/
/-- The last word that begins up to a place that is no gap has that place. -/
theorem wordsTo_at (s : List UInt8) (k : Nat) (hk : k < s.length) (hg : gapB (at0 s k) = false) :
    ∃ pre b, wordsTo s (k + 1) = pre ++ [(b, wEnd s b)] ∧ b ≤ k ∧ k < wEnd s b ∧ (∀ p ∈ pre, p.2 < b) := by
  induction k with
  | zero =>
    have hb : begB s 0 = true := by simp [begB, hg]
    refine ⟨wordsTo s 0, 0, wordsTo_beg hb, Nat.le_refl _, wEnd_lt s 0 hg, by simp [wordsTo]⟩
  | succ k ih =>
    by_cases hb : begB s (k + 1) = true
    · refine ⟨wordsTo s (k + 1), k + 1, wordsTo_beg hb, Nat.le_refl _, wEnd_lt s _ hg, fun p hp => ?_⟩
      have h := wordsTo_all s (k + 1) (by omega) p hp
      rw [h.2.2]
      exact wEnd_ahead s p.1 (k + 1) (by omega) h.1 hb (begB_parts h.2.1).1
    · have hb' : begB s (k + 1) = false := by simpa using hb
      have hp : gapB (at0 s k) = false := by
        simp only [begB, hg, Bool.not_false, Bool.true_and, Bool.or_eq_false_iff] at hb'
        exact hb'.2
      obtain ⟨pre, b, h1, h2, h3, h4⟩ := ih (by omega) hp
      refine ⟨pre, b, by rw [wordsTo_no hb', h1], by omega, ?_, h4⟩
      have hs := wEnd_spec s b (by omega)
      by_cases he : wEnd s b = k + 1
      · have hs3 := hs.2.2.1
        rw [he, hg] at hs3; cases hs3
      · omega

theorem wordsTo_prefix (s : List UInt8) (k n : Nat) (h : k ≤ n) : ∃ r, wordsTo s n = wordsTo s k ++ r := by
  induction n with
  | zero => obtain rfl : k = 0 := by omega
            exact ⟨[], rfl⟩
  | succ n ih =>
    by_cases hk : k = n + 1
    · subst hk; exact ⟨[], by simp⟩
    · obtain ⟨r, hr⟩ := ih (by omega)
      by_cases hb : begB s n = true
      · exact ⟨r ++ [(n, wEnd s n)], by rw [wordsTo_beg hb, hr, List.append_assoc]⟩
      · exact ⟨r, by rw [wordsTo_no (by simpa using hb), hr]⟩

/-- The word of a place that is no gap: its index, and no word ahead has the place. -/
theorem wordAt_yes (s : List UInt8) (k : Nat) (hk : k < s.length) (hg : gapB (at0 s k) = false) :
    ∃ j, (wordsTo s (k + 1)).length = j + 1 ∧ j < (wordsL s).length ∧ ((wordsL s).getD j (0, 0)).1 ≤ k ∧ k < ((wordsL s).getD j (0, 0)).2 ∧ ∀ i, i < j → ((wordsL s).getD i (0, 0)).2 ≤ k := by
  obtain ⟨pre, b, h1, h2, h3, h4⟩ := wordsTo_at s k hk hg
  obtain ⟨r, hr⟩ := wordsTo_prefix s (k + 1) s.length (by omega)
  have e : wordsL s = pre ++ ((b, wEnd s b) :: r) := by
    show wordsTo s s.length = _
    rw [hr, h1, List.append_assoc]; rfl
  refine ⟨pre.length, by rw [h1]; simp, by rw [e]; simp, ?_, ?_, fun i hi => ?_⟩
  · rw [e]; simpa [List.getD] using h2
  · rw [e]; simpa [List.getD] using h3
  · rw [e]
    have hm := h4 (pre[i]) (List.getElem_mem hi)
    have e2 : (pre ++ ((b, wEnd s b) :: r)).getD i (0, 0) = pre[i] := by
      simp [List.getD, List.getElem?_append_left hi, hi]
    rw [e2]; omega

/-- No word has a gap, or what is no place. -/
theorem wordAt_no (s : List UInt8) (z : Int) (h : z < 0 ∨ (s.length : Int) ≤ z ∨ gapB (at0 s z.toNat) = true) : ∀ p ∈ wordsL s, ¬ ((p.1 : Int) ≤ z ∧ z < p.2) := by
  intro p hp ⟨h1, h2⟩
  have ha := wordsL_all s p hp
  rcases h with h | h | h
  · omega
  · omega
  · have hs := wEnd_spec s p.1 (by omega)
    have := hs.2.2.2 z.toNat (by omega) (by omega)
    rw [h] at this; cases this

/-! ### Sentences -/
/-- Does a byte end a sentence? -/
def endB (b : UInt8) : Bool := b == 46 || b == 33 || b == 63

theorem endB_gap {b : UInt8} (h : endB b = true) : gapB b = true := by
  simp only [endB, Bool.or_eq_true, beq_iff_eq] at h
  rcases h with (rfl | rfl) | rfl <;> decide
theorem endB_no {b : UInt8} (h : gapB b = false) : endB b = false := by
  cases he : endB b with
  | false => rfl
  | true => rw [endB_gap he] at h; cases h

structure SS where
  out : List (Nat × Nat)
  cur : Option (Nat × Nat)

def SS.step (s : List UInt8) (st : SS) (k : Nat) : SS :=
  if endB (at0 s k) then ⟨st.out ++ st.cur.toList, none⟩
  else if gapB (at0 s k) then st
  else ⟨st.out, some ((st.cur.map (·.1)).getD k, k + 1)⟩

def stN (s : List UInt8) : Nat → SS
  | 0 => ⟨[], none⟩
  | k + 1 => (stN s k).step s k

def sentL (s : List UInt8) : List (Nat × Nat) := (stN s s.length).out ++ (stN s s.length).cur.toList

theorem stN_end_none {s : List UInt8} {k : Nat} (h : endB (at0 s k) = true) (hc : (stN s k).cur = none) : (stN s (k + 1)).out = (stN s k).out ∧ (stN s (k + 1)).cur = none := by
  rw [stN, SS.step, if_pos h, hc]; simp
theorem stN_end_some {s : List UInt8} {k : Nat} {p : Nat × Nat} (h : endB (at0 s k) = true) (hc : (stN s k).cur = some p) : (stN s (k + 1)).out = (stN s k).out ++ [p] ∧ (stN s (k + 1)).cur = none := by
  rw [stN, SS.step, if_pos h, hc]; simp
theorem stN_gap {s : List UInt8} {k : Nat} (h : endB (at0 s k) = false) (hg : gapB (at0 s k) = true) : stN s (k + 1) = stN s k := by
  rw [stN, SS.step, if_neg (by rw [h]; simp), if_pos hg]
theorem stN_new {s : List UInt8} {k : Nat} (hg : gapB (at0 s k) = false) (hc : (stN s k).cur = none) : (stN s (k + 1)).out = (stN s k).out ∧ (stN s (k + 1)).cur = some (k, k + 1) := by
  rw [stN, SS.step, if_neg (by rw [endB_no hg]; simp), if_neg (by rw [hg]; simp), hc]; simp
theorem stN_on {s : List UInt8} {k : Nat} {p : Nat × Nat} (hg : gapB (at0 s k) = false) (hc : (stN s k).cur = some p) : (stN s (k + 1)).out = (stN s k).out ∧ (stN s (k + 1)).cur = some (p.1, k + 1) := by
  rw [stN, SS.step, if_neg (by rw [endB_no hg]; simp), if_neg (by rw [hg]; simp), hc]; simp

theorem stN_cur (s : List UInt8) (k : Nat) : ∀ p, (stN s k).cur = some p → p.1 < p.2 ∧ p.2 ≤ k := by
  induction k with
  | zero => intro p hp; simp [stN] at hp
  | succ k ih =>
    intro p hp
    rw [stN, SS.step] at hp
    split at hp
    · cases hp
    · split at hp
      · have := ih p hp; omega
      · cases hc : (stN s k).cur with
        | none =>
          rw [hc] at hp
          injection hp with hp
          subst hp
          simp
        | some q =>
          rw [hc] at hp
          injection hp with hp
          subst hp
          have := ih q hc
          simp; omega

theorem stN_room (s : List UInt8) (k : Nat) : (stN s k).out.length + (stN s k).cur.toList.length ≤ k := by
  induction k with
  | zero => simp [stN]
  | succ k ih =>
    rw [stN, SS.step]
    split
    · simp; omega
    · split
      · omega
      · simp; omega

end Go.Proofs.Ytdcdminjoehiiaa
