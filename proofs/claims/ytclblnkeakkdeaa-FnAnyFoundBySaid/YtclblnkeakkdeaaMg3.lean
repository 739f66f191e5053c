/-
  Plain mathematics of fingerprints: of texts, of powers, of joined texts and of pieces that are rolled on. No conditions.
  Plain mathematics of numbers that are chosen: of each window the last one of the least, each once. No conditions.
-/
import Derived.Lib.Hide
namespace Go.Proofs.Ytclblnkeakkdeaa

/-- A step: the fingerprint behind one byte more. -/
def prStep (n : Nat) (b : UInt8) : Nat := (n * 257 + b.toNat + 1) % 1000003
/-- The fingerprint of a text. -/
def prN (l : List UInt8) : Nat := l.foldl prStep 0
/-- The powers. -/
def pwN (k : Nat) : Nat := 257 ^ k % 1000003

theorem prStep_lt (n : Nat) (b : UInt8) : prStep n b < 1000003 := Nat.mod_lt _ (by decide)
theorem prN_snoc (l : List UInt8) (b : UInt8) : prN (l ++ [b]) = prStep (prN l) b := by simp [prN]
theorem prF_lt (l : List UInt8) (n : Nat) (h : n < 1000003) : l.foldl prStep n < 1000003 := by
  induction l generalizing n with
  | nil => exact h
  | cons b l ih => exact ih _ (prStep_lt n b)
theorem prN_lt (l : List UInt8) : prN l < 1000003 := prF_lt l 0 (by decide)
theorem pwN_lt (k : Nat) : pwN k < 1000003 := Nat.mod_lt _ (by decide)
theorem pwN_zero : pwN 0 = 1 := by decide
theorem pwN_one : pwN 1 = 257 := by decide

/-- The same rest. -/
def Eqm (a b : Nat) : Prop := a % 1000003 = b % 1000003
theorem Eqm.refl (a : Nat) : Eqm a a := rfl
theorem Eqm.symm {a b : Nat} (h : Eqm a b) : Eqm b a := Eq.symm h
theorem Eqm.trans {a b c : Nat} (h : Eqm a b) (g : Eqm b c) : Eqm a c := Eq.trans h g
theorem Eqm.add {a b c d : Nat} (h : Eqm a b) (g : Eqm c d) : Eqm (a + c) (b + d) := by
  unfold Eqm at *; rw [Nat.add_mod, h, g, ← Nat.add_mod]
theorem Eqm.mul {a b c d : Nat} (h : Eqm a b) (g : Eqm c d) : Eqm (a * c) (b * d) := by
  unfold Eqm at *; rw [Nat.mul_mod, h, g, ← Nat.mul_mod]
theorem Eqm.rest (a : Nat) : Eqm (a % 1000003) a := Nat.mod_mod _ _
theorem Eqm.eq {a b : Nat} (h : Eqm a b) (ha : a < 1000003) (hb : b < 1000003) : a = b := by
  unfold Eqm at h; rwa [Nat.mod_eq_of_lt ha, Nat.mod_eq_of_lt hb] at h
theorem Eqm.whole (a k : Nat) : Eqm (a + 1000003 * k) a := by unfold Eqm; omega
theorem Eqm.cancel {a b c : Nat} (h : Eqm (a + c) (b + c)) : Eqm a b := by unfold Eqm at *; omega

theorem pwN_eqm (k : Nat) : Eqm (pwN k) (257 ^ k) := Eqm.rest _
theorem prStep_eqm (n : Nat) (b : UInt8) : Eqm (prStep n b) (n * 257 + b.toNat + 1) := Eqm.rest _

theorem pwN_add (a b : Nat) : pwN (a + b) = pwN a * pwN b % 1000003 := by
  refine Eqm.eq ?_ (pwN_lt _) (Nat.mod_lt _ (by decide))
  refine (pwN_eqm _).trans (Eqm.trans ?_ (Eqm.rest _).symm)
  rw [Nat.pow_add]
  exact ((pwN_eqm a).mul (pwN_eqm b)).symm
theorem pwN_succ (a : Nat) : pwN (a + 1) = pwN a * 257 % 1000003 := by rw [pwN_add, pwN_one]

/-- From another number on. -/
theorem prF_eqm (l : List UInt8) (n : Nat) : Eqm (l.foldl prStep n) (n * 257 ^ l.length + prN l) := by
  have key : ∀ (l : List UInt8), Eqm (l.reverse.foldl prStep n) (n * 257 ^ l.length + prN l.reverse) := by
    intro l
    induction l with
    | nil => simp [prN, Eqm]
    | cons b l ih =>
      rw [List.reverse_cons, List.foldl_append, List.foldl_cons, List.foldl_nil, prN_snoc, List.length_cons]
      refine (prStep_eqm _ _).trans ?_
      refine Eqm.trans ?_ ((Eqm.refl _).add (prStep_eqm _ _).symm)
      have h2 : n * 257 ^ (l.length + 1) + (prN l.reverse * 257 + b.toNat + 1) = (n * 257 ^ l.length + prN l.reverse) * 257 + b.toNat + 1 := by
        rw [Nat.pow_succ]
        have : n * (257 ^ l.length * 257) = n * 257 ^ l.length * 257 := by rw [Nat.mul_assoc]
        rw [this, Nat.add_mul]
        omega
      rw [h2]
      exact ((ih.mul (Eqm.refl 257)).add (Eqm.refl _)).add (Eqm.refl 1)
  have := key l.reverse
  rwa [List.reverse_reverse, List.length_reverse] at this

/-- The fingerprint of two texts is told by both of theirs. -/
theorem prN_append (a b : List UInt8) : prN (a ++ b) = (prN a * pwN b.length + prN b) % 1000003 := by
  refine Eqm.eq ?_ (prN_lt _) (Nat.mod_lt _ (by decide))
  have e : prN (a ++ b) = b.foldl prStep (prN a) := by simp [prN]
  rw [e]
  refine (prF_eqm b _).trans (Eqm.trans ?_ (Eqm.rest _).symm)
  exact ((Eqm.refl _).mul (pwN_eqm _).symm).add (Eqm.refl _)

theorem prN_cons (g : UInt8) (l : List UInt8) : prN (g :: l) = ((g.toNat + 1) * pwN l.length + prN l) % 1000003 := by
  have h := prN_append [g] l
  have e : prN [g] = g.toNat + 1 := by
    have := g.toNat_lt
    show (0 * 257 + g.toNat + 1) % 1000003 = g.toNat + 1
    omega
  rw [e] at h
  exact h

/-- What a fingerprint is without its first byte: r is what stands for the byte that goes (any number that has its rest). -/
theorem drop_first (g : UInt8) (l : List UInt8) (z : Nat) (hz : Eqm (z + (g.toNat + 1) * pwN l.length) 0) : (prN (g :: l) + z) % 1000003 = prN l := by
  refine Eqm.eq ?_ (Nat.mod_lt _ (by decide)) (prN_lt _)
  refine (Eqm.rest _).trans ?_
  rw [prN_cons]
  refine (((Eqm.rest _).add (Eqm.refl z))).trans ?_
  have h := (hz.add (Eqm.refl (prN l)))
  have e : (g.toNat + 1) * pwN l.length + prN l + z = z + (g.toNat + 1) * pwN l.length + prN l := by omega
  rw [e]
  simpa using h

/-- The rest that is taken away from a multiple of the prime. -/
theorem away (x m : Nat) (_h : x % 1000003 ≤ 1000003 * m) : Eqm ((1000003 * m - x % 1000003) + x) 0 := by
  unfold Eqm
  omega

/-- A piece that is rolled on: the model's way (256 primes are added), by any number m of primes. -/
theorem roll_eq (g : UInt8) (l : List UInt8) (c : UInt8) (m : Nat) (h : 0 < m) :
    ((prN (g :: l) + 1000003 * m - (g.toNat + 1) * pwN l.length % 1000003) % 1000003 * 257 + c.toNat + 1) % 1000003 = prN (l ++ [c]) := by
  have hlt : (g.toNat + 1) * pwN l.length % 1000003 < 1000003 := Nat.mod_lt _ (by decide)
  have hle : (g.toNat + 1) * pwN l.length % 1000003 ≤ 1000003 * m := by omega
  have e : prN (g :: l) + 1000003 * m - (g.toNat + 1) * pwN l.length % 1000003 = prN (g :: l) + (1000003 * m - (g.toNat + 1) * pwN l.length % 1000003) := by omega
  rw [e, drop_first g l _ (away _ m hle), prN_snoc]
  rfl

/-! ### Pieces -/
/-- The piece of k bytes at a place. -/
def pieceL (s : List UInt8) (k i : Nat) : List UInt8 := (s.drop i).take k

theorem pieceL_len (s : List UInt8) (k i : Nat) (h : i + k ≤ s.length) : (pieceL s k i).length = k := by
  rw [pieceL, List.length_take, List.length_drop]; omega
theorem pieceL_cons (s : List UInt8) (k i : Nat) (h : i < s.length) : pieceL s (k + 1) i = s[i] :: (s.drop (i + 1)).take k := by
  rw [pieceL, List.drop_eq_getElem_cons h, List.take_succ_cons]
theorem pieceL_snoc (s : List UInt8) (k i : Nat) (h : i + (k + 1) < s.length) : pieceL s (k + 1) (i + 1) = (s.drop (i + 1)).take k ++ [s[i + (k + 1)]] := by
  have hl : k < (s.drop (i + 1)).length := by rw [List.length_drop]; omega
  rw [pieceL, List.take_succ_eq_append_getElem hl]
  congr 2
  rw [List.getElem_drop]
  congr 1
  omega

/-- A piece that is rolled on is the next one. -/
theorem roll_piece (s : List UInt8) (k i m : Nat) (hk : 0 < k) (h : i + k < s.length) (hm : 0 < m) :
    ((prN (pieceL s k i) + 1000003 * m - (s[i].toNat + 1) * pwN (k - 1) % 1000003) % 1000003 * 257 + s[i + k].toNat + 1) % 1000003 = prN (pieceL s k (i + 1)) := by
  obtain ⟨k, rfl⟩ : ∃ j, k = j + 1 := ⟨k - 1, by omega⟩
  have hl : ((s.drop (i + 1)).take k).length = k := by rw [List.length_take, List.length_drop]; omega
  rw [pieceL_cons s k i (by omega), pieceL_snoc s k i h]
  have := roll_eq s[i] ((s.drop (i + 1)).take k) s[i + (k + 1)] m hm
  rw [hl] at this
  exact this

/-- The fingerprints of the first m pieces. -/
def printsTo (s : List UInt8) (k : Nat) : Nat → List Int
  | 0 => []
  | m + 1 => printsTo s k m ++ [(prN (pieceL s k m) : Int)]
/-- The fingerprints of all pieces. -/
def printsL (s : List UInt8) (k : Int) : List Int := if k < 1 ∨ (s.length : Int) < k then [] else printsTo s k.toNat (s.length - k.toNat + 1)

theorem printsTo_len (s : List UInt8) (k m : Nat) : (printsTo s k m).length = m := by
  induction m with
  | zero => rfl
  | succ m ih => simp [printsTo, ih]
theorem printsTo_get (s : List UInt8) (k m i : Nat) (h : i < m) : (printsTo s k m).getD i 0 = (prN (pieceL s k i) : Int) := by
  induction m with
  | zero => omega
  | succ m ih =>
    simp only [printsTo, List.getD]
    by_cases hi : i < m
    · rw [List.getElem?_append_left (by rw [printsTo_len]; exact hi)]
      exact ih hi
    · obtain rfl : i = m := by omega
      rw [List.getElem?_append_right (by rw [printsTo_len]; exact Nat.le_refl _), printsTo_len]
      simp

/-- The places ahead of m at which a piece is. -/
def findTo (s p : List UInt8) : Nat → List Int
  | 0 => []
  | m + 1 => if pieceL s p.length m = p then findTo s p m ++ [(m : Int)] else findTo s p m
def findL (s p : List UInt8) : List Int := if p.length < 1 ∨ s.length < p.length then [] else findTo s p (s.length - p.length + 1)

/-! ### Powers by squares -/
/-- One round of the way by squares: what is out times what is left. -/
theorem sq_even (o b n : Nat) (h : n % 2 = 0) : Eqm (o * (b * b % 1000003) ^ (n / 2)) (o * b ^ n) := by
  have e : b ^ n = (b * b) ^ (n / 2) := by
    have : n = 2 * (n / 2) := by omega
    conv => lhs; rw [this, Nat.pow_mul, Nat.pow_two]
  rw [e]
  refine (Eqm.refl o).mul ?_
  unfold Eqm
  exact (Nat.pow_mod (b * b) (n / 2) 1000003).symm
theorem sq_odd (o b n : Nat) (h : n % 2 = 1) : Eqm (o * b % 1000003 * (b * b % 1000003) ^ (n / 2)) (o * b ^ n) := by
  have h2 := sq_even (o * b % 1000003) b (n - 1) (by omega)
  have e1 : (n - 1) / 2 = n / 2 := by omega
  rw [e1] at h2
  refine h2.trans (((Eqm.rest _).mul (Eqm.refl _)).trans ?_)
  have e2 : o * b * b ^ (n - 1) = o * b ^ n := by
    have : n = (n - 1) + 1 := by omega
    conv => rhs; rw [this, Nat.pow_succ]
    rw [Nat.mul_assoc, Nat.mul_comm b]
  rw [e2]
  exact Eqm.refl _

end Go.Proofs.Ytclblnkeakkdeaa

namespace Go.Proofs.Ytclblnkeakkdeaa

/-- The last place of the least number, of as many as told, from a place on. -/
def leastTo (L : List Int) (f : Nat) : Nat → Nat
  | 0 => f
  | m + 1 => if L.getD (f + m) 0 ≤ L.getD (leastTo L f m) 0 then f + m else leastTo L f m

/-- This place is the last one of the least in a window. -/
structure IsLeast (L : List Int) (f w a : Nat) : Prop where
  lo : f ≤ a
  hi : a < f + w
  least : ∀ j, f ≤ j → j < f + w → L.getD a 0 ≤ L.getD j 0
  last : ∀ j, a < j → j < f + w → L.getD a 0 < L.getD j 0

theorem leastTo_is (L : List Int) (f w : Nat) (hw : 0 < w) : IsLeast L f w (leastTo L f w) := by
  induction w with
  | zero => omega
  | succ m ih =>
    by_cases h0 : m = 0
    · subst h0
      have e : leastTo L f 1 = f := by simp [leastTo]
      rw [e]
      refine ⟨Nat.le_refl _, by omega, fun j h1 h2 => ?_, fun j h1 h2 => by omega⟩
      obtain rfl : j = f := by omega
      exact Int.le_refl _
    · have h := ih (by omega)
      unfold leastTo
      split
      · rename_i hle
        refine ⟨by omega, by omega, fun j h1 h2 => ?_, fun j h1 h2 => by omega⟩
        by_cases e : j = f + m
        · subst e; exact Int.le_refl _
        · exact Int.le_trans hle (h.least j h1 (by omega))
      · rename_i hgt
        refine ⟨h.lo, by have := h.hi; omega, fun j h1 h2 => ?_, fun j h1 h2 => ?_⟩
        · by_cases e : j = f + m
          · subst e; omega
          · exact h.least j h1 (by omega)
        · by_cases e : j = f + m
          · subst e; omega
          · exact h.last j h1 (by omega)

theorem IsLeast.unique {L : List Int} {f w a b : Nat} (ha : IsLeast L f w a) (hb : IsLeast L f w b) : a = b := by
  rcases Nat.lt_trichotomy a b with h | h | h
  · have h1 := ha.last b h hb.hi
    have h2 := hb.least a ha.lo ha.hi
    omega
  · exact h
  · have h1 := hb.last a h ha.hi
    have h2 := ha.least b hb.lo hb.hi
    omega

theorem IsLeast.mono {L : List Int} {f w a b : Nat} (ha : IsLeast L f w a) (hb : IsLeast L (f + 1) w b) : a ≤ b := by
  rcases Nat.lt_or_ge b a with h | h
  · have h1 := hb.last a h (by have := ha.hi; omega)
    have h2 := ha.least b (by have := hb.lo; omega) (by have := ha.hi; omega)
    omega
  · exact h

/-- The same window elsewhere. -/
theorem IsLeast.shift {L M : List Int} {f g w a : Nat} (h : IsLeast L f w a) (he : ∀ d, d < w → M.getD (g + d) 0 = L.getD (f + d) 0) : IsLeast M g w (g + (a - f)) := by
  have h1 := h.lo
  have h2 := h.hi
  have ea : M.getD (g + (a - f)) 0 = L.getD a 0 := by rw [he (a - f) (by omega), show f + (a - f) = a by omega]
  refine ⟨by omega, by omega, fun j h3 h4 => ?_, fun j h3 h4 => ?_⟩
  · have ej := he (j - g) (by omega)
    rw [show g + (j - g) = j by omega] at ej
    rw [ea, ej]
    exact h.least _ (by omega) (by omega)
  · have ej := he (j - g) (by omega)
    rw [show g + (j - g) = j by omega] at ej
    rw [ea, ej]
    exact h.last _ (by omega) (by omega)

theorem leastTo_shift {L M : List Int} {f g w : Nat} (hw : 0 < w) (he : ∀ d, d < w → M.getD (g + d) 0 = L.getD (f + d) 0) : leastTo M g w = g + (leastTo L f w - f) :=
  (leastTo_is M g w hw).unique ((leastTo_is L f w hw).shift he)

theorem leastTo_mono (L : List Int) (f w : Nat) (hw : 0 < w) : leastTo L f w ≤ leastTo L (f + 1) w := (leastTo_is L f w hw).mono (leastTo_is L (f + 1) w hw)
theorem leastTo_mono' (L : List Int) (w : Nat) (hw : 0 < w) {f g : Nat} (h : f ≤ g) : leastTo L f w ≤ leastTo L g w := by
  obtain ⟨d, rfl⟩ : ∃ d, g = f + d := ⟨g - f, by omega⟩
  clear h
  induction d with
  | zero => exact Nat.le_refl _
  | succ d ih => exact Nat.le_trans ih (leastTo_mono L (f + d) w hw)

/-- The places chosen by the first windows. -/
def chN (L : List Int) (w : Nat) : Nat → List Nat
  | 0 => []
  | k + 1 => if (chN L w k).getLast? = some (leastTo L k w) then chN L w k else chN L w k ++ [leastTo L k w]

theorem chN_last (L : List Int) (w k : Nat) : (chN L w (k + 1)).getLast? = some (leastTo L k w) := by
  unfold chN
  split
  · assumption
  · simp

theorem chN_mem (L : List Int) (w k x : Nat) : x ∈ chN L w k ↔ ∃ i, i < k ∧ x = leastTo L i w := by
  induction k with
  | zero => simp [chN]
  | succ k ih =>
    have cut : (∃ i, i < k + 1 ∧ x = leastTo L i w) ↔ (∃ i, i < k ∧ x = leastTo L i w) ∨ x = leastTo L k w := by
      constructor
      · rintro ⟨i, hi, h⟩
        by_cases e : i = k
        · subst e; exact .inr h
        · exact .inl ⟨i, by omega, h⟩
      · rintro (⟨i, hi, h⟩ | h)
        · exact ⟨i, by omega, h⟩
        · exact ⟨k, by omega, h⟩
    rw [cut, ← ih, chN]
    split
    · rename_i h
      constructor
      · exact .inl
      · rintro (h2 | h2)
        · exact h2
        · subst h2; exact List.mem_of_getLast? h
    · simp

theorem chN_below (L : List Int) (w k : Nat) (hw : 0 < w) (x : Nat) (hx : x ∈ chN L w k) (j : Nat) (hj : k ≤ j + 1) : x ≤ leastTo L j w := by
  obtain ⟨i, hi, rfl⟩ := (chN_mem L w k x).1 hx
  exact leastTo_mono' L w hw (by omega)

theorem chN_up (L : List Int) (w k : Nat) (hw : 0 < w) : (chN L w k).Pairwise (· < ·) := by
  induction k with
  | zero => simp [chN]
  | succ k ih =>
    unfold chN
    split
    · exact ih
    · rename_i h
      rw [List.pairwise_append]
      refine ⟨ih, by simp, fun x hx y hy => ?_⟩
      simp only [List.mem_singleton] at hy
      subst hy
      have h1 := chN_below L w k hw x hx k (by omega)
      rcases Nat.lt_or_eq_of_le h1 with h2 | h2
      · exact h2
      · exfalso
        apply h
        obtain ⟨i, hi, he⟩ := (chN_mem L w k x).1 hx
        obtain ⟨m, rfl⟩ : ∃ m, k = m + 1 := ⟨k - 1, by omega⟩
        rw [chN_last]
        congr 1
        have h3 := leastTo_mono' L w hw (f := i) (g := m) (by omega)
        have h4 := leastTo_mono L m w hw
        omega

theorem chN_len (L : List Int) (w k : Nat) : (chN L w k).length ≤ k := by
  induction k with
  | zero => simp [chN]
  | succ k ih =>
    unfold chN
    split
    · omega
    · simp; omega

/-- What a step of the walk does: the new place is put behind, if it is not the last one. -/
theorem chN_same {L : List Int} {w k : Nat} (h : (chN L w k).getLast? = some (leastTo L k w)) : chN L w (k + 1) = chN L w k := by rw [chN, if_pos h]
theorem chN_new {L : List Int} {w k : Nat} (h : ¬ (chN L w k).getLast? = some (leastTo L k w)) : chN L w (k + 1) = chN L w k ++ [leastTo L k w] := by rw [chN, if_neg h]

/-- Two neighbours are at most a window apart. -/
theorem chN_near (L : List Int) (w k : Nat) (hw : 0 < w) (i : Nat) (hi : i + 1 < (chN L w k).length) : (chN L w k).getD (i + 1) 0 ≤ (chN L w k).getD i 0 + w := by
  induction k with
  | zero => simp [chN] at hi
  | succ k ih =>
    by_cases h : (chN L w k).getLast? = some (leastTo L k w)
    · rw [chN_same h] at hi ⊢
      exact ih hi
    · rw [chN_new h] at hi ⊢
      by_cases hin : i + 1 < (chN L w k).length
      · simp only [List.getD]
        rw [List.getElem?_append_left hin, List.getElem?_append_left (by omega)]
        exact ih hin
      · have hlen : i + 1 = (chN L w k).length := by simp at hi; omega
        cases k with
        | zero => simp [chN] at hlen
        | succ m =>
          have hl := chN_last L w m
          have h2 := leastTo_is L m w hw
          have h3 := leastTo_is L (m + 1) w hw
          have e1 : (chN L w (m + 1) ++ [leastTo L (m + 1) w]).getD (i + 1) 0 = leastTo L (m + 1) w := by
            simp only [List.getD]
            rw [List.getElem?_append_right (by omega), hlen]
            simp
          have e2 : (chN L w (m + 1) ++ [leastTo L (m + 1) w]).getD i 0 = leastTo L m w := by
            simp only [List.getD]
            rw [List.getElem?_append_left (by omega)]
            rw [List.getLast?_eq_getElem?, show (chN L w (m + 1)).length - 1 = i by omega] at hl
            rw [hl]; rfl
          rw [e1, e2]
          have := h2.lo
          have := h3.hi
          omega

/-- The places that are chosen. -/
def chosenN (L : List Int) (w : Int) : List Nat := if w < 1 then [] else chN L w.toNat (L.length + 1 - w.toNat)

theorem chosenN_few {L : List Int} {w : Int} (h : w < 1 ∨ (L.length : Int) < w) : chosenN L w = [] := by
  unfold chosenN
  split
  · rfl
  · rw [show L.length + 1 - w.toNat = 0 by omega]; rfl
theorem chosenN_ok {L : List Int} {w : Nat} (h : 0 < w) : chosenN L (w : Int) = chN L w (L.length + 1 - w) := by
  unfold chosenN; rw [if_neg (by omega), Int.toNat_natCast]

theorem chosenN_up (L : List Int) (w : Int) : (chosenN L w).Pairwise (· < ·) := by
  by_cases h : w < 1
  · rw [chosenN_few (.inl h)]; exact List.Pairwise.nil
  · obtain ⟨v, rfl⟩ : ∃ v : Nat, w = v := ⟨w.toNat, by omega⟩
    rw [chosenN_ok (by omega)]; exact chN_up _ _ _ (by omega)
theorem chosenN_lt (L : List Int) (w : Int) (x : Nat) (hx : x ∈ chosenN L w) : x < L.length := by
  by_cases h : w < 1
  · rw [chosenN_few (.inl h)] at hx; simp at hx
  · obtain ⟨v, rfl⟩ : ∃ v : Nat, w = v := ⟨w.toNat, by omega⟩
    rw [chosenN_ok (by omega)] at hx
    obtain ⟨i, hi, rfl⟩ := (chN_mem _ _ _ _).1 hx
    have := (leastTo_is L i v (by omega)).hi
    omega
theorem chosenN_len (L : List Int) (w : Int) : (chosenN L w).length ≤ L.length := by
  by_cases h : w < 1
  · rw [chosenN_few (.inl h)]; simp
  · obtain ⟨v, rfl⟩ : ∃ v : Nat, w = v := ⟨w.toNat, by omega⟩
    rw [chosenN_ok (by omega)]
    have := chN_len L v (L.length + 1 - v)
    omega

/-! ### What grows -/
/-- Places behind others: each one that is greater than the last. -/
def putAfter (old : List Nat) : List Nat → List Nat
  | [] => old
  | x :: xs => putAfter (if old = [] ∨ old.getLastD 0 < x then old ++ [x] else old) xs

theorem putAfter_snoc (old xs : List Nat) (x : Nat) : putAfter old (xs ++ [x]) = if putAfter old xs = [] ∨ (putAfter old xs).getLastD 0 < x then putAfter old xs ++ [x] else putAfter old xs := by
  induction xs generalizing old with
  | nil => rfl
  | cons y ys ih => exact ih _

theorem getLastD_of {l : List Nat} {x : Nat} (h : l.getLast? = some x) : l.getLastD 0 = x := by
  rw [List.getLastD_eq_getLast?, h]; rfl
theorem ne_nil_of {l : List Nat} {x : Nat} (h : l.getLast? = some x) : l ≠ [] := fun e => by rw [e] at h; simp at h

/-- Windows from one on, told by another row that is the same from there on. -/
theorem putAfter_chN (B C : List Int) (w f n : Nat) (hw : 0 < w) (he : ∀ i, i < n → leastTo B (f + i) w = f + leastTo C i w) :
    putAfter (chN B w f) ((chN C w n).map (f + ·)) = chN B w (f + n) := by
  induction n with
  | zero => simp [chN, putAfter]
  | succ n ih =>
    have hn := he n (by omega)
    have ih' := ih (fun i hi => he i (by omega))
    rw [show f + (n + 1) = f + n + 1 from rfl]
    by_cases hc : (chN C w n).getLast? = some (leastTo C n w)
    · rw [chN_same hc, ih']
      cases n with
      | zero => simp [chN] at hc
      | succ m =>
        rw [chN_last] at hc
        have hm := he m (by omega)
        injection hc with hc
        have hb : (chN B w (f + (m + 1))).getLast? = some (leastTo B (f + (m + 1)) w) := by
          rw [show f + (m + 1) = f + m + 1 from rfl, chN_last, hm, show f + m + 1 = f + (m + 1) from rfl, hn, hc]
        exact (chN_same hb).symm
    · rw [chN_new hc, List.map_append, List.map_singleton, putAfter_snoc, ih', ← hn]
      by_cases hb : (chN B w (f + n)).getLast? = some (leastTo B (f + n) w)
      · rw [chN_same hb, if_neg]
        rintro (h | h)
        · exact ne_nil_of hb h
        · rw [getLastD_of hb] at h; omega
      · rw [chN_new hb, if_pos]
        by_cases h0 : f + n = 0
        · left; rw [h0]; rfl
        · right
          obtain ⟨m, hm⟩ : ∃ m, f + n = m + 1 := ⟨f + n - 1, by omega⟩
          rw [hm] at hb ⊢
          rw [getLastD_of (chN_last B w m)]
          rw [chN_last] at hb
          have := leastTo_mono B m w hw
          have hne : leastTo B m w ≠ leastTo B (m + 1) w := fun e => hb (by rw [e])
          omega

theorem chN_same_rows (A B : List Int) (w n : Nat) (he : ∀ i, i < n → leastTo B i w = leastTo A i w) : chN B w n = chN A w n := by
  induction n with
  | zero => rfl
  | succ n ih =>
    have h := ih (fun i hi => he i (by omega))
    rw [chN, chN, h, he n (by omega)]

theorem chN_prefix (B : List Int) (w f n : Nat) : ∃ t, chN B w (f + n) = chN B w f ++ t := by
  induction n with
  | zero => exact ⟨[], by simp⟩
  | succ n ih =>
    obtain ⟨t, ht⟩ := ih
    rw [show f + (n + 1) = f + n + 1 from rfl]
    by_cases hb : (chN B w (f + n)).getLast? = some (leastTo B (f + n) w)
    · exact ⟨t, by rw [chN_same hb, ht]⟩
    · exact ⟨t ++ [leastTo B (f + n) w], by rw [chN_new hb, ht, List.append_assoc]⟩

/-! ### Of texts -/
theorem pieceL_drop (s : List UInt8) (k f i : Nat) : pieceL (s.drop f) k i = pieceL s k (f + i) := by
  unfold pieceL; rw [List.drop_drop]
theorem pieceL_append (s t : List UInt8) (k i : Nat) (h : i + k ≤ s.length) : pieceL (s ++ t) k i = pieceL s k i := by
  unfold pieceL
  rw [List.drop_append_of_le_length (by omega), List.take_append_of_le_length (by rw [List.length_drop]; omega)]
theorem pieceL_take (s : List UInt8) (k i n : Nat) (h : i + k ≤ n) : pieceL (s.take n) k i = pieceL s k i := by
  unfold pieceL
  rw [List.drop_take, List.take_take, Nat.min_eq_left (by omega)]

theorem printsN_len (s : List UInt8) (k : Nat) (h : 0 < k) : (printsL s (k : Int)).length = s.length + 1 - k := by
  unfold printsL
  split
  · simp; omega
  · rw [printsTo_len, Int.toNat_natCast]; omega
theorem printsN_get (s : List UInt8) (k i : Nat) (h : 0 < k) (hi : i + k ≤ s.length) : (printsL s (k : Int)).getD i 0 = (prN (pieceL s k i) : Nat) := by
  unfold printsL
  rw [if_neg (by omega), Int.toNat_natCast]
  exact printsTo_get _ _ _ _ (by omega)

theorem printsN_room (s : List UInt8) (k : Int) : (printsL s k).length ≤ s.length := by
  unfold printsL
  split
  · simp
  · rw [printsTo_len]; omega

/-- The places of the marks of a text. -/
def marksAt (s : List UInt8) (k w : Int) : List Nat := chosenN (printsL s k) w

/-- Marks grow with the text. -/
theorem marksAt_after (s t : List UInt8) (k w f : Nat) (hk : 0 < k) (hw : 0 < w) (hf : f = s.length + 1 - (k + w - 1)) :
    putAfter (marksAt s k w) ((marksAt ((s ++ t).drop f) k w).map (f + ·)) = marksAt (s ++ t) k w ∧ ∃ r, marksAt (s ++ t) k w = marksAt s k w ++ r := by
  have la := printsN_len s k hk
  have lb := printsN_len (s ++ t) k hk
  have lc := printsN_len ((s ++ t).drop f) k hk
  rw [List.length_append] at lb
  rw [List.length_drop, List.length_append] at lc
  have fa : (printsL s (k : Int)).length + 1 - w = f := by omega
  obtain ⟨n, hn⟩ : ∃ n, (printsL (s ++ t) (k : Int)).length + 1 - w = f + n := ⟨(printsL (s ++ t) (k : Int)).length + 1 - w - f, by omega⟩
  have fc : (printsL ((s ++ t).drop f) (k : Int)).length + 1 - w = n := by omega
  have e1 : marksAt s k w = chN (printsL (s ++ t) k) w f := by
    unfold marksAt
    rw [chosenN_ok hw, fa]
    refine (chN_same_rows _ _ w f fun i hi => ?_).symm
    have := leastTo_shift (L := printsL s k) (M := printsL (s ++ t) k) (f := i) (g := i) hw (fun d hd => by
      rw [printsN_get _ _ _ hk (by rw [List.length_append]; omega), printsN_get _ _ _ hk (by omega), pieceL_append _ _ _ _ (by omega)])
    have := (leastTo_is (printsL s k) i w hw).lo
    omega
  have e2 : marksAt (s ++ t) k w = chN (printsL (s ++ t) k) w (f + n) := by
    unfold marksAt
    rw [chosenN_ok hw, hn]
  have e3 : marksAt ((s ++ t).drop f) k w = chN (printsL ((s ++ t).drop f) k) w n := by
    unfold marksAt
    rw [chosenN_ok hw, fc]
  rw [e1, e2, e3]
  refine ⟨putAfter_chN _ _ w f n hw fun i hi => ?_, chN_prefix _ w f n⟩
  have h := leastTo_shift (L := printsL ((s ++ t).drop f) k) (M := printsL (s ++ t) k) (f := i) (g := f + i) hw (fun d hd => by
    have := @List.length_append _ s t
    rw [printsN_get _ _ _ hk (by omega), printsN_get _ _ _ hk (by rw [List.length_drop]; omega), pieceL_drop, Nat.add_assoc])
  have := (leastTo_is (printsL ((s ++ t).drop f) k) i w hw).lo
  omega

/-- Each mark of a piece is one of the text. -/
theorem marksAt_piece (s : List UInt8) (k w : Nat) (f n : Nat) (hk : 0 < k) (hw : 0 < w) (hn : f + n ≤ s.length) (x : Nat) (hx : x ∈ marksAt (pieceL s n f) k w) :
    f + x ∈ marksAt s k w ∧ x + k ≤ n := by
  have lp := pieceL_len s n f hn
  have la := printsN_len (pieceL s n f) k hk
  have lb := printsN_len s k hk
  unfold marksAt at hx ⊢
  rw [chosenN_ok hw] at hx ⊢
  obtain ⟨i, hi, rfl⟩ := (chN_mem _ _ _ _).1 hx
  have hl := leastTo_is (printsL (pieceL s n f) k) i w hw
  have h := leastTo_shift (L := printsL (pieceL s n f) k) (M := printsL s k) (f := i) (g := f + i) hw (fun d hd => by
    rw [printsN_get _ _ _ hk (by omega), printsN_get _ _ _ hk (by omega)]
    congr 2
    unfold pieceL
    rw [List.drop_take, List.take_take, List.drop_drop, Nat.min_eq_left (by omega), Nat.add_assoc])
  have h1 := hl.lo
  have h2 := hl.hi
  refine ⟨(chN_mem _ _ _ _).2 ⟨f + i, by omega, by omega⟩, by omega⟩

/-- Who copies enough takes a mark along. -/
theorem marksAt_shared (s t : List UInt8) (k w : Nat) (i j : Nat) (hk : 0 < k) (hw : 0 < w) (hi : i + (k + w - 1) ≤ s.length) (hj : j + (k + w - 1) ≤ t.length) (he : pieceL s (k + w - 1) i = pieceL t (k + w - 1) j) :
    ∃ d, d + k ≤ k + w - 1 ∧ i + d ∈ marksAt s k w ∧ j + d ∈ marksAt t k w ∧ pieceL s k (i + d) = pieceL t k (j + d) := by
  have la := printsN_len s k hk
  have lb := printsN_len t k hk
  have hp : ∀ d, d < w → pieceL s k (i + d) = pieceL t k (j + d) := fun d hd => by
    have h1 : pieceL s k (i + d) = pieceL (pieceL s (k + w - 1) i) k d := by
      unfold pieceL; rw [List.drop_take, List.take_take, List.drop_drop, Nat.min_eq_left (by omega)]
    have h2 : pieceL t k (j + d) = pieceL (pieceL t (k + w - 1) j) k d := by
      unfold pieceL; rw [List.drop_take, List.take_take, List.drop_drop, Nat.min_eq_left (by omega)]
    rw [h1, h2, he]
  have hl := leastTo_is (printsL s k) i w hw
  have h1 := hl.lo
  have h2 := hl.hi
  have h := leastTo_shift (L := printsL s k) (M := printsL t k) (f := i) (g := j) hw (fun d hd => by
    rw [printsN_get _ _ _ hk (by omega), printsN_get _ _ _ hk (by omega), hp d hd])
  refine ⟨leastTo (printsL s k) i w - i, by omega, ?_, ?_, hp _ (by omega)⟩
  · unfold marksAt
    rw [chosenN_ok hw]
    exact (chN_mem _ _ _ _).2 ⟨i, by omega, by omega⟩
  · unfold marksAt
    rw [chosenN_ok hw]
    exact (chN_mem _ _ _ _).2 ⟨j, by omega, by omega⟩

end Go.Proofs.Ytclblnkeakkdeaa
