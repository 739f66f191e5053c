/-
  Plain mathematics of fingerprints: of texts, of powers, of joined texts and of pieces that are rolled on. No conditions.
  Plain mathematics of numbers that are chosen: of each window the last one of the least, each once. No conditions.
  The contracts of the model's functions of fingerprints: PrintOf, PrintPower, RollPrint, JoinPrint. Condition: texts have at most 2^22 bytes.
  The contracts of the program's functions of fingerprints: printStep, PrintOf, PrintPower, rolledPrint, isPrint, isByte, RollPrint, JoinPrint. Condition: texts have at most 2^22 bytes.
  Laws of no program: appending one element to a slice that the call itself made, turning such a row of bytes into a string, and reading such rows. No conditions but the bounds that each law names.
  Words for memory of no program: one row that the call itself made, slices whose cells read as a list of values, and rows of records. No conditions.
  The contracts of the model's functions PrintsOf and FindPrint. Condition: texts have at most 2^22 bytes.
  Where a row lies behind an append: in its own block, or in a new one. So two rows of one type that lie apart stay apart. No conditions.
-/
import Derived.Lib.Hide
import Derived.Test.YtbnagmjhdnnheaaProg
import Derived.WalkKit
import Derived.Deep.Draws
import Derived.Laws.BytesString
import Derived.Laws.IdiomStrings
import Derived.Lib.AppendStr
import Derived.Deep.QuietTactic
import Derived.BigQuiet
import Derived.IntWalk
import Derived.Outline
namespace Go.Proofs.Ytbnagmjhdnnheaa

/-- A step: the fingerprint behind one byte more. -/
def prStep (n : Nat) (b : UInt8) : Nat := (n * 257 + b.toNat + 1) % 1000003
/-- The fingerprint of a text. -/
def prN (l : List UInt8) : Nat := l.foldl prStep 0
/-- The powers. -/
def pwN (k : Nat) : Nat := 257 ^ k % 1000003

theorem prStep_lt (n : Nat) (b : UInt8) : prStep n b < 1000003 := Nat.mod_lt _ (by decide)
theorem prN_snoc (l : List UInt8) (b : UInt8) : prN (l ++ [b]) = prStep (prN l) b := by simp [prN]
theorem prF_lt (l : List UInt8) (n : Nat) (h : n < 1000003) : l.foldl prStep n < 1000003 := by
  induction l generalizing n with
  | nil => exact h
  | cons b l ih => exact ih _ (prStep_lt n b)
theorem prN_lt (l : List UInt8) : prN l < 1000003 := prF_lt l 0 (by decide)
theorem pwN_lt (k : Nat) : pwN k < 1000003 := Nat.mod_lt _ (by decide)
theorem pwN_zero : pwN 0 = 1 := by decide
theorem pwN_one : pwN 1 = 257 := by decide

/-- The same rest. -/
def Eqm (a b : Nat) : Prop := a % 1000003 = b % 1000003
theorem Eqm.refl (a : Nat) : Eqm a a := rfl
theorem Eqm.symm {a b : Nat} (h : Eqm a b) : Eqm b a := Eq.symm h
theorem Eqm.trans {a b c : Nat} (h : Eqm a b) (g : Eqm b c) : Eqm a c := Eq.trans h g
theorem Eqm.add {a b c d : Nat} (h : Eqm a b) (g : Eqm c d) : Eqm (a + c) (b + d) := by
  unfold Eqm at *; rw [Nat.add_mod, h, g, ← Nat.add_mod]
theorem Eqm.mul {a b c d : Nat} (h : Eqm a b) (g : Eqm c d) : Eqm (a * c) (b * d) := by
  unfold Eqm at *; rw [Nat.mul_mod, h, g, ← Nat.mul_mod]
theorem Eqm.rest (a : Nat) : Eqm (a % 1000003) a := Nat.mod_mod _ _
theorem Eqm.eq {a b : Nat} (h : Eqm a b) (ha : a < 1000003) (hb : b < 1000003) : a = b := by
  unfold Eqm at h; rwa [Nat.mod_eq_of_lt ha, Nat.mod_eq_of_lt hb] at h
theorem Eqm.whole (a k : Nat) : Eqm (a + 1000003 * k) a := by unfold Eqm; omega
theorem Eqm.cancel {a b c : Nat} (h : Eqm (a + c) (b + c)) : Eqm a b := by unfold Eqm at *; omega

theorem pwN_eqm (k : Nat) : Eqm (pwN k) (257 ^ k) := Eqm.rest _
theorem prStep_eqm (n : Nat) (b : UInt8) : Eqm (prStep n b) (n * 257 + b.toNat + 1) := Eqm.rest _

theorem pwN_add (a b : Nat) : pwN (a + b) = pwN a * pwN b % 1000003 := by
  refine Eqm.eq ?_ (pwN_lt _) (Nat.mod_lt _ (by decide))
  refine (pwN_eqm _).trans (Eqm.trans ?_ (Eqm.rest _).symm)
  rw [Nat.pow_add]
  exact ((pwN_eqm a).mul (pwN_eqm b)).symm
theorem pwN_succ (a : Nat) : pwN (a + 1) = pwN a * 257 % 1000003 := by rw [pwN_add, pwN_one]

/-- From another number on. -/
theorem prF_eqm (l : List UInt8) (n : Nat) : Eqm (l.foldl prStep n) (n * 257 ^ l.length + prN l) := by
  have key : ∀ (l : List UInt8), Eqm (l.reverse.foldl prStep n) (n * 257 ^ l.length + prN l.reverse) := by
    intro l
    induction l with
    | nil => simp [prN, Eqm]
    | cons b l ih =>
      rw [List.reverse_cons, List.foldl_append, List.foldl_cons, List.foldl_nil, prN_snoc, List.length_cons]
      refine (prStep_eqm _ _).trans ?_
      refine Eqm.trans ?_ ((Eqm.refl _).add (prStep_eqm _ _).symm)
      have h2 : n * 257 ^ (l.length + 1) + (prN l.reverse * 257 + b.toNat + 1) = (n * 257 ^ l.length + prN l.reverse) * 257 + b.toNat + 1 := by
        rw [Nat.pow_succ]
        have : n * (257 ^ l.length * 257) = n * 257 ^ l.length * 257 := by rw [Nat.mul_assoc]
        rw [this, Nat.add_mul]
        omega
      rw [h2]
      exact ((ih.mul (Eqm.refl 257)).add (Eqm.refl _)).add (Eqm.refl 1)
  have := key l.reverse
  rwa [List.reverse_reverse, List.length_reverse] at this

/-- The fingerprint of two texts is told by both of theirs. -/
theorem prN_append (a b : List UInt8) : prN (a ++ b) = (prN a * pwN b.length + prN b) % 1000003 := by
  refine Eqm.eq ?_ (prN_lt _) (Nat.mod_lt _ (by decide))
  have e : prN (a ++ b) = b.foldl prStep (prN a) := by simp [prN]
  rw [e]
  refine (prF_eqm b _).trans (Eqm.trans ?_ (Eqm.rest _).symm)
  exact ((Eqm.refl _).mul (pwN_eqm _).symm).add (Eqm.refl _)

theorem prN_cons (g : UInt8) (l : List UInt8) : prN (g :: l) = ((g.toNat + 1) * pwN l.length + prN l) % 1000003 := by
  have h := prN_append [g] l
  have e : prN [g] = g.toNat + 1 := by
    have := g.toNat_lt
    show (0 * 257 + g.toNat + 1) % 1000003 = g.toNat + 1
    omega
  rw [e] at h
  exact h

/-- What a fingerprint is without its first byte: r is what stands for the byte that goes (any number that has its rest). -/
theorem drop_first (g : UInt8) (l : List UInt8) (z : Nat) (hz : Eqm (z + (g.toNat + 1) * pwN l.length) 0) : (prN (g :: l) + z) % 1000003 = prN l := by
  refine Eqm.eq ?_ (Nat.mod_lt _ (by decide)) (prN_lt _)
  refine (Eqm.rest _).trans ?_
  rw [prN_cons]
  refine (((Eqm.rest _).add (Eqm.refl z))).trans ?_
  have h := (hz.add (Eqm.refl (prN l)))
  have e : (g.toNat + 1) * pwN l.length + prN l + z = z + (g.toNat + 1) * pwN l.length + prN l := by omega
  rw [e]
  simpa using h

/-- The rest that is taken away from a multiple of the prime. -/
theorem away (x m : Nat) (_h : x % 1000003 ≤ 1000003 * m) : Eqm ((1000003 * m - x % 1000003) + x) 0 := by
  unfold Eqm
  omega

/-- A piece that is rolled on: the model's way (256 primes are added), by any number m of primes. -/
theorem roll_eq (g : UInt8) (l : List UInt8) (c : UInt8) (m : Nat) (h : 0 < m) :
    ((prN (g :: l) + 1000003 * m - (g.toNat + 1) * pwN l.length % 1000003) % 1000003 * 257 + c.toNat + 1) % 1000003 = prN (l ++ [c]) := by
  have hlt : (g.toNat + 1) * pwN l.length % 1000003 < 1000003 := Nat.mod_lt _ (by decide)
  have hle : (g.toNat + 1) * pwN l.length % 1000003 ≤ 1000003 * m := by omega
  have e : prN (g :: l) + 1000003 * m - (g.toNat + 1) * pwN l.length % 1000003 = prN (g :: l) + (1000003 * m - (g.toNat + 1) * pwN l.length % 1000003) := by omega
  rw [e, drop_first g l _ (away _ m hle), prN_snoc]
  rfl

/-! ### Pieces -/
/-- The piece of k bytes at a place. -/
def pieceL (s : List UInt8) (k i : Nat) : List UInt8 := (s.drop i).take k

theorem pieceL_len (s : List UInt8) (k i : Nat) (h : i + k ≤ s.length) : (pieceL s k i).length = k := by
  rw [pieceL, List.length_take, List.length_drop]; omega
theorem pieceL_cons (s : List UInt8) (k i : Nat) (h : i < s.length) : pieceL s (k + 1) i = s[i] :: (s.drop (i + 1)).take k := by
  rw [pieceL, List.drop_eq_getElem_cons h, List.take_succ_cons]
theorem pieceL_snoc (s : List UInt8) (k i : Nat) (h : i + (k + 1) < s.length) : pieceL s (k + 1) (i + 1) = (s.drop (i + 1)).take k ++ [s[i + (k + 1)]] := by
  have hl : k < (s.drop (i + 1)).length := by rw [List.length_drop]; omega
  rw [pieceL, List.take_succ_eq_append_getElem hl]
  congr 2
  rw [List.getElem_drop]
  congr 1
  omega

/-- A piece that is rolled on is the next one. -/
theorem roll_piece (s : List UInt8) (k i m : Nat) (hk : 0 < k) (h : i + k < s.length) (hm : 0 < m) :
    ((prN (pieceL s k i) + 1000003 * m - (s[i].toNat + 1) * pwN (k - 1) % 1000003) % 1000003 * 257 + s[i + k].toNat + 1) % 1000003 = prN (pieceL s k (i + 1)) := by
  obtain ⟨k, rfl⟩ : ∃ j, k = j + 1 := ⟨k - 1, by omega⟩
  have hl : ((s.drop (i + 1)).take k).length = k := by rw [List.length_take, List.length_drop]; omega
  rw [pieceL_cons s k i (by omega), pieceL_snoc s k i h]
  have := roll_eq s[i] ((s.drop (i + 1)).take k) s[i + (k + 1)] m hm
  rw [hl] at this
  exact this

/-- The fingerprints of the first m pieces. -/
def printsTo (s : List UInt8) (k : Nat) : Nat → List Int
  | 0 => []
  | m + 1 => printsTo s k m ++ [(prN (pieceL s k m) : Int)]
/-- The fingerprints of all pieces. -/
def printsL (s : List UInt8) (k : Int) : List Int := if k < 1 ∨ (s.length : Int) < k then [] else printsTo s k.toNat (s.length - k.toNat + 1)

theorem printsTo_len (s : List UInt8) (k m : Nat) : (printsTo s k m).length = m := by
  induction m with
  | zero => rfl
  | succ m ih => simp [printsTo, ih]
theorem printsTo_get (s : List UInt8) (k m i : Nat) (h : i < m) : (printsTo s k m).getD i 0 = (prN (pieceL s k i) : Int) := by
  induction m with
  | zero => omega
  | succ m ih =>
    simp only [printsTo, List.getD]
    by_cases hi : i < m
    · rw [List.getElem?_append_left (by rw [printsTo_len]; exact hi)]
      exact ih hi
    · obtain rfl : i = m := by omega
      rw [List.getElem?_append_right (by rw [printsTo_len]; exact Nat.le_refl _), printsTo_len]
      simp

/-- The places ahead of m at which a piece is. -/
def findTo (s p : List UInt8) : Nat → List Int
  | 0 => []
  | m + 1 => if pieceL s p.length m = p then findTo s p m ++ [(m : Int)] else findTo s p m
def findL (s p : List UInt8) : List Int := if p.length < 1 ∨ s.length < p.length then [] else findTo s p (s.length - p.length + 1)

/-! ### Powers by squares -/
/-- One round of the way by squares: what is out times what is left. -/
theorem sq_even (o b n : Nat) (h : n % 2 = 0) : Eqm (o * (b * b % 1000003) ^ (n / 2)) (o * b ^ n) := by
  have e : b ^ n = (b * b) ^ (n / 2) := by
    have : n = 2 * (n / 2) := by omega
    conv => lhs; rw [this, Nat.pow_mul, Nat.pow_two]
  rw [e]
  refine (Eqm.refl o).mul ?_
  unfold Eqm
  exact (Nat.pow_mod (b * b) (n / 2) 1000003).symm
theorem sq_odd (o b n : Nat) (h : n % 2 = 1) : Eqm (o * b % 1000003 * (b * b % 1000003) ^ (n / 2)) (o * b ^ n) := by
  have h2 := sq_even (o * b % 1000003) b (n - 1) (by omega)
  have e1 : (n - 1) / 2 = n / 2 := by omega
  rw [e1] at h2
  refine h2.trans (((Eqm.rest _).mul (Eqm.refl _)).trans ?_)
  have e2 : o * b * b ^ (n - 1) = o * b ^ n := by
    have : n = (n - 1) + 1 := by omega
    conv => rhs; rw [this, Nat.pow_succ]
    rw [Nat.mul_assoc, Nat.mul_comm b]
  rw [e2]
  exact Eqm.refl _

end Go.Proofs.Ytbnagmjhdnnheaa

namespace Go.Proofs.Ytbnagmjhdnnheaa

/-- The last place of the least number, of as many as told, from a place on. -/
def leastTo (L : List Int) (f : Nat) : Nat → Nat
  | 0 => f
  | m + 1 => if L.getD (f + m) 0 ≤ L.getD (leastTo L f m) 0 then f + m else leastTo L f m

/-- This place is the last one of the least in a window. -/
structure IsLeast (L : List Int) (f w a : Nat) : Prop where
  lo : f ≤ a
  hi : a < f + w
  least : ∀ j, f ≤ j → j < f + w → L.getD a 0 ≤ L.getD j 0
  last : ∀ j, a < j → j < f + w → L.getD a 0 < L.getD j 0

theorem leastTo_is (L : List Int) (f w : Nat) (hw : 0 < w) : IsLeast L f w (leastTo L f w) := by
  induction w with
  | zero => omega
  | succ m ih =>
    by_cases h0 : m = 0
    · subst h0
      have e : leastTo L f 1 = f := by simp [leastTo]
      rw [e]
      refine ⟨Nat.le_refl _, by omega, fun j h1 h2 => ?_, fun j h1 h2 => by omega⟩
      obtain rfl : j = f := by omega
      exact Int.le_refl _
    · have h := ih (by omega)
      unfold leastTo
      split
      · rename_i hle
        refine ⟨by omega, by omega, fun j h1 h2 => ?_, fun j h1 h2 => by omega⟩
        by_cases e : j = f + m
        · subst e; exact Int.le_refl _
        · exact Int.le_trans hle (h.least j h1 (by omega))
      · rename_i hgt
        refine ⟨h.lo, by have := h.hi; omega, fun j h1 h2 => ?_, fun j h1 h2 => ?_⟩
        · by_cases e : j = f + m
          · subst e; omega
          · exact h.least j h1 (by omega)
        · by_cases e : j = f + m
          · subst e; omega
          · exact h.last j h1 (by omega)

theorem IsLeast.unique {L : List Int} {f w a b : Nat} (ha : IsLeast L f w a) (hb : IsLeast L f w b) : a = b := by
  rcases Nat.lt_trichotomy a b with h | h | h
  · have h1 := ha.last b h hb.hi
    have h2 := hb.least a ha.lo ha.hi
    omega
  · exact h
  · have h1 := hb.last a h ha.hi
    have h2 := ha.least b hb.lo hb.hi
    omega

theorem IsLeast.mono {L : List Int} {f w a b : Nat} (ha : IsLeast L f w a) (hb : IsLeast L (f + 1) w b) : a ≤ b := by
  rcases Nat.lt_or_ge b a with h | h
  · have h1 := hb.last a h (by have := ha.hi; omega)
    have h2 := ha.least b (by have := hb.lo; omega) (by have := ha.hi; omega)
    omega
  · exact h

/-- The same window elsewhere. -/
theorem IsLeast.shift {L M : List Int} {f g w a : Nat} (h : IsLeast L f w a) (he : ∀ d, d < w → M.getD (g + d) 0 = L.getD (f + d) 0) : IsLeast M g w (g + (a - f)) := by
  have h1 := h.lo
  have h2 := h.hi
  have ea : M.getD (g + (a - f)) 0 = L.getD a 0 := by rw [he (a - f) (by omega), show f + (a - f) = a by omega]
  refine ⟨by omega, by omega, fun j h3 h4 => ?_, fun j h3 h4 => ?_⟩
  · have ej := he (j - g) (by omega)
    rw [show g + (j - g) = j by omega] at ej
    rw [ea, ej]
    exact h.least _ (by omega) (by omega)
  · have ej := he (j - g) (by omega)
    rw [show g + (j - g) = j by omega] at ej
    rw [ea, ej]
    exact h.last _ (by omega) (by omega)

theorem leastTo_shift {L M : List Int} {f g w : Nat} (hw : 0 < w) (he : ∀ d, d < w → M.getD (g + d) 0 = L.getD (f + d) 0) : leastTo M g w = g + (leastTo L f w - f) :=
  (leastTo_is M g w hw).unique ((leastTo_is L f w hw).shift he)

theorem leastTo_mono (L : List Int) (f w : Nat) (hw : 0 < w) : leastTo L f w ≤ leastTo L (f + 1) w := (leastTo_is L f w hw).mono (leastTo_is L (f + 1) w hw)
theorem leastTo_mono' (L : List Int) (w : Nat) (hw : 0 < w) {f g : Nat} (h : f ≤ g) : leastTo L f w ≤ leastTo L g w := by
  obtain ⟨d, rfl⟩ : ∃ d, g = f + d := ⟨g - f, by omega⟩
  clear h
  induction d with
  | zero => exact Nat.le_refl _
  | succ d ih => exact Nat.le_trans ih (leastTo_mono L (f + d) w hw)

/-- The places chosen by the first windows. -/
def chN (L : List Int) (w : Nat) : Nat → List Nat
  | 0 => []
  | k + 1 => if (chN L w k).getLast? = some (leastTo L k w) then chN L w k else chN L w k ++ [leastTo L k w]

theorem chN_last (L : List Int) (w k : Nat) : (chN L w (k + 1)).getLast? = some (leastTo L k w) := by
  unfold chN
  split
  · assumption
  · simp

theorem chN_mem (L : List Int) (w k x : Nat) : x ∈ chN L w k ↔ ∃ i, i < k ∧ x = leastTo L i w := by
  induction k with
  | zero => simp [chN]
  | succ k ih =>
    have cut : (∃ i, i < k + 1 ∧ x = leastTo L i w) ↔ (∃ i, i < k ∧ x = leastTo L i w) ∨ x = leastTo L k w := by
      constructor
      · rintro ⟨i, hi, h⟩
        by_cases e : i = k
        · subst e; exact .inr h
        · exact .inl ⟨i, by omega, h⟩
      · rintro (⟨i, hi, h⟩ | h)
        · exact ⟨i, by omega, h⟩
        · exact ⟨k, by omega, h⟩
    rw [cut, ← ih, chN]
    split
    · rename_i h
      constructor
      · exact .inl
      · rintro (h2 | h2)
        · exact h2
        · subst h2; exact List.mem_of_getLast? h
    · simp

theorem chN_below (L : List Int) (w k : Nat) (hw : 0 < w) (x : Nat) (hx : x ∈ chN L w k) (j : Nat) (hj : k ≤ j + 1) : x ≤ leastTo L j w := by
  obtain ⟨i, hi, rfl⟩ := (chN_mem L w k x).1 hx
  exact leastTo_mono' L w hw (by omega)

theorem chN_up (L : List Int) (w k : Nat) (hw : 0 < w) : (chN L w k).Pairwise (· < ·) := by
  induction k with
  | zero => simp [chN]
  | succ k ih =>
    unfold chN
    split
    · exact ih
    · rename_i h
      rw [List.pairwise_append]
      refine ⟨ih, by simp, fun x hx y hy => ?_⟩
      simp only [List.mem_singleton] at hy
      subst hy
      have h1 := chN_below L w k hw x hx k (by omega)
      rcases Nat.lt_or_eq_of_le h1 with h2 | h2
      · exact h2
      · exfalso
        apply h
        obtain ⟨i, hi, he⟩ := (chN_mem L w k x).1 hx
        obtain ⟨m, rfl⟩ : ∃ m, k = m + 1 := ⟨k - 1, by omega⟩
        rw [chN_last]
        congr 1
        have h3 := leastTo_mono' L w hw (f := i) (g := m) (by omega)
        have h4 := leastTo_mono L m w hw
        omega

theorem chN_len (L : List Int) (w k : Nat) : (chN L w k).length ≤ k := by
  induction k with
  | zero => simp [chN]
  | succ k ih =>
    unfold chN
    split
    · omega
    · simp; omega

/-- What a step of the walk does: the new place is put behind, if it is not the last one. -/
theorem chN_same {L : List Int} {w k : Nat} (h : (chN L w k).getLast? = some (leastTo L k w)) : chN L w (k + 1) = chN L w k := by rw [chN, if_pos h]
theorem chN_new {L : List Int} {w k : Nat} (h : ¬ (chN L w k).getLast? = some (leastTo L k w)) : chN L w (k + 1) = chN L w k ++ [leastTo L k w] := by rw [chN, if_neg h]

/-- Two neighbours are at most a window apart. -/
theorem chN_near (L : List Int) (w k : Nat) (hw : 0 < w) (i : Nat) (hi : i + 1 < (chN L w k).length) : (chN L w k).getD (i + 1) 0 ≤ (chN L w k).getD i 0 + w := by
  induction k with
  | zero => simp [chN] at hi
  | succ k ih =>
    by_cases h : (chN L w k).getLast? = some (leastTo L k w)
    · rw [chN_same h] at hi ⊢
      exact ih hi
    · rw [chN_new h] at hi ⊢
      by_cases hin : i + 1 < (chN L w k).length
      · simp only [List.getD]
        rw [List.getElem?_append_left hin, List.getElem?_append_left (by omega)]
        exact ih hin
      · have hlen : i + 1 = (chN L w k).length := by simp at hi; omega
        cases k with
        | zero => simp [chN] at hlen
        | succ m =>
          have hl := chN_last L w m
          have h2 := leastTo_is L m w hw
          have h3 := leastTo_is L (m + 1) w hw
          have e1 : (chN L w (m + 1) ++ [leastTo L (m + 1) w]).getD (i + 1) 0 = leastTo L (m + 1) w := by
            simp only [List.getD]
            rw [List.getElem?_append_right (by omega), hlen]
            simp
          have e2 : (chN L w (m + 1) ++ [leastTo L (m + 1) w]).getD i 0 = leastTo L m w := by
            simp only [List.getD]
            rw [List.getElem?_append_left (by omega)]
            rw [List.getLast?_eq_getElem?, show (chN L w (m + 1)).length - 1 = i by omega] at hl
            rw [hl]; rfl
          rw [e1, e2]
          have := h2.lo
          have := h3.hi
          omega

/-- The places that are chosen. -/
def chosenN (L : List Int) (w : Int) : List Nat := if w < 1 then [] else chN L w.toNat (L.length + 1 - w.toNat)

theorem chosenN_few {L : List Int} {w : Int} (h : w < 1 ∨ (L.length : Int) < w) : chosenN L w = [] := by
  unfold chosenN
  split
  · rfl
  · rw [show L.length + 1 - w.toNat = 0 by omega]; rfl
theorem chosenN_ok {L : List Int} {w : Nat} (h : 0 < w) : chosenN L (w : Int) = chN L w (L.length + 1 - w) := by
  unfold chosenN; rw [if_neg (by omega), Int.toNat_natCast]

theorem chosenN_up (L : List Int) (w : Int) : (chosenN L w).Pairwise (· < ·) := by
  by_cases h : w < 1
  · rw [chosenN_few (.inl h)]; exact List.Pairwise.nil
  · obtain ⟨v, rfl⟩ : ∃ v : Nat, w = v := ⟨w.toNat, by omega⟩
    rw [chosenN_ok (by omega)]; exact chN_up _ _ _ (by omega)
theorem chosenN_lt (L : List Int) (w : Int) (x : Nat) (hx : x ∈ chosenN L w) : x < L.length := by
  by_cases h : w < 1
  · rw [chosenN_few (.inl h)] at hx; simp at hx
  · obtain ⟨v, rfl⟩ : ∃ v : Nat, w = v := ⟨w.toNat, by omega⟩
    rw [chosenN_ok (by omega)] at hx
    obtain ⟨i, hi, rfl⟩ := (chN_mem _ _ _ _).1 hx
    have := (leastTo_is L i v (by omega)).hi
    omega
theorem chosenN_len (L : List Int) (w : Int) : (chosenN L w).length ≤ L.length := by
  by_cases h : w < 1
  · rw [chosenN_few (.inl h)]; simp
  · obtain ⟨v, rfl⟩ : ∃ v : Nat, w = v := ⟨w.toNat, by omega⟩
    rw [chosenN_ok (by omega)]
    have := chN_len L v (L.length + 1 - v)
    omega

/-! ### What grows -/
/-- Places behind others: each one that is greater than the last. -/
def putAfter (old : List Nat) : List Nat → List Nat
  | [] => old
  | x :: xs => putAfter (if old = [] ∨ old.getLastD 0 < x then old ++ [x] else old) xs

theorem putAfter_snoc (old xs : List Nat) (x : Nat) : putAfter old (xs ++ [x]) = if putAfter old xs = [] ∨ (putAfter old xs).getLastD 0 < x then putAfter old xs ++ [x] else putAfter old xs := by
  induction xs generalizing old with
  | nil => rfl
  | cons y ys ih => exact ih _

theorem getLastD_of {l : List Nat} {x : Nat} (h : l.getLast? = some x) : l.getLastD 0 = x := by
  rw [List.getLastD_eq_getLast?, h]; rfl
theorem ne_nil_of {l : List Nat} {x : Nat} (h : l.getLast? = some x) : l ≠ [] := fun e => by rw [e] at h; simp at h

/-- Windows from one on, told by another row that is the same from there on. -/
theorem putAfter_chN (B C : List Int) (w f n : Nat) (hw : 0 < w) (he : ∀ i, i < n → leastTo B (f + i) w = f + leastTo C i w) :
    putAfter (chN B w f) ((chN C w n).map (f + ·)) = chN B w (f + n) := by
  induction n with
  | zero => simp [chN, putAfter]
  | succ n ih =>
    have hn := he n (by omega)
    have ih' := ih (fun i hi => he i (by omega))
    rw [show f + (n + 1) = f + n + 1 from rfl]
    by_cases hc : (chN C w n).getLast? = some (leastTo C n w)
    · rw [chN_same hc, ih']
      cases n with
      | zero => simp [chN] at hc
      | succ m =>
        rw [chN_last] at hc
        have hm := he m (by omega)
        injection hc with hc
        have hb : (chN B w (f + (m + 1))).getLast? = some (leastTo B (f + (m + 1)) w) := by
          rw [show f + (m + 1) = f + m + 1 from rfl, chN_last, hm, show f + m + 1 = f + (m + 1) from rfl, hn, hc]
        exact (chN_same hb).symm
    · rw [chN_new hc, List.map_append, List.map_singleton, putAfter_snoc, ih', ← hn]
      by_cases hb : (chN B w (f + n)).getLast? = some (leastTo B (f + n) w)
      · rw [chN_same hb, if_neg]
        rintro (h | h)
        · exact ne_nil_of hb h
        · rw [getLastD_of hb] at h; omega
      · rw [chN_new hb, if_pos]
        by_cases h0 : f + n = 0
        · left; rw [h0]; rfl
        · right
          obtain ⟨m, hm⟩ : ∃ m, f + n = m + 1 := ⟨f + n - 1, by omega⟩
          rw [hm] at hb ⊢
          rw [getLastD_of (chN_last B w m)]
          rw [chN_last] at hb
          have := leastTo_mono B m w hw
          have hne : leastTo B m w ≠ leastTo B (m + 1) w := fun e => hb (by rw [e])
          omega

theorem chN_same_rows (A B : List Int) (w n : Nat) (he : ∀ i, i < n → leastTo B i w = leastTo A i w) : chN B w n = chN A w n := by
  induction n with
  | zero => rfl
  | succ n ih =>
    have h := ih (fun i hi => he i (by omega))
    rw [chN, chN, h, he n (by omega)]

theorem chN_prefix (B : List Int) (w f n : Nat) : ∃ t, chN B w (f + n) = chN B w f ++ t := by
  induction n with
  | zero => exact ⟨[], by simp⟩
  | succ n ih =>
    obtain ⟨t, ht⟩ := ih
    rw [show f + (n + 1) = f + n + 1 from rfl]
    by_cases hb : (chN B w (f + n)).getLast? = some (leastTo B (f + n) w)
    · exact ⟨t, by rw [chN_same hb, ht]⟩
    · exact ⟨t ++ [leastTo B (f + n) w], by rw [chN_new hb, ht, List.append_assoc]⟩

/-! ### Of texts -/
theorem pieceL_drop (s : List UInt8) (k f i : Nat) : pieceL (s.drop f) k i = pieceL s k (f + i) := by
  unfold pieceL; rw [List.drop_drop]
theorem pieceL_append (s t : List UInt8) (k i : Nat) (h : i + k ≤ s.length) : pieceL (s ++ t) k i = pieceL s k i := by
  unfold pieceL
  rw [List.drop_append_of_le_length (by omega), List.take_append_of_le_length (by rw [List.length_drop]; omega)]
theorem pieceL_take (s : List UInt8) (k i n : Nat) (h : i + k ≤ n) : pieceL (s.take n) k i = pieceL s k i := by
  unfold pieceL
  rw [List.drop_take, List.take_take, Nat.min_eq_left (by omega)]

theorem printsN_len (s : List UInt8) (k : Nat) (h : 0 < k) : (printsL s (k : Int)).length = s.length + 1 - k := by
  unfold printsL
  split
  · simp; omega
  · rw [printsTo_len, Int.toNat_natCast]; omega
theorem printsN_get (s : List UInt8) (k i : Nat) (h : 0 < k) (hi : i + k ≤ s.length) : (printsL s (k : Int)).getD i 0 = (prN (pieceL s k i) : Nat) := by
  unfold printsL
  rw [if_neg (by omega), Int.toNat_natCast]
  exact printsTo_get _ _ _ _ (by omega)

theorem printsN_room (s : List UInt8) (k : Int) : (printsL s k).length ≤ s.length := by
  unfold printsL
  split
  · simp
  · rw [printsTo_len]; omega

/-- The places of the marks of a text. -/
def marksAt (s : List UInt8) (k w : Int) : List Nat := chosenN (printsL s k) w

/-- Marks grow with the text. -/
theorem marksAt_after (s t : List UInt8) (k w f : Nat) (hk : 0 < k) (hw : 0 < w) (hf : f = s.length + 1 - (k + w - 1)) :
    putAfter (marksAt s k w) ((marksAt ((s ++ t).drop f) k w).map (f + ·)) = marksAt (s ++ t) k w ∧ ∃ r, marksAt (s ++ t) k w = marksAt s k w ++ r := by
  have la := printsN_len s k hk
  have lb := printsN_len (s ++ t) k hk
  have lc := printsN_len ((s ++ t).drop f) k hk
  rw [List.length_append] at lb
  rw [List.length_drop, List.length_append] at lc
  have fa : (printsL s (k : Int)).length + 1 - w = f := by omega
  obtain ⟨n, hn⟩ : ∃ n, (printsL (s ++ t) (k : Int)).length + 1 - w = f + n := ⟨(printsL (s ++ t) (k : Int)).length + 1 - w - f, by omega⟩
  have fc : (printsL ((s ++ t).drop f) (k : Int)).length + 1 - w = n := by omega
  have e1 : marksAt s k w = chN (printsL (s ++ t) k) w f := by
    unfold marksAt
    rw [chosenN_ok hw, fa]
    refine (chN_same_rows _ _ w f fun i hi => ?_).symm
    have := leastTo_shift (L := printsL s k) (M := printsL (s ++ t) k) (f := i) (g := i) hw (fun d hd => by
      rw [printsN_get _ _ _ hk (by rw [List.length_append]; omega), printsN_get _ _ _ hk (by omega), pieceL_append _ _ _ _ (by omega)])
    have := (leastTo_is (printsL s k) i w hw).lo
    omega
  have e2 : marksAt (s ++ t) k w = chN (printsL (s ++ t) k) w (f + n) := by
    unfold marksAt
    rw [chosenN_ok hw, hn]
  have e3 : marksAt ((s ++ t).drop f) k w = chN (printsL ((s ++ t).drop f) k) w n := by
    unfold marksAt
    rw [chosenN_ok hw, fc]
  rw [e1, e2, e3]
  refine ⟨putAfter_chN _ _ w f n hw fun i hi => ?_, chN_prefix _ w f n⟩
  have h := leastTo_shift (L := printsL ((s ++ t).drop f) k) (M := printsL (s ++ t) k) (f := i) (g := f + i) hw (fun d hd => by
    have := @List.length_append _ s t
    rw [printsN_get _ _ _ hk (by omega), printsN_get _ _ _ hk (by rw [List.length_drop]; omega), pieceL_drop, Nat.add_assoc])
  have := (leastTo_is (printsL ((s ++ t).drop f) k) i w hw).lo
  omega

/-- Each mark of a piece is one of the text. -/
theorem marksAt_piece (s : List UInt8) (k w : Nat) (f n : Nat) (hk : 0 < k) (hw : 0 < w) (hn : f + n ≤ s.length) (x : Nat) (hx : x ∈ marksAt (pieceL s n f) k w) :
    f + x ∈ marksAt s k w ∧ x + k ≤ n := by
  have lp := pieceL_len s n f hn
  have la := printsN_len (pieceL s n f) k hk
  have lb := printsN_len s k hk
  unfold marksAt at hx ⊢
  rw [chosenN_ok hw] at hx ⊢
  obtain ⟨i, hi, rfl⟩ := (chN_mem _ _ _ _).1 hx
  have hl := leastTo_is (printsL (pieceL s n f) k) i w hw
  have h := leastTo_shift (L := printsL (pieceL s n f) k) (M := printsL s k) (f := i) (g := f + i) hw (fun d hd => by
    rw [printsN_get _ _ _ hk (by omega), printsN_get _ _ _ hk (by omega)]
    congr 2
    unfold pieceL
    rw [List.drop_take, List.take_take, List.drop_drop, Nat.min_eq_left (by omega), Nat.add_assoc])
  have h1 := hl.lo
  have h2 := hl.hi
  refine ⟨(chN_mem _ _ _ _).2 ⟨f + i, by omega, by omega⟩, by omega⟩

/-- Who copies enough takes a mark along. -/
theorem marksAt_shared (s t : List UInt8) (k w : Nat) (i j : Nat) (hk : 0 < k) (hw : 0 < w) (hi : i + (k + w - 1) ≤ s.length) (hj : j + (k + w - 1) ≤ t.length) (he : pieceL s (k + w - 1) i = pieceL t (k + w - 1) j) :
    ∃ d, d + k ≤ k + w - 1 ∧ i + d ∈ marksAt s k w ∧ j + d ∈ marksAt t k w ∧ pieceL s k (i + d) = pieceL t k (j + d) := by
  have la := printsN_len s k hk
  have lb := printsN_len t k hk
  have hp : ∀ d, d < w → pieceL s k (i + d) = pieceL t k (j + d) := fun d hd => by
    have h1 : pieceL s k (i + d) = pieceL (pieceL s (k + w - 1) i) k d := by
      unfold pieceL; rw [List.drop_take, List.take_take, List.drop_drop, Nat.min_eq_left (by omega)]
    have h2 : pieceL t k (j + d) = pieceL (pieceL t (k + w - 1) j) k d := by
      unfold pieceL; rw [List.drop_take, List.take_take, List.drop_drop, Nat.min_eq_left (by omega)]
    rw [h1, h2, he]
  have hl := leastTo_is (printsL s k) i w hw
  have h1 := hl.lo
  have h2 := hl.hi
  have h := leastTo_shift (L := printsL s k) (M := printsL t k) (f := i) (g := j) hw (fun d hd => by
    rw [printsN_get _ _ _ hk (by omega), printsN_get _ _ _ hk (by omega), hp d hd])
  refine ⟨leastTo (printsL s k) i w - i, by omega, ?_, ?_, hp _ (by omega)⟩
  · unfold marksAt
    rw [chosenN_ok hw]
    exact (chN_mem _ _ _ _).2 ⟨i, by omega, by omega⟩
  · unfold marksAt
    rw [chosenN_ok hw]
    exact (chN_mem _ _ _ _).2 ⟨j, by omega, by omega⟩

end Go.Proofs.Ytbnagmjhdnnheaa

namespace Go.Proofs.Ytbnagmjhdnnheaa
open Go.RowKit

theorem ret_i64 {a b : Int} (h : a = b) : Ending.returned (.int .i64 a) = .returned (.int .i64 b) := by rw [h]

theorem tmod_nat (z : Int) (a : Nat) (h : z = (a : Int)) : z.tmod 1000003 = ((a % 1000003 : Nat) : Int) := by
  subst h; exact (Int.ofNat_tmod a 1000003).symm

theorem prF_take (s : ByteArray) (k : Nat) (h : k < s.size) : prN (s.data.toList.take (k + 1)) = prStep (prN (s.data.toList.take k)) s[k] := by
  have hl : k < s.data.toList.length := h
  rw [List.take_succ_eq_append_getElem hl, prN_snoc]
  rfl

set_option maxHeartbeats 1000000 in
theorem specPrintOf_any (s : ByteArray) (w : World) (hs : s.size ≤ 4194304) :
    Calls Try.prog 101 #[.string s] w fun e w' => e = .returned (.int .i64 (prN s.data.toList)) ∧ w = w' := by
  go_enter Try.func101, Try.ntmps101
  go_wp2
  go_loop [3, 4] (fun n i => ∃ k x : Nat, k ≤ s.size ∧ i = .int .i64 k ∧ n = .int .i64 x ∧ x < 1000003 ∧ Hid (x = prN (s.data.toList.take k))) (fun _ i => s.size - (intOf i).toNat)
  case atStart => exact ⟨0, 0, Nat.zero_le _, rfl, rfl, by omega, Lib.hid rfl⟩
  case round =>
    obtain ⟨k, x, hk, rfl, rfl, hx, HX⟩ := hrel
    by_cases hlt : k < s.size
    · have hb : (s[k].toNat : Int) ≤ 255 := by have := s[k].toNat_lt; omega
      have hy := prF_take s k hlt
      rw [← HX.out] at hy
      have hy9 := prStep_lt x s[k]
      have et : ((x : Int) * 257 + (s[k].toNat : Int) + 1).tmod 1000003 = (prStep x s[k] : Int) := tmod_nat _ (x * 257 + s[k].toNat + 1) (by omega)
      obtain ⟨y, hyy⟩ : ∃ y, prStep x s[k] = y := ⟨_, rfl⟩
      rw [hyy] at hy hy9 et
      have HY := Lib.hid hy
      clear hy hyy HX
      go_wp2
      go_round
      case rel => exact ⟨k + 1, y, by omega, by go_num, by go_num, hy9, Lib.hid HY.out.symm⟩
      case measure => simp [intOf]; omega
    · obtain rfl : k = s.size := by omega
      have hE : s.data.toList.take s.size = s.data.toList := List.take_of_length_le (Nat.le_refl _)
      have h1 := HX.out
      rw [hE] at h1
      go_wp2
      go_ret
      exact ⟨rfl, rfl⟩

/-- What is out and what is left, in the way by squares. -/
def pwZ (n : Int) : Int := if n < 0 then 0 else (pwN n.toNat : Nat)
theorem pwZ_lt (n : Int) : 0 ≤ pwZ n ∧ pwZ n < 1000003 := by
  unfold pwZ
  split
  · omega
  · have := pwN_lt n.toNat; omega

set_option maxHeartbeats 1000000 in
theorem specPrintPower_any (n : Int) (w : World) (h1 : -9223372036854775808 ≤ n) (h2 : n ≤ 9223372036854775807) :
    Calls Try.prog 113 #[.int .i64 n] w fun e w' => e = .returned (.int .i64 (pwZ n)) ∧ w = w' := by
  by_cases hn : n < 0
  · have e : pwZ n = 0 := by unfold pwZ; rw [if_pos hn]
    rw [e]
    clear e
    go_enter Try.func113, Try.ntmps113
    go_wp2
    go_ret
    exact ⟨rfl, rfl⟩
  · obtain ⟨m, rfl⟩ : ∃ m : Nat, n = m := ⟨n.toNat, by omega⟩
    have e : pwZ (m : Int) = (pwN m : Nat) := by unfold pwZ; rw [if_neg hn, Int.toNat_natCast]
    obtain ⟨z, hz⟩ : ∃ z, pwZ (m : Int) = z := ⟨_, rfl⟩
    rw [hz] at e ⊢
    have HE := Lib.hid e
    have hs : Eqm (1 * 257 ^ m) (257 ^ m) := by rw [Nat.one_mul]; exact Eqm.refl _
    have HS := Lib.hid hs
    clear e hz hs
    go_enter Try.func113, Try.ntmps113
    go_wp2
    go_loop [0, 3, 4] (fun left out base => ∃ k o b : Nat, k ≤ m ∧ left = .int .i64 k ∧ out = .int .i64 o ∧ base = .int .i64 b ∧ o < 1000003 ∧ b < 1000003 ∧ Hid (Eqm (o * b ^ k) (257 ^ m))) (fun left _ _ => (intOf left).toNat)
    case atStart => exact ⟨m, 1, 257, Nat.le_refl _, rfl, rfl, rfl, by omega, by omega, HS⟩
    case round =>
      obtain ⟨k, o, b, hk, rfl, rfl, rfl, ho, hb, HR⟩ := hrel
      by_cases h0 : 0 < k
      · have hbb : b * b ≤ 1000002 * 1000002 := Nat.mul_le_mul (by omega) (by omega)
        have hob : o * b ≤ 1000002 * 1000002 := Nat.mul_le_mul (by omega) (by omega)
        have et1 : ((b : Int) * (b : Int)).tmod 1000003 = ((b * b % 1000003 : Nat) : Int) := tmod_nat _ (b * b) (by simp)
        have et2 : ((o : Int) * (b : Int)).tmod 1000003 = ((o * b % 1000003 : Nat) : Int) := tmod_nat _ (o * b) (by simp)
        have ht : (k : Int).tdiv 2 = ((k / 2 : Nat) : Int) := (Int.ofNat_tdiv k 2).symm
        have hm : (k : Int).tmod 2 = ((k % 2 : Nat) : Int) := (Int.ofNat_tmod k 2).symm
        have w1 : IntKind.i64.wrap ((b : Int) * (b : Int)) = (b : Int) * (b : Int) := IntWalk.i64_in _ (by
          have : ((b * b : Nat) : Int) ≤ 1000002 * 1000002 := by omega
          rw [Int.natCast_mul] at this
          have h3 : 0 ≤ (b : Int) * (b : Int) := Int.mul_nonneg (by omega) (by omega)
          omega)
        have w2 : IntKind.i64.wrap ((o : Int) * (b : Int)) = (o : Int) * (b : Int) := IntWalk.i64_in _ (by
          have : ((o * b : Nat) : Int) ≤ 1000002 * 1000002 := by omega
          rw [Int.natCast_mul] at this
          have h3 : 0 ≤ (o : Int) * (b : Int) := Int.mul_nonneg (by omega) (by omega)
          omega)
        have l1 : b * b % 1000003 < 1000003 := Nat.mod_lt _ (by decide)
        have l2 : o * b % 1000003 < 1000003 := Nat.mod_lt _ (by decide)
        have se := sq_even o b k
        have so := sq_odd o b k
        obtain ⟨q, hq⟩ : ∃ q, b * b % 1000003 = q := ⟨_, rfl⟩
        obtain ⟨p, hp⟩ : ∃ p, o * b % 1000003 = p := ⟨_, rfl⟩
        rw [hq] at et1 l1 se so
        rw [hp] at et2 l2 so
        obtain ⟨d, hd⟩ : ∃ d, k / 2 = d := ⟨_, rfl⟩
        rw [hd] at ht se so
        have hdk : d < k := by omega
        by_cases hodd : k % 2 = 1
        · rw [hodd] at hm
          have HN := Lib.hid ((so hodd).trans HR.out)
          clear se so hq hp hd hbb hob
          go_wp2
          go_round
          case rel => exact ⟨d, p, q, by omega, by go_num, by go_num, by go_num, l2, l1, HN⟩
          case measure => simp [intOf]; omega
        · have hev : k % 2 = 0 := by omega
          rw [hev] at hm
          have HN := Lib.hid ((se hev).trans HR.out)
          clear se so hq hp hd hbb hob
          go_wp2
          go_round
          case rel => exact ⟨d, o, q, by omega, by go_num, by go_num, by go_num, ho, l1, HN⟩
          case measure => simp [intOf]; omega
      · obtain rfl : k = 0 := by omega
        have h3 := HR.out
        rw [Nat.pow_zero, Nat.mul_one] at h3
        have h4 : o = pwN m := Eqm.eq (h3.trans (pwN_eqm m).symm) ho (pwN_lt m)
        have h5 := HE.out
        clear h3
        go_wp2
        go_ret
        exact ⟨ret_i64 (by omega), rfl⟩

/-- The fingerprint of a piece that is rolled on, of joined texts. -/
def rollN (n k g c : Nat) : Nat := ((n + 1000003 * 256 - (g + 1) * pwN (k - 1) % 1000003) % 1000003 * 257 + c + 1) % 1000003
def joinN (a b k : Nat) : Nat := (a * pwN k + b) % 1000003

set_option maxHeartbeats 1000000 in
theorem specRollPrint_bad (n k g c : Int) (w : World) (h : n < 0 ∨ 1000003 ≤ n ∨ k < 1 ∨ g < 0 ∨ 255 < g ∨ c < 0 ∨ 255 < c) :
    Calls Try.prog 102 #[.int .i64 n, .int .i64 k, .int .i64 g, .int .i64 c] w fun e w' => e = .returned (.int .i64 (-1)) ∧ w = w' := by
  by_cases hc0 : n < 0
  · clear h
    go_enter Try.func102, Try.ntmps102
    go_wp2
    go_ret
    exact ⟨rfl, rfl⟩
  by_cases hc1 : 1000003 ≤ n
  · clear h
    go_enter Try.func102, Try.ntmps102
    go_wp2
    go_ret
    exact ⟨rfl, rfl⟩
  by_cases hc2 : k < 1
  · clear h
    go_enter Try.func102, Try.ntmps102
    go_wp2
    go_ret
    exact ⟨rfl, rfl⟩
  by_cases hc3 : g < 0
  · clear h
    go_enter Try.func102, Try.ntmps102
    go_wp2
    go_ret
    exact ⟨rfl, rfl⟩
  by_cases hc4 : 255 < g
  · clear h
    go_enter Try.func102, Try.ntmps102
    go_wp2
    go_ret
    exact ⟨rfl, rfl⟩
  by_cases hc5 : c < 0
  · clear h
    go_enter Try.func102, Try.ntmps102
    go_wp2
    go_ret
    exact ⟨rfl, rfl⟩
  by_cases hc6 : 255 < c
  · clear h
    go_enter Try.func102, Try.ntmps102
    go_wp2
    go_ret
    exact ⟨rfl, rfl⟩
  omega

set_option maxHeartbeats 1000000 in
theorem specRollPrint_int (n k g c p r v z : Int) (w : World) (hn : 0 ≤ n) (hn9 : n < 1000003) (hk : 1 ≤ k) (hk9 : k ≤ 9223372036854775807) (hg : 0 ≤ g) (hg9 : g ≤ 255) (hc : 0 ≤ c) (hc9 : c ≤ 255) (hp : pwZ (k - 1) = p)
    (t1 : ((g + 1) * p).tmod 1000003 = r) (hr : 0 ≤ r) (hr9 : r < 1000003) (t2 : (n + 256000768 - r).tmod 1000003 = v) (hv : 0 ≤ v) (hv9 : v < 1000003) (t3 : (v * 257 + c + 1).tmod 1000003 = z) :
    Calls Try.prog 102 #[.int .i64 n, .int .i64 k, .int .i64 g, .int .i64 c] w fun e w' => e = .returned (.int .i64 z) ∧ w = w' := by
  have hp2 := pwZ_lt (k - 1)
  have c1 := fun w => specPrintPower_any (k - 1) w (by omega) (by omega)
  rw [hp] at c1 hp2
  obtain ⟨hp0, hp9⟩ := hp2
  have w1 : IntKind.i64.wrap ((g + 1) * p) = (g + 1) * p := IntWalk.i64_in _ (by
    have h1 : 0 ≤ (g + 1) * p := Int.mul_nonneg (by omega) (by omega)
    have h2 : (g + 1) * p ≤ 256 * 1000002 := Int.mul_le_mul (by omega) (by omega) (by omega) (by omega)
    omega)
  clear hp
  go_enter Try.func102, Try.ntmps102
  go_wp2_with fail
  refine (c1 _).mono ?_
  rintro e w2 ⟨rfl, rfl⟩
  go_wp2
  go_ret
  exact ⟨rfl, rfl⟩

theorem specRollPrint_ok (n k g c z : Nat) (w : World) (hn : n < 1000003) (hk : 1 ≤ k) (hk9 : (k : Int) ≤ 9223372036854775807) (hg : g ≤ 255) (hc : c ≤ 255) (hz : rollN n k g c = z) :
    Calls Try.prog 102 #[.int .i64 n, .int .i64 k, .int .i64 g, .int .i64 c] w fun e w' => e = .returned (.int .i64 z) ∧ w = w' := by
  have hp : pwZ ((k : Int) - 1) = (pwN (k - 1) : Nat) := by
    unfold pwZ; rw [if_neg (by omega)]; congr 2; omega
  unfold rollN at hz
  have hr9 : (g + 1) * pwN (k - 1) % 1000003 < 1000003 := Nat.mod_lt _ (by decide)
  obtain ⟨r, hr⟩ : ∃ r, (g + 1) * pwN (k - 1) % 1000003 = r := ⟨_, rfl⟩
  have t1 : (((g : Int) + 1) * ((pwN (k - 1) : Nat) : Int)).tmod 1000003 = ((r : Nat) : Int) := by rw [← hr]; exact tmod_nat _ _ (by simp)
  rw [hr] at hz hr9
  have hv9 : (n + 1000003 * 256 - r) % 1000003 < 1000003 := Nat.mod_lt _ (by decide)
  obtain ⟨v, hv⟩ : ∃ v, (n + 1000003 * 256 - r) % 1000003 = v := ⟨_, rfl⟩
  have t2 : ((n : Int) + 256000768 - (r : Int)).tmod 1000003 = (v : Int) := by rw [← hv]; exact tmod_nat _ _ (by omega)
  rw [hv] at hz hv9
  have t3 : ((v : Int) * 257 + (c : Int) + 1).tmod 1000003 = (z : Int) := by rw [← hz]; exact tmod_nat _ _ (by omega)
  exact specRollPrint_int n k g c _ r v z w (by omega) (by omega) (by omega) hk9 (by omega) (by omega) (by omega) (by omega) hp t1 (by omega) (by omega) t2 (by omega) (by omega) t3




end Go.Proofs.Ytbnagmjhdnnheaa

namespace Go.Proofs.Ytbnagmjhdnnheaa
open Go.RowKit

theorem implPrintStep_int (n c z : Int) (w : World) (hn : 0 ≤ n) (hn9 : n < 4000000) (hc : 0 ≤ c) (hc9 : c ≤ 255) (hz : (n * 257 + c + 1).tmod 1000003 = z) :
    Calls Try.prog 115 #[.int .i64 n, .int .i64 c] w fun e w' => e = .returned (.int .i64 z) ∧ w = w' := by
  go_enter Try.func115, Try.ntmps115
  go_wp2
  go_ret
  exact ⟨rfl, rfl⟩

set_option maxHeartbeats 1000000 in
theorem implPrintOf_any (s : ByteArray) (w : World) (hs : s.size ≤ 4194305) :
    Calls Try.prog 108 #[.string s] w fun e w' => e = .returned (.int .i64 (prN s.data.toList)) ∧ w = w' := by
  go_enter Try.func108, Try.ntmps108
  go_wp2
  go_loop [3, 4] (fun n i => ∃ k x : Nat, k ≤ s.size ∧ i = .int .i64 k ∧ n = .int .i64 x ∧ x < 1000003 ∧ Hid (x = prN (s.data.toList.take k))) (fun _ i => s.size - (intOf i).toNat)
  case atStart => exact ⟨0, 0, Nat.zero_le _, rfl, rfl, by omega, Lib.hid rfl⟩
  case round =>
    obtain ⟨k, x, hk, rfl, rfl, hx, HX⟩ := hrel
    by_cases hlt : k < s.size
    · have hb : (s[k].toNat : Int) ≤ 255 := by have := s[k].toNat_lt; omega
      have hy := prF_take s k hlt
      rw [← HX.out] at hy
      have hy9 := prStep_lt x s[k]
      have et : ((x : Int) * 257 + (s[k].toNat : Int) + 1).tmod 1000003 = (prStep x s[k] : Int) := tmod_nat _ (x * 257 + s[k].toNat + 1) (by omega)
      obtain ⟨y, hyy⟩ : ∃ y, prStep x s[k] = y := ⟨_, rfl⟩
      rw [hyy] at hy hy9 et
      have HY := Lib.hid hy
      have ET := Lib.hid et
      clear hy hyy HX et
      go_wp2_with fail
      refine (implPrintStep_int _ _ (y : Int) _ (by omega) (by omega) (by omega) hb ET.out).mono ?_
      rintro e w2 ⟨rfl, rfl⟩
      go_wp2
      go_round
      case rel => exact ⟨k + 1, y, by omega, by go_num, by go_num, hy9, Lib.hid HY.out.symm⟩
      case measure => simp [intOf]; omega
    · have hkk : k = s.size := by omega
      have hE : s.data.toList.take k = s.data.toList := by rw [hkk]; exact List.take_of_length_le (Nat.le_refl _)
      have h1 := HX.out
      rw [hE] at h1
      clear hE
      go_wp2
      go_ret
      exact ⟨rfl, rfl⟩

theorem implPrintOf_is (s : ByteArray) (x : Nat) (w : World) (hs : s.size ≤ 4194305) (hx : prN s.data.toList = x) :
    Calls Try.prog 108 #[.string s] w fun e w' => e = .returned (.int .i64 x) ∧ w = w' := by
  subst hx; exact implPrintOf_any s w hs

set_option maxHeartbeats 1000000 in
theorem implPrintPower_any (n : Int) (w : World) (h1 : -9223372036854775808 ≤ n) (h2 : n ≤ 9223372036854775807) :
    Calls Try.prog 107 #[.int .i64 n] w fun e w' => e = .returned (.int .i64 (pwZ n)) ∧ w = w' := by
  by_cases hn : n < 0
  · have e : pwZ n = 0 := by unfold pwZ; rw [if_pos hn]
    rw [e]
    clear e
    go_enter Try.func107, Try.ntmps107
    go_wp2
    go_ret
    exact ⟨rfl, rfl⟩
  · obtain ⟨m, rfl⟩ : ∃ m : Nat, n = m := ⟨n.toNat, by omega⟩
    have e : pwZ (m : Int) = (pwN m : Nat) := by unfold pwZ; rw [if_neg hn, Int.toNat_natCast]
    obtain ⟨z, hz⟩ : ∃ z, pwZ (m : Int) = z := ⟨_, rfl⟩
    rw [hz] at e ⊢
    have HE := Lib.hid e
    have hs : Eqm (1 * 257 ^ m) (257 ^ m) := by rw [Nat.one_mul]; exact Eqm.refl _
    have HS := Lib.hid hs
    clear e hz hs
    go_enter Try.func107, Try.ntmps107
    go_wp2
    go_loop [3, 4, 5] (fun out base left => ∃ k o b : Nat, k ≤ m ∧ left = .int .i64 k ∧ out = .int .i64 o ∧ base = .int .i64 b ∧ o < 1000003 ∧ b < 1000003 ∧ Hid (Eqm (o * b ^ k) (257 ^ m))) (fun _ _ left => (intOf left).toNat)
    case atStart => exact ⟨m, 1, 257, Nat.le_refl _, rfl, rfl, rfl, by omega, by omega, HS⟩
    case round =>
      obtain ⟨k, o, b, hk, rfl, rfl, rfl, ho, hb, HR⟩ := hrel
      by_cases h0 : 0 < k
      · have hbb : b * b ≤ 1000002 * 1000002 := Nat.mul_le_mul (by omega) (by omega)
        have hob : o * b ≤ 1000002 * 1000002 := Nat.mul_le_mul (by omega) (by omega)
        have et1 : ((b : Int) * (b : Int)).tmod 1000003 = ((b * b % 1000003 : Nat) : Int) := tmod_nat _ (b * b) (by simp)
        have et2 : ((o : Int) * (b : Int)).tmod 1000003 = ((o * b % 1000003 : Nat) : Int) := tmod_nat _ (o * b) (by simp)
        have ht : (k : Int).tdiv 2 = ((k / 2 : Nat) : Int) := (Int.ofNat_tdiv k 2).symm
        have hm : (k : Int).tmod 2 = ((k % 2 : Nat) : Int) := (Int.ofNat_tmod k 2).symm
        have w1 : IntKind.i64.wrap ((b : Int) * (b : Int)) = (b : Int) * (b : Int) := IntWalk.i64_in _ (by
          have : ((b * b : Nat) : Int) ≤ 1000002 * 1000002 := by omega
          rw [Int.natCast_mul] at this
          have h3 : 0 ≤ (b : Int) * (b : Int) := Int.mul_nonneg (by omega) (by omega)
          omega)
        have w2 : IntKind.i64.wrap ((o : Int) * (b : Int)) = (o : Int) * (b : Int) := IntWalk.i64_in _ (by
          have : ((o * b : Nat) : Int) ≤ 1000002 * 1000002 := by omega
          rw [Int.natCast_mul] at this
          have h3 : 0 ≤ (o : Int) * (b : Int) := Int.mul_nonneg (by omega) (by omega)
          omega)
        have l1 : b * b % 1000003 < 1000003 := Nat.mod_lt _ (by decide)
        have l2 : o * b % 1000003 < 1000003 := Nat.mod_lt _ (by decide)
        have se := sq_even o b k
        have so := sq_odd o b k
        obtain ⟨q, hq⟩ : ∃ q, b * b % 1000003 = q := ⟨_, rfl⟩
        obtain ⟨p, hp⟩ : ∃ p, o * b % 1000003 = p := ⟨_, rfl⟩
        rw [hq] at et1 l1 se so
        rw [hp] at et2 l2 so
        obtain ⟨d, hd⟩ : ∃ d, k / 2 = d := ⟨_, rfl⟩
        rw [hd] at ht se so
        have hdk : d < k := by omega
        by_cases hodd : k % 2 = 1
        · rw [hodd] at hm
          have HN := Lib.hid ((so hodd).trans HR.out)
          clear se so hq hp hd hbb hob
          go_wp2
          go_round
          case rel => exact ⟨d, p, q, by omega, by go_num, by go_num, by go_num, l2, l1, HN⟩
          case measure => simp [intOf]; omega
        · have hev : k % 2 = 0 := by omega
          rw [hev] at hm
          have HN := Lib.hid ((se hev).trans HR.out)
          clear se so hq hp hd hbb hob
          go_wp2
          go_round
          case rel => exact ⟨d, o, q, by omega, by go_num, by go_num, by go_num, ho, l1, HN⟩
          case measure => simp [intOf]; omega
      · obtain rfl : k = 0 := by omega
        have h3 := HR.out
        rw [Nat.pow_zero, Nat.mul_one] at h3
        have h4 : o = pwN m := Eqm.eq (h3.trans (pwN_eqm m).symm) ho (pwN_lt m)
        have h5 := HE.out
        clear h3
        go_wp2
        go_ret
        exact ⟨ret_i64 (by omega), rfl⟩

set_option maxHeartbeats 1000000 in
theorem implRolled_int (n p g c r z : Int) (w : World) (hn : 0 ≤ n) (hn9 : n < 1000003) (hp0 : 0 ≤ p) (hp9 : p < 1000003) (hg : 0 ≤ g) (hg9 : g ≤ 255) (hc : 0 ≤ c) (hc9 : c ≤ 255)
    (t1 : ((g + 1) * p).tmod 1000003 = r) (hr : 0 ≤ r) (hr9 : r < 1000003) (t3 : ((n + 1000003 - r) * 257 + c + 1).tmod 1000003 = z) :
    Calls Try.prog 109 #[.int .i64 n, .int .i64 p, .int .i64 g, .int .i64 c] w fun e w' => e = .returned (.int .i64 z) ∧ w = w' := by
  have w1 : IntKind.i64.wrap ((g + 1) * p) = (g + 1) * p := IntWalk.i64_in _ (by
    have h1 : 0 ≤ (g + 1) * p := Int.mul_nonneg (by omega) (by omega)
    have h2 : (g + 1) * p ≤ 256 * 1000002 := Int.mul_le_mul (by omega) (by omega) (by omega) (by omega)
    omega)
  have T3 := Lib.hid t3
  clear t3
  go_enter Try.func109, Try.ntmps109
  go_wp2_with fail
  refine (implPrintStep_int _ _ z _ (by omega) (by omega) hc hc9 T3.out).mono ?_
  rintro e w2 ⟨rfl, rfl⟩
  go_wp2
  go_ret
  exact ⟨rfl, rfl⟩

theorem roll_same (n r q c z : Nat) (hr : r < 1000003) (hq : q + r = n + 1000003) (hz : ((n + 1000003 * 256 - r) % 1000003 * 257 + c + 1) % 1000003 = z) : (q * 257 + c + 1) % 1000003 = z := by
  have hx : n + 1000003 * 256 - r = q + 1000003 * 255 := by omega
  have e1 : Eqm (n + 1000003 * 256 - r) q := hx ▸ Eqm.whole q 255
  have e2 : Eqm (q * 257 + c + 1) ((n + 1000003 * 256 - r) % 1000003 * 257 + c + 1) := ((((Eqm.rest _).trans e1).symm.mul (Eqm.refl 257)).add (Eqm.refl c)).add (Eqm.refl 1)
  exact Eq.trans e2 hz

/-- With the power of one byte less than the piece has. -/
theorem implRolled_ok (n k g c z : Nat) (p : Int) (w : World) (hp : p = (pwN (k - 1) : Nat)) (hn : n < 1000003) (hg : g ≤ 255) (hc : c ≤ 255) (hz : rollN n k g c = z) :
    Calls Try.prog 109 #[.int .i64 n, .int .i64 p, .int .i64 g, .int .i64 c] w fun e w' => e = .returned (.int .i64 z) ∧ w = w' := by
  subst hp
  have hp9 := pwN_lt (k - 1)
  unfold rollN at hz
  have hr9 : (g + 1) * pwN (k - 1) % 1000003 < 1000003 := Nat.mod_lt _ (by decide)
  obtain ⟨r, hr⟩ : ∃ r, (g + 1) * pwN (k - 1) % 1000003 = r := ⟨_, rfl⟩
  have t1 : (((g : Int) + 1) * ((pwN (k - 1) : Nat) : Int)).tmod 1000003 = ((r : Nat) : Int) := by rw [← hr]; exact tmod_nat _ _ (by simp)
  rw [hr] at hz hr9
  obtain ⟨q, hq⟩ : ∃ q, q + r = n + 1000003 := ⟨n + 1000003 - r, by omega⟩
  have e2 : (q * 257 + c + 1) % 1000003 = z := roll_same n r q c z hr9 hq hz
  clear hz hr
  have e3 : (n : Int) + 1000003 - (r : Int) = (q : Int) := by omega
  have t3 : (((n : Int) + 1000003 - (r : Int)) * 257 + (c : Int) + 1).tmod 1000003 = (z : Int) := by rw [e3, tmod_nat _ (q * 257 + c + 1) (by omega), e2]
  exact implRolled_int n _ g c r z w (by omega) (by omega) (by omega) (by omega) (by omega) (by omega) (by omega) (by omega) t1 (by omega) (by omega) t3

theorem implIsPrint_is (b : Bool) (n : Int) (w : World) (h : decide (0 ≤ n ∧ n < 1000003) = b) :
    Calls Try.prog 100 #[.int .i64 n] w fun e w' => e = .returned (.bool b) ∧ w = w' := by
  by_cases h0 : 0 ≤ n
  · by_cases h1 : n < 1000003
    · obtain rfl : true = b := by rw [← h]; simp [h0, h1]
      clear h
      go_enter Try.func100, Try.ntmps100
      go_wp2
      go_ret
      exact ⟨rfl, rfl⟩
    · obtain rfl : false = b := by rw [← h]; simp [h0, h1]
      clear h
      go_enter Try.func100, Try.ntmps100
      go_wp2
      go_ret
      exact ⟨rfl, rfl⟩
  · obtain rfl : false = b := by rw [← h]; simp [h0]
    clear h
    go_enter Try.func100, Try.ntmps100
    go_wp2
    go_ret
    exact ⟨rfl, rfl⟩


end Go.Proofs.Ytbnagmjhdnnheaa

namespace Go.Proofs.Ytbnagmjhdnnheaa
open Go.RowKit

theorem heap_le_alloc (w : World) (o : Obj) : w.heap.size ≤ (w.alloc o).heap.size := by simp
theorem heap_le_alloc2 (w : World) (o o' : Obj) : w.heap.size ≤ ((w.alloc o).alloc o').heap.size := by simp; omega
theorem below_alloc2 (w : World) (o o' : Obj) : Below w.heap.size w ((w.alloc o).alloc o') := ((Below.refl _ _).alloc (Nat.le_refl _) o).alloc (by simp) o'

/-- A second block that is empty. -/
theorem own_second (w : World) (o : Obj) (e : TypeId) (size : Nat) : ((w.alloc o).alloc (.cells #[] e)).ownsRow w.heap.size e size (.slice (some ⟨w.heap.size + 1, 0, none⟩) 0 0) 0 [] := by
  have h := World.ownsRow_lit (base := w.heap.size) (e := e) (size := size) (w.alloc o) #[] 0 (heap_le_alloc _ _) (Nat.zero_le _) (by simp)
  have e1 : (w.alloc o).heap.size = w.heap.size + 1 := by simp
  rw [e1] at h
  exact h

theorem grownBy_trans {a b c : World} {row : Option Nat} (h : a.grownBy b row) (k : b.grownBy c row) : a.grownBy c row :=
  ⟨k.os.trans h.os, k.tape.trans h.tape, k.output.trans h.output, Nat.le_trans h.size k.size, fun i hi hr => (k.block i (Nat.lt_of_lt_of_le hi h.size) hr).trans (h.block i hi hr)⟩

/-- What is owned is a slice, and as long as it says. -/
theorem ownsRow_shape {w : World} {base : Nat} {e : TypeId} {size : Nat} {v : Value} {n : Nat} {xs : List Value} (h : w.ownsRow base e size v n xs) : ∃ a c, v = .slice a n c := by
  rcases h.2 with ⟨rfl, rfl⟩ | ⟨g, cap, cur, rfl, _⟩
  · exact ⟨_, _, rfl⟩
  · exact ⟨_, _, rfl⟩

/-- Rows of different types are different rows. -/
theorem ownsRow_apart {w : World} {b1 b2 : Nat} {e1 e2 : TypeId} {s1 s2 : Nat} {v1 v2 : Value} {n1 n2 : Nat} {xs1 xs2 : List Value} (h1 : w.ownsRow b1 e1 s1 v1 n1 xs1) (h2 : w.ownsRow b2 e2 s2 v2 n2 xs2) (he : e1 ≠ e2) :
    v1.ownBlock = none ∨ v1.ownBlock ≠ v2.ownBlock := by
  rcases h1.2 with ⟨rfl, rfl⟩ | ⟨g1, cap1, cur1, rfl, _, hg1, _⟩
  · exact Or.inl rfl
  · rcases h2.2 with ⟨rfl, rfl⟩ | ⟨g2, cap2, cur2, rfl, _, hg2, _⟩
    · right; simp [Value.ownBlock]
    · right
      simp only [Value.ownBlock, ne_eq, Option.some.injEq]
      rintro rfl
      rw [hg1] at hg2
      simp at hg2
      exact he hg2.2

theorem ownsRow_kept_apart {w w' : World} {b1 b2 : Nat} {e1 e2 : TypeId} {s1 s2 : Nat} {v1 v2 : Value} {n1 n2 : Nat} {xs1 xs2 : List Value} (h1 : w.ownsRow b1 e1 s1 v1 n1 xs1) (h2 : w.ownsRow b2 e2 s2 v2 n2 xs2) (he : e1 ≠ e2)
    (hg : w.grownBy w' v2.ownBlock) : w'.ownsRow b1 e1 s1 v1 n1 xs1 := h1.kept hg (ownsRow_apart h1 h2 he)

theorem below_grown_own {B base : Nat} {W w w' : World} {e : TypeId} {s : Nat} {v : Value} {n : Nat} {xs : List Value} (h : Below B W w) (hown : w.ownsRow base e s v n xs) (hg : w.grownBy w' v.ownBlock) (hB : B ≤ base) (hs : B ≤ w.heap.size) : Below B W w' :=
  h.grown hg hs (fun k hk => Nat.le_trans hB (hown.lt k hk).1)

/-- What is owned stays owned while nothing that is there is changed. -/
theorem ownsRow_below {w w' : World} {base : Nat} {e : TypeId} {size : Nat} {v : Value} {n : Nat} {xs : List Value} (h : w.ownsRow base e size v n xs) (hb : Below w.heap.size w w') : w'.ownsRow base e size v n xs := by
  refine ⟨h.1, ?_⟩
  rcases h.2 with hn | ⟨g, cap, cur, rfl, hbg, hgg, rest⟩
  · exact .inl hn
  · refine .inr ⟨g, cap, cur, rfl, hbg, ?_, rest⟩
    rw [hb.block g (Array.getElem?_eq_some_iff.1 hgg).1]
    exact hgg

/-- An older row stays while a newer one is written. -/
theorem ownsRow_older {w0 w w' : World} {b1 b2 : Nat} {e1 e2 : TypeId} {s1 s2 : Nat} {v1 v2 : Value} {n1 n2 : Nat} {xs1 xs2 : List Value} (h0 : w0.ownsRow b1 e1 s1 v1 n1 xs1) (h1 : w.ownsRow b1 e1 s1 v1 n1 xs1) (h2 : w.ownsRow b2 e2 s2 v2 n2 xs2)
    (hlt : w0.heap.size ≤ b2) (hg : w.grownBy w' v2.ownBlock) : w'.ownsRow b1 e1 s1 v1 n1 xs1 := by
  refine h1.kept hg ?_
  cases hv : v1.ownBlock with
  | none => exact Or.inl rfl
  | some k =>
    right
    intro e
    have a1 := (h0.lt k hv).2
    have a2 := (h2.lt k e.symm).1
    omega

theorem below_drewN' {B : Nat} {a w : World} (h : Below B a w) (q : Nat) : Below B a (w.drewN q) := ⟨h.os, h.tape, h.output, h.size, h.block⟩

/-- One element that was just laid is appended. -/
theorem wpList_append_one {P : Program} {w0 : World} {ops : Array Oper} {rest : List Oper} {o : Oper} {act : Act} {Q : Exit → Act → World → Prop} (hgd : o.guard = none) (s x : Operand) (t : TypeId)
    (ho : o.op = .call { callee := .builtin .append, args := #[s, x], argTypes := #[t, t] })
    (base : Nat) (e : TypeId) (i : TypeInfo) (z : Value) (size bytes : Nat) (ht : P.underlying t = some (.slice e)) (hi : P.info? e = some i) (hz : i.zero = some z)
    (hsize : i.size = size) (hby : i.bytes = bytes) (hzs : z.cells.size = size) (hsz : 0 < size)
    (ad : Option Addr) (n cap : Nat) (xs : List Value) (hs : act.eval s = .slice ad n cap) (hown : w0.ownsRow base e size (.slice ad n cap) n xs)
    (us : Array Value) (hx : act.eval x = .slice (some ⟨w0.heap.size, 0, none⟩) 1 1) (hl : us.size = size) (h1 : ∀ u ∈ us.toList, u.oneCell' = true)
    (h63 : n + 1 ≤ maxLen) (hbytes : (n + 1) * bytes ≤ 140737488355328) (hbase : base ≤ w0.heap.size)
    (h : ∀ ad' cap' w', w'.ownsRow base e size (.slice ad' (n + 1) cap') (n + 1) (xs ++ us.toList) → w0.grownBy w' (Value.ownBlock (.slice ad n cap)) → wpList P ops Q rest (act.put o.dst (.slice ad' (n + 1) cap')) w') :
    wpList P ops Q (o :: rest) act (w0.alloc (.cells us e)) := by
  refine wpList_append_own (w0.alloc (.cells us e)) hgd s x t ho base e i z size bytes ht hi hz hsize hby hzs hsz _ n xs hs (hown.alloc _) ⟨w0.heap.size, 0, none⟩ 1 1 us.toList hx (by simp [hl]) ?_ h1 h63 hbytes (by simp; omega) ?_
  · intro j u hj
    rw [Addr.add_lit, cell_of_row _ w0.heap.size (0 + j) us e (0, 0) (heap_alloc_new w0 _)]
    simpa using hj
  · intro v' w' hown' hg' _
    obtain ⟨a', c', rfl⟩ := ownsRow_shape hown'
    exact h a' c' w' hown' (grownBy_trans (World.grownBy_alloc w0 _ _) hg')

/-- Two rows of different types that the call itself made, and nothing that was there is changed. -/
structure Two (W : World) (B : Nat) (w : World) (e1 : TypeId) (s1 : Nat) (a1 : Option Addr) (n1 c1 : Nat) (xs1 : List Value) (e2 : TypeId) (s2 : Nat) (a2 : Option Addr) (n2 c2 : Nat) (xs2 : List Value) : Prop where
  one : w.ownsRow B e1 s1 (.slice a1 n1 c1) n1 xs1
  two : w.ownsRow B e2 s2 (.slice a2 n2 c2) n2 xs2
  ne : e1 ≠ e2
  base : B ≤ w.heap.size
  below : Below B W w

theorem Two.swap {W : World} {B : Nat} {w : World} {e1 : TypeId} {s1 : Nat} {a1 : Option Addr} {n1 c1 : Nat} {xs1 : List Value} {e2 : TypeId} {s2 : Nat} {a2 : Option Addr} {n2 c2 : Nat} {xs2 : List Value}
    (h : Two W B w e1 s1 a1 n1 c1 xs1 e2 s2 a2 n2 c2 xs2) : Two W B w e2 s2 a2 n2 c2 xs2 e1 s1 a1 n1 c1 xs1 := ⟨h.two, h.one, h.ne.symm, h.base, h.below⟩

/-- One element more in the first of two rows. -/
theorem wpList_append_fst {P : Program} {W w0 : World} {ops : Array Oper} {rest : List Oper} {o : Oper} {act : Act} {Q : Exit → Act → World → Prop} {B : Nat} {e1 : TypeId} {s1 : Nat} {a1 : Option Addr} {n1 c1 : Nat} {xs1 : List Value} {e2 : TypeId} {s2 : Nat} {a2 : Option Addr} {n2 c2 : Nat} {xs2 : List Value}
    (hgd : o.guard = none) (s x : Operand) (t : TypeId)
    (ho : o.op = .call { callee := .builtin .append, args := #[s, x], argTypes := #[t, t] })
    {z : Value} {bytes : Nat} (ht : P.underlying t = some (.slice e1)) (hinfo : (P.info? e1).map (fun i => (i.zero, i.size, i.bytes)) = some (some z, s1, bytes)) (hzs : z.cells.size = s1) (hsz : 0 < s1)
    (h2 : Two W B w0 e1 s1 a1 n1 c1 xs1 e2 s2 a2 n2 c2 xs2) (hs : act.eval s = .slice a1 n1 c1)
    (us : Array Value) (hx : act.eval x = .slice (some ⟨w0.heap.size, 0, none⟩) 1 1) (hl : us.size = s1) (h1 : ∀ u ∈ us.toList, u.oneCell' = true)
    (h63 : n1 + 1 ≤ maxLen) (hbytes : (n1 + 1) * bytes ≤ 140737488355328)
    (h : ∀ ad' cap' w', Two W B w' e1 s1 ad' (n1 + 1) cap' (xs1 ++ us.toList) e2 s2 a2 n2 c2 xs2 → wpList P ops Q rest (act.put o.dst (.slice ad' (n1 + 1) cap')) w') :
    wpList P ops Q (o :: rest) act (w0.alloc (.cells us e1)) := by
  obtain ⟨i, hi, hz, hsi, hby⟩ := info_parts hinfo
  refine wpList_append_one hgd s x t ho B e1 i z s1 bytes ht hi hz hsi hby hzs hsz a1 n1 c1 xs1 hs h2.one us hx hl h1 h63 hbytes h2.base ?_
  intro ad' cap' w' hown' hg'
  exact h ad' cap' w' ⟨hown', ownsRow_kept_apart h2.two h2.one h2.ne.symm hg', h2.ne, Nat.le_trans h2.base hg'.size, below_grown_own h2.below h2.one hg' (Nat.le_refl _) h2.base⟩

/-- One element more in the second of two rows. -/
theorem wpList_append_snd {P : Program} {W w0 : World} {ops : Array Oper} {rest : List Oper} {o : Oper} {act : Act} {Q : Exit → Act → World → Prop} {B : Nat} {e1 : TypeId} {s1 : Nat} {a1 : Option Addr} {n1 c1 : Nat} {xs1 : List Value} {e2 : TypeId} {s2 : Nat} {a2 : Option Addr} {n2 c2 : Nat} {xs2 : List Value}
    (hgd : o.guard = none) (s x : Operand) (t : TypeId)
    (ho : o.op = .call { callee := .builtin .append, args := #[s, x], argTypes := #[t, t] })
    {z : Value} {bytes : Nat} (ht : P.underlying t = some (.slice e2)) (hinfo : (P.info? e2).map (fun i => (i.zero, i.size, i.bytes)) = some (some z, s2, bytes)) (hzs : z.cells.size = s2) (hsz : 0 < s2)
    (h2 : Two W B w0 e1 s1 a1 n1 c1 xs1 e2 s2 a2 n2 c2 xs2) (hs : act.eval s = .slice a2 n2 c2)
    (us : Array Value) (hx : act.eval x = .slice (some ⟨w0.heap.size, 0, none⟩) 1 1) (hl : us.size = s2) (h1 : ∀ u ∈ us.toList, u.oneCell' = true)
    (h63 : n2 + 1 ≤ maxLen) (hbytes : (n2 + 1) * bytes ≤ 140737488355328)
    (h : ∀ ad' cap' w', Two W B w' e1 s1 a1 n1 c1 xs1 e2 s2 ad' (n2 + 1) cap' (xs2 ++ us.toList) → wpList P ops Q rest (act.put o.dst (.slice ad' (n2 + 1) cap')) w') :
    wpList P ops Q (o :: rest) act (w0.alloc (.cells us e2)) :=
  wpList_append_fst hgd s x t ho ht hinfo hzs hsz h2.swap hs us hx hl h1 h63 hbytes (fun ad' cap' w' h' => h ad' cap' w' h'.swap)

/-- The bytes of a row as the model holds them. -/
def byteCells (l : List UInt8) : List Value := l.map fun b => .int .u8 b.toNat

theorem byteCells_append (l m : List UInt8) : byteCells (l ++ m) = byteCells l ++ byteCells m := by simp [byteCells]

theorem foldl_bytes (l : List UInt8) (s : ByteArray) : (l.map fun b => (b.toNat : Int)).foldl (fun r n => r.push (UInt8.ofNat n.toNat)) s = ⟨s.data ++ l.toArray⟩ := by
  induction l generalizing s with
  | nil => simp
  | cons b l ih =>
    simp only [List.map_cons, List.foldl_cons, ih, Int.toNat_natCast, UInt8.ofNat_toNat]
    apply ByteArray.ext
    simp [ByteArray.push]

/-- A row of bytes that is owned, turned into a string: its bytes. -/
theorem run_string_owned {P : Program} {w : World} {base : Nat} {a : Option Addr} {n cap : Nat} {l : List UInt8} (src dst e : TypeId)
    (hs : P.underlying src = some (.slice e)) (he : P.underlying e = some (.int .u8)) (hd : P.underlying dst = some .string)
    (hown : w.ownsRow base e 1 (.slice a n cap) n (byteCells l)) :
    (convert src dst (.slice a n cap)).run P w = .ok (.string ⟨l.toArray⟩) w := by
  rw [run_convert_bytes_string w src dst e a n cap hs he hd]
  rcases hown.2 with ⟨hv, hn⟩ | ⟨g, cap', cur, hv, _, hg, _, _, _, htake⟩
  · obtain ⟨rfl, rfl, rfl⟩ := (by simpa using hv : a = none ∧ n = 0 ∧ cap = 0)
    have hl : l = [] := by
      have := hown.1
      simpa [byteCells] using this
    subst hl
    simp [Conv.bytesToString, Sem.run_pure]
    rfl
  · obtain ⟨rfl, rfl⟩ := (by simpa using hv : a = some ⟨g, 0, none⟩ ∧ cap = cap')
    have hlen : l.length = n := by
      have := hown.1
      simpa [byteCells] using this
    have hload : (loadCells ⟨g, 0, none⟩ n).run P w = .ok ((l.map fun b => (b.toNat : Int)).map (Value.int .u8)).toArray w := by
      have h := run_loadCells_list (P := P) w ⟨g, 0, none⟩ (byteCells l) (fun j v hj => hown.cells (g := g) rfl j v hj)
      simpa [byteCells, hlen, List.map_map, Function.comp_def] using h
    rw [run_bytesToString w ⟨g, 0, none⟩ n cap (l.map fun b => (b.toNat : Int)) hload, foldl_bytes]
    simp [ByteArray.empty, ByteArray.emptyWithCapacity]
    rfl

/-- Numbers as the model holds them in a row. -/
def intCells (l : List Int) : List Value := l.map (Value.int .i64)
theorem intCells_append (l m : List Int) : intCells (l ++ m) = intCells l ++ intCells m := by simp [intCells]

/-- A slice whose elements read as these numbers. -/
structure IntsAt (w : World) (a : Option Addr) (xs : List Int) : Prop where
  spot : xs ≠ [] → ∃ b o, a = some ⟨b, o, none⟩ ∧ ∀ j, j < xs.length → w.cell? ⟨b, o + j, none⟩ = some (.int .i64 (xs.getD j 0))

theorem intsAt_own {w : World} {base : Nat} {e : TypeId} {a : Option Addr} {n cap : Nat} {xs : List Int} (h : w.ownsRow base e 1 (.slice a n cap) n (intCells xs)) : n = xs.length ∧ IntsAt w a xs := by
  have hn : n = xs.length := by
    have := h.1
    simpa [intCells] using this.symm
  refine ⟨hn, ⟨fun hne => ?_⟩⟩
  rcases h.2 with ⟨hv, h0⟩ | ⟨g, cap', cur, hv, _⟩
  · exact absurd (List.length_eq_zero_iff.1 (by omega)) hne
  · obtain ⟨rfl, rfl⟩ := (by simpa using hv : a = some ⟨g, 0, none⟩ ∧ cap = cap')
    refine ⟨g, 0, rfl, fun j hj => ?_⟩
    rw [Nat.zero_add, h.cellAt j (by omega)]
    simp [intCells, List.getD, List.getElem?_eq_getElem hj]

theorem IntsAt.same {w w' : World} {a : Option Addr} {xs : List Int} (h : IntsAt w a xs) (hs : ∀ p : Addr, w'.cell? p = w.cell? p) : IntsAt w' a xs :=
  ⟨fun hne => by obtain ⟨b, o, ha, hc⟩ := h.spot hne; exact ⟨b, o, ha, fun j hj => (hs _).trans (hc j hj)⟩⟩

end Go.Proofs.Ytbnagmjhdnnheaa

namespace Go.Proofs.Ytbnagmjhdnnheaa
open Go.RowKit

/-- A row that the call itself made, and nothing that was there is changed. -/
structure One (W : World) (B : Nat) (w : World) (e : TypeId) (s : Nat) (a : Option Addr) (n c : Nat) (xs : List Value) : Prop where
  own : w.ownsRow B e s (.slice a n c) n xs
  base : B ≤ w.heap.size
  below : Below B W w

theorem One.later {W : World} {B : Nat} {w w' : World} {e : TypeId} {s : Nat} {a : Option Addr} {n c : Nat} {xs : List Value} (h : One W B w e s a n c xs) (hb : Below w.heap.size w w') : One W B w' e s a n c xs :=
  ⟨ownsRow_below h.own hb, Nat.le_trans h.base hb.size, h.below.trans (hb.mono h.base)⟩

theorem One.nil (w : World) (e : TypeId) (s : Nat) : One w w.heap.size w e s none 0 0 [] := ⟨World.ownsRow_nil _ _ _ _, Nat.le_refl _, Below.refl _ _⟩

theorem One.empty (w : World) (e : TypeId) (s : Nat) : One w w.heap.size (w.alloc (.cells #[] e)) e s (some ⟨w.heap.size, 0, none⟩) 0 0 [] :=
  ⟨World.ownsRow_lit w #[] 0 (Nat.le_refl _) (Nat.zero_le _) (by simp), heap_le_alloc _ _, (Below.refl _ _).alloc (Nat.le_refl _) _⟩

theorem One.len {W : World} {B : Nat} {w : World} {e : TypeId} {s : Nat} {a : Option Addr} {n c : Nat} {xs : List Value} (h : One W B w e s a n c xs) : xs.length = n * s := h.own.1

/-- One element more in a row. -/
theorem wpList_append_row {P : Program} {W w0 : World} {ops : Array Oper} {rest : List Oper} {o : Oper} {act : Act} {Q : Exit → Act → World → Prop} {B : Nat} {e1 : TypeId} {s1 : Nat} {a1 : Option Addr} {n1 c1 : Nat} {xs1 : List Value}
    (hgd : o.guard = none) (s x : Operand) (t : TypeId)
    (ho : o.op = .call { callee := .builtin .append, args := #[s, x], argTypes := #[t, t] })
    {z : Value} {bytes : Nat} (ht : P.underlying t = some (.slice e1)) (hinfo : (P.info? e1).map (fun i => (i.zero, i.size, i.bytes)) = some (some z, s1, bytes)) (hzs : z.cells.size = s1) (hsz : 0 < s1)
    (h2 : One W B w0 e1 s1 a1 n1 c1 xs1) (hs : act.eval s = .slice a1 n1 c1)
    (us : Array Value) (hx : act.eval x = .slice (some ⟨w0.heap.size, 0, none⟩) 1 1) (hl : us.size = s1) (h1 : ∀ u ∈ us.toList, u.oneCell' = true)
    (h63 : n1 + 1 ≤ maxLen) (hbytes : (n1 + 1) * bytes ≤ 140737488355328)
    (h : ∀ ad' cap' w', One W B w' e1 s1 ad' (n1 + 1) cap' (xs1 ++ us.toList) → wpList P ops Q rest (act.put o.dst (.slice ad' (n1 + 1) cap')) w') :
    wpList P ops Q (o :: rest) act (w0.alloc (.cells us e1)) := by
  obtain ⟨i, hi, hz, hsi, hby⟩ := info_parts hinfo
  refine wpList_append_one hgd s x t ho B e1 i z s1 bytes ht hi hz hsi hby hzs hsz a1 n1 c1 xs1 hs h2.own us hx hl h1 h63 hbytes h2.base ?_
  intro ad' cap' w' hown' hg'
  exact h ad' cap' w' ⟨hown', Nat.le_trans h2.base hg'.size, below_grown_own h2.below h2.own hg' (Nat.le_refl _) h2.base⟩

/-- A slice whose cells read as these. -/
structure CellsAt (w : World) (a : Option Addr) (cs : List Value) : Prop where
  spot : cs ≠ [] → ∃ b o, a = some ⟨b, o, none⟩ ∧ b < w.heap.size ∧ ∀ j v, cs[j]? = some v → w.cell? ⟨b, o + j, none⟩ = some v

theorem cellsAt_own {w : World} {base : Nat} {e : TypeId} {size : Nat} {a : Option Addr} {n cap : Nat} {cs : List Value} (h : w.ownsRow base e size (.slice a n cap) n cs) : CellsAt w a cs := by
  refine ⟨fun hne => ?_⟩
  rcases h.2 with ⟨hv, h0⟩ | ⟨g, cap', cur, hv, hb, hg, _⟩
  · exfalso
    apply hne
    apply List.length_eq_zero_iff.1
    rw [h.1, h0]; simp
  · obtain ⟨rfl, rfl⟩ := (by simpa using hv : a = some ⟨g, 0, none⟩ ∧ cap = cap')
    refine ⟨g, 0, rfl, (Array.getElem?_eq_some_iff.1 hg).1, fun j v hj => ?_⟩
    have := h.cells (g := g) rfl j v hj
    rw [Addr.add_lit] at this
    exact this

theorem CellsAt.same {w w' : World} {a : Option Addr} {cs : List Value} (h : CellsAt w a cs) (hz : w.heap.size ≤ w'.heap.size) (hs : ∀ p : Addr, p.block < w.heap.size → w'.cell? p = w.cell? p) : CellsAt w' a cs :=
  ⟨fun hne => by obtain ⟨b, o, ha, hb, hc⟩ := h.spot hne; exact ⟨b, o, ha, Nat.lt_of_lt_of_le hb hz, fun j v hj => (hs _ hb).trans (hc j v hj)⟩⟩

theorem CellsAt.below {w w' : World} {a : Option Addr} {cs : List Value} (h : CellsAt w a cs) (hb : Below w.heap.size w w') : CellsAt w' a cs := h.same hb.size (fun _ hp => hb.cell hp)

theorem CellsAt.drewN {w : World} {a : Option Addr} {cs : List Value} (h : CellsAt w a cs) (q : Nat) : CellsAt (w.drewN q) a cs := ⟨h.spot⟩

theorem CellsAt.grown {w w' : World} {a : Option Addr} {cs : List Value} {row : Option Nat} (h : CellsAt w a cs) (hg : w.grownBy w' row) (hr : ∀ b o, a = some ⟨b, o, none⟩ → some b ≠ row) : CellsAt w' a cs :=
  ⟨fun hne => by
    obtain ⟨b, o, ha, hb, hc⟩ := h.spot hne
    exact ⟨b, o, ha, Nat.lt_of_lt_of_le hb hg.size, fun j v hj => (World.cell?_of_block (hg.block b hb (hr b o ha))).trans (hc j v hj)⟩⟩

theorem cellsAt_nil (w : World) (a : Option Addr) : CellsAt w a [] := ⟨fun h => absurd rfl h⟩

/-- Cells of rows of records, each of as many cells. -/
theorem flat_len {α : Type} (f : α → List Value) (m : Nat) (hf : ∀ x, (f x).length = m) (l : List α) : (l.flatMap f).length = l.length * m := by
  induction l with
  | nil => simp
  | cons x l ih => simp [hf, ih, Nat.add_mul, Nat.add_comm]

theorem flat_get {α : Type} (f : α → List Value) (m : Nat) (hf : ∀ x, (f x).length = m) (l : List α) (k j : Nat) (hk : k < l.length) (hj : j < m) : (l.flatMap f)[k * m + j]? = (f l[k])[j]? := by
  induction l generalizing k with
  | nil => simp at hk
  | cons x l ih =>
    cases k with
    | zero =>
      simp only [List.flatMap_cons, Nat.zero_mul, Nat.zero_add, List.getElem_cons_zero]
      rw [List.getElem?_append_left (by rw [hf]; exact hj)]
    | succ k =>
      simp only [List.flatMap_cons, List.getElem_cons_succ]
      rw [List.getElem?_append_right (by rw [hf, Nat.add_mul]; omega), hf]
      rw [show (k + 1) * m + j - m = k * m + j from by rw [Nat.add_mul]; omega]
      exact ih k (by simpa using hk)

theorem flat_snoc {α : Type} (f : α → List Value) (l : List α) (x : α) : (l ++ [x]).flatMap f = l.flatMap f ++ f x := by simp

theorem below_drewN2 {B : Nat} {a w w' : World} (h : Below B a w) (e : ∃ q, w' = w.drewN q) : Below B a w' := by obtain ⟨q, rfl⟩ := e; exact below_drewN' h q


/-- A string turned into bytes and back: the same string; what was there stays. -/
theorem bytes_of_string {P : Program} (w : World) (src dst e : TypeId) (s : ByteArray) (hs : P.underlying src = some .string) (hd : P.underlying dst = some (.slice e)) (he : P.underlying e = some (.int .u8)) :
    ∃ a cap w1, (convert src dst (.string s)).run P w = .ok (.slice a s.size cap) w1 ∧ Below w.heap.size w w1 ∧ (convert dst src (.slice a s.size cap)).run P w1 = .ok (.string s) w1 := by
  have h1 := run_bytes_of_string (P := P) w src dst e s hs hd he
  refine ⟨_, _, _, h1, ⟨rfl, rfl, rfl, by simp, fun _ hk => heap_alloc_old w.drew _ hk⟩, ?_⟩
  have h2 := run_convert_bytes_back (P := P) (w.drew.alloc (.cells (bytesRow s (grownCap w s.size 0 e)) e ((bytesRow s (grownCap w s.size 0 e)).size, (bytesRow s (grownCap w s.size 0 e)).size + 1)))
    dst src e ⟨w.heap.size, 0, none⟩ (grownCap w s.size 0 e) s.data.toList hd he hs (fun j hj => by
      rw [Addr.add_lit, cell_of_row _ w.heap.size (0 + j) _ e _ (heap_alloc_new w.drew _)]
      have hj' : j < s.data.size := by simpa using hj
      have hj2 : j < s.size := hj'
      simp [bytesRow, Array.getElem?_append, hj2])
  exact h2

/-- Texts as the model holds them in a row. -/
def strsC (l : List ByteArray) : List Value := l.map Value.string
theorem strsC_len (l : List ByteArray) : (strsC l).length = l.length := by simp [strsC]
theorem strsC_get (l : List ByteArray) (k : Nat) (h : k < l.length) : (strsC l)[k]? = some (.string l[k]) := by simp [strsC, h]
theorem strsC_take (l : List ByteArray) (k : Nat) (h : k < l.length) : strsC (l.take (k + 1)) = strsC (l.take k) ++ [.string l[k]] := by
  rw [List.take_succ_eq_append_getElem h, strsC, List.map_append]; rfl

/-- How many bytes texts have together. -/
def totalS (l : List ByteArray) : Nat := (l.map ByteArray.size).sum
theorem totalS_nil : totalS [] = 0 := rfl
theorem totalS_append (l m : List ByteArray) : totalS (l ++ m) = totalS l + totalS m := by simp [totalS]
theorem totalS_take (l : List ByteArray) (k : Nat) (h : k < l.length) : totalS (l.take (k + 1)) = totalS (l.take k) + l[k].size := by
  rw [List.take_succ_eq_append_getElem h, totalS_append]; simp [totalS]
theorem totalS_take_le (l : List ByteArray) (k : Nat) : totalS (l.take k) ≤ totalS l := by
  have h := totalS_append (l.take k) (l.drop k)
  rw [List.take_append_drop] at h; omega
theorem totalS_get (l : List ByteArray) (k : Nat) (h : k < l.length) : l[k].size ≤ totalS l := by
  have h1 := totalS_take l k h
  have h2 := totalS_take_le l (k + 1)
  omega

/-- A cell of a slice of texts. -/
theorem CellsAt.str {w : World} {a : Option Addr} {l : List ByteArray} (h : CellsAt w a (strsC l)) (hne : l ≠ []) : ∃ b o, a = some ⟨b, o, none⟩ ∧ b < w.heap.size ∧ ∀ k (hk : k < l.length), w.cell? ⟨b, o + k, none⟩ = some (.string l[k]) := by
  obtain ⟨b, o, ha, hb, hc⟩ := h.spot (by simpa [strsC] using hne)
  exact ⟨b, o, ha, hb, fun k hk => hc k _ (strsC_get l k hk)⟩


/-- The bytes of a string are appended. -/
theorem wpList_append_text {P : Program} {W w0 : World} {ops : Array Oper} {rest : List Oper} {o : Oper} {act : Act} {Q : Exit → Act → World → Prop} {B : Nat} {e1 : TypeId} {a1 : Option Addr} {n1 c1 : Nat} {l : List UInt8}
    (hgd : o.guard = none) (sl x : Operand) (t u : TypeId)
    (ho : o.op = .call { callee := .builtin .append, args := #[sl, x], argTypes := #[t, u] })
    (ht : P.underlying t = some (.slice e1)) (hu : P.underlying u = some .string) (hinfo : (P.info? e1).map (fun i => (i.zero, i.size, i.bytes)) = some (some (.int .u8 0), 1, 1))
    (h2 : One W B w0 e1 1 a1 n1 c1 (byteCells l)) (hs : act.eval sl = .slice a1 n1 c1) (s : ByteArray) (hx : act.eval x = .string s)
    (h63 : n1 + s.size ≤ maxLen) (hbytes : n1 + s.size ≤ 140737488355328)
    (h : ∀ ad' cap' w', One W B w' e1 1 ad' (n1 + s.size) cap' (byteCells (l ++ s.data.toList)) → wpList P ops Q rest (act.put o.dst (.slice ad' (n1 + s.size) cap')) w') :
    wpList P ops Q (o :: rest) act w0 := by
  obtain ⟨i, hi, hz, hsi, hby⟩ := info_parts hinfo
  refine Lib.wpList_append_own_string _ hgd sl x t u ho B e1 i ht hu hi hz hsi hby _ n1 (byteCells l) hs h2.own s hx h63 hbytes h2.base ?_
  intro v' w' hown' hg' _
  obtain ⟨a', c', rfl⟩ := ownsRow_shape hown'
  refine h a' c' w' ⟨?_, Nat.le_trans h2.base hg'.size, below_grown_own h2.below h2.own hg' (Nat.le_refl _) h2.base⟩
  rw [byteCells_append]
  have e : Lib.strCells s = byteCells s.data.toList := by simp [Lib.strCells, byteCells]
  rw [← e]
  exact hown'


/-- A new row of as many elements as asked for. -/
theorem make_own {P : Program} (t e : TypeId) {z : Value} {size bytes : Nat} (ht : P.underlying t = some (.slice e)) (hinfo : (P.info? e).map (fun i => (i.zero, i.size, i.bytes)) = some (some z, size, bytes))
    (n : Nat) (hb : bytes * n ≤ 281474976710656) (h63 : n ≤ maxLen) (w : World) :
    ∃ zs w', (Instr.makeSlice t (.int .i64 (n : Int)) (.int .i64 (n : Int))).run P w = .ok (.slice (some ⟨w.heap.size, 0, none⟩) n n) w' ∧
      zs.length = n * size ∧ One w w.heap.size w' e size (some ⟨w.heap.size, 0, none⟩) n n zs := by
  obtain ⟨i, hi, hz, hsi, hby⟩ := info_parts hinfo
  obtain ⟨w', h1, h2, h3⟩ := run_make_full (P := P) w w.heap.size t e i z size ht hi hz hsi .i64 .i64 n (by rw [hby]; exact hb) h63 (Nat.le_refl _)
  exact ⟨_, w', h1, h2.1, h2, h3.size, ⟨h3.os, h3.tape, h3.output, h3.size, fun k hk => h3.block k hk (by simp)⟩⟩

/-- One cell of a row is written behind those that are written. -/
theorem set_next {A zs : List Value} {j : Nat} (hA : A.length = j) (hj : j < zs.length) (v : Value) : (A ++ zs.drop j).set j v = (A ++ [v]) ++ zs.drop (j + 1) := by
  rw [List.set_append, if_neg (by omega), hA, Nat.sub_self, List.drop_eq_getElem_cons hj, List.set_cons_zero, List.append_assoc]
  rfl

theorem One.stored {W : World} {B : Nat} {w : World} {e : TypeId} {s g n c : Nat} {xs : List Value} (h : One W B w e s (some ⟨g, 0, none⟩) n c xs) (j : Nat) (v : Value) : One W B (w.setCell ⟨g, j, none⟩ v) e s (some ⟨g, 0, none⟩) n c (xs.set j v) := by
  have hst := h.own.stored j v
  exact ⟨hst.1, Nat.le_trans h.base hst.2.size, h.below.grown hst.2 h.base (fun k hk => (h.own.lt k (by simpa [Value.ownBlock] using hk)).1)⟩

theorem One.frozen {W : World} {B : Nat} {w : World} {e : TypeId} {s g n c : Nat} {xs : List Value} (h : One W B w e s (some ⟨g, 0, none⟩) n c xs) (j : Nat) : w.frozen? ⟨g, j, none⟩ = false := h.own.frozenAt j
theorem One.cell {W : World} {B : Nat} {w : World} {e : TypeId} {s g n c : Nat} {xs : List Value} (h : One W B w e s (some ⟨g, 0, none⟩) n c xs) (j : Nat) (hj : j < n * s) : ∃ v, w.cell? ⟨g, j, none⟩ = some v := by
  rw [h.own.cellAt j hj]
  exact ⟨_, List.getElem?_eq_getElem (by rw [h.len]; exact hj)⟩
theorem One.addr {W : World} {B : Nat} {w : World} {e : TypeId} {s : Nat} {a : Option Addr} {n c : Nat} {xs : List Value} (h : One W B w e s a n c xs) (hn : 0 < n) : ∃ g, a = some ⟨g, 0, none⟩ := by
  rcases h.own.2 with ⟨hv, h0⟩ | ⟨g, cap', cur, hv, _⟩
  · omega
  · exact ⟨g, (by simpa using hv : a = some ⟨g, 0, none⟩ ∧ c = cap').1⟩
theorem One.at_ {W : World} {B : Nat} {w : World} {e : TypeId} {s : Nat} {a : Option Addr} {n c : Nat} {xs : List Value} (h : One W B w e s a n c xs) : CellsAt w a xs := cellsAt_own h.own
theorem One.drewN {W : World} {B : Nat} {w : World} {e : TypeId} {s : Nat} {a : Option Addr} {n c : Nat} {xs : List Value} (h : One W B w e s a n c xs) (q : Nat) : One W B (w.drewN q) e s a n c xs := ⟨h.own, h.base, below_drewN' h.below q⟩
theorem One.cap {W : World} {B : Nat} {w : World} {e : TypeId} {s : Nat} {a : Option Addr} {n c : Nat} {xs : List Value} (h : One W B w e s a n c xs) : n ≤ c ∧ c ≤ maxLen := by
  rcases h.own.2 with ⟨hv, h0⟩ | ⟨g, cap', cur, hv, _, _, hc, hm, _⟩
  · obtain ⟨rfl, rfl, rfl⟩ := (by simpa using hv : a = none ∧ n = 0 ∧ c = 0)
    exact ⟨Nat.le_refl _, by decide⟩
  · obtain ⟨rfl, rfl⟩ := (by simpa using hv : a = some ⟨g, 0, none⟩ ∧ c = cap')
    exact ⟨hc, hm⟩


theorem own_cell {w : World} {B : Nat} {e : TypeId} {s g n c : Nat} {xs : List Value} (h : w.ownsRow B e s (.slice (some ⟨g, 0, none⟩) n c) n xs) (j : Nat) (hj : j < n * s) : ∃ v, w.cell? ⟨g, j, none⟩ = some v := by
  rw [h.cellAt j hj]
  exact ⟨_, List.getElem?_eq_getElem (by rw [h.1]; exact hj)⟩


/-- A row stays while a newer one is written. -/
theorem One.kept {W : World} {B : Nat} {w w' w0 : World} {e1 e2 : TypeId} {s1 s2 : Nat} {a1 a2 : Option Addr} {n1 c1 n2 c2 b2 : Nat} {xs1 xs2 : List Value} (h : One W B w e1 s1 a1 n1 c1 xs1) (h0 : w0.ownsRow B e1 s1 (.slice a1 n1 c1) n1 xs1)
    (h2 : w.ownsRow b2 e2 s2 (.slice a2 n2 c2) n2 xs2) (hlt : w0.heap.size ≤ b2) (hB : B ≤ b2) (hg : w.grownBy w' (Value.ownBlock (.slice a2 n2 c2))) : One W B w' e1 s1 a1 n1 c1 xs1 :=
  ⟨ownsRow_older h0 h.own h2 hlt hg, Nat.le_trans h.base hg.size, below_grown_own h.below h2 hg hB h.base⟩

/-- The written row itself. -/
theorem One.written {W : World} {B : Nat} {w w' : World} {e : TypeId} {s : Nat} {a : Option Addr} {n c : Nat} {xs ys : List Value} (h : One W B w e s a n c xs) (h2 : w'.ownsRow B e s (.slice a n c) n ys) (hg : w.grownBy w' (Value.ownBlock (.slice a n c))) : One W B w' e s a n c ys :=
  ⟨h2, Nat.le_trans h.base hg.size, below_grown_own h.below h.own hg (Nat.le_refl _) h.base⟩


/-- A row that the call itself made, in a block from lo up to hi. -/
structure RowIn (w : World) (lo hi : Nat) (e : TypeId) (s : Nat) (a : Option Addr) (n c : Nat) (xs : List Value) : Prop where
  own : w.ownsRow lo e s (.slice a n c) n xs
  top : ∀ k, Value.ownBlock (.slice a n c) = some k → k < hi
  hi : hi ≤ w.heap.size

theorem One.row {W : World} {B : Nat} {w : World} {e : TypeId} {s : Nat} {a : Option Addr} {n c : Nat} {xs : List Value} (h : One W B w e s a n c xs) : RowIn w B w.heap.size e s a n c xs :=
  ⟨h.own, fun k hk => (h.own.lt k hk).2, Nat.le_refl _⟩

theorem RowIn.at_ {w : World} {lo hi : Nat} {e : TypeId} {s : Nat} {a : Option Addr} {n c : Nat} {xs : List Value} (h : RowIn w lo hi e s a n c xs) : CellsAt w a xs := cellsAt_own h.own

theorem RowIn.later {w w' : World} {lo hi : Nat} {e : TypeId} {s : Nat} {a : Option Addr} {n c : Nat} {xs : List Value} (h : RowIn w lo hi e s a n c xs) (hb : Below w.heap.size w w') : RowIn w' lo hi e s a n c xs :=
  ⟨ownsRow_below h.own hb, h.top, Nat.le_trans h.hi hb.size⟩

theorem RowIn.drewN {w : World} {lo hi : Nat} {e : TypeId} {s : Nat} {a : Option Addr} {n c : Nat} {xs : List Value} (h : RowIn w lo hi e s a n c xs) (q : Nat) : RowIn (w.drewN q) lo hi e s a n c xs := ⟨h.own, h.top, h.hi⟩

/-- Another row, in other blocks, is written. -/
theorem RowIn.kept {w w' : World} {lo hi lo2 hi2 : Nat} {e e2 : TypeId} {s s2 : Nat} {a a2 : Option Addr} {n c n2 c2 : Nat} {xs xs2 : List Value} (h : RowIn w lo hi e s a n c xs) (g : RowIn w lo2 hi2 e2 s2 a2 n2 c2 xs2) (hg : w.grownBy w' (Value.ownBlock (.slice a2 n2 c2)))
    (hd : hi ≤ lo2 ∨ hi2 ≤ lo) : RowIn w' lo hi e s a n c xs := by
  refine ⟨h.own.kept hg ?_, h.top, Nat.le_trans h.hi hg.size⟩
  cases hv : Value.ownBlock (.slice a n c) with
  | none => exact Or.inl rfl
  | some k =>
    right
    intro e
    have a1 := h.own.lt k hv
    have a2 := h.top k hv
    have a3 := g.own.lt k e.symm
    have a4 := g.top k e.symm
    omega

theorem RowIn.written {w w' : World} {lo hi : Nat} {e : TypeId} {s : Nat} {a : Option Addr} {n c : Nat} {xs ys : List Value} (h : RowIn w lo hi e s a n c xs) (h2 : w'.ownsRow lo e s (.slice a n c) n ys) (hg : w.grownBy w' (Value.ownBlock (.slice a n c))) : RowIn w' lo hi e s a n c ys :=
  ⟨h2, h.top, Nat.le_trans h.hi hg.size⟩

theorem RowIn.below {W w w' : World} {B lo hi : Nat} {e : TypeId} {s : Nat} {a : Option Addr} {n c : Nat} {xs : List Value} (h : RowIn w lo hi e s a n c xs) (hb : Below B W w) (hg : w.grownBy w' (Value.ownBlock (.slice a n c))) (hB : B ≤ lo) (hs : B ≤ w.heap.size) : Below B W w' :=
  below_grown_own hb h.own hg hB hs


/-- Two rows of one making, of different types. -/
theorem Two.row1 {W : World} {B : Nat} {w : World} {e1 : TypeId} {s1 : Nat} {a1 : Option Addr} {n1 c1 : Nat} {xs1 : List Value} {e2 : TypeId} {s2 : Nat} {a2 : Option Addr} {n2 c2 : Nat} {xs2 : List Value} (h : Two W B w e1 s1 a1 n1 c1 xs1 e2 s2 a2 n2 c2 xs2) : RowIn w B w.heap.size e1 s1 a1 n1 c1 xs1 :=
  ⟨h.one, fun k hk => (h.one.lt k hk).2, Nat.le_refl _⟩
theorem Two.row2 {W : World} {B : Nat} {w : World} {e1 : TypeId} {s1 : Nat} {a1 : Option Addr} {n1 c1 : Nat} {xs1 : List Value} {e2 : TypeId} {s2 : Nat} {a2 : Option Addr} {n2 c2 : Nat} {xs2 : List Value} (h : Two W B w e1 s1 a1 n1 c1 xs1 e2 s2 a2 n2 c2 xs2) : RowIn w B w.heap.size e2 s2 a2 n2 c2 xs2 :=
  ⟨h.two, fun k hk => (h.two.lt k hk).2, Nat.le_refl _⟩
/-- A row of another type is written. -/
theorem RowIn.keptT {w w' : World} {lo hi lo2 hi2 : Nat} {e e2 : TypeId} {s s2 : Nat} {a a2 : Option Addr} {n c n2 c2 : Nat} {xs xs2 : List Value} (h : RowIn w lo hi e s a n c xs) (g : RowIn w lo2 hi2 e2 s2 a2 n2 c2 xs2) (hg : w.grownBy w' (Value.ownBlock (.slice a2 n2 c2)))
    (he : e ≠ e2) : RowIn w' lo hi e s a n c xs := ⟨ownsRow_kept_apart h.own g.own he hg, h.top, Nat.le_trans h.hi hg.size⟩


theorem append_none {P : Program} (w : World) (base : Nat) (t ty e : TypeId) (i : TypeInfo) (size : Nat) (ht : P.underlying t = some (.slice e)) (hi : P.info? e = some i) (v : Value) (n : Nat) (xs : List Value) (hown : w.ownsRow base e size v n xs) (c : Nat) :
    (Builtin.append_ #[t, t] ty #[v, .slice none 0 c]).run P w = .ok v w := by
  rcases hown.2 with ⟨rfl, rfl⟩ | ⟨g, cap, cur, rfl, _, _, hnc, _⟩
  · simp [Builtin.append_, run_underlying ht, sizeOf, typeInfo, hi, Builtin.lenOf, Builtin.firstCells]
  · simp [Builtin.append_, run_underlying ht, sizeOf, typeInfo, hi, Builtin.lenOf, Builtin.firstCells, hnc, storeCells]

/-- The elements of a slice are appended to a row of the call's own. -/
theorem run_append_src {P : Program} {W w0 : World} {B : Nat} {e1 : TypeId} {s1 : Nat} {a1 : Option Addr} {n1 c1 : Nat} {xs1 : List Value} (t ty : TypeId)
    {z : Value} {bytes : Nat} (ht : P.underlying t = some (.slice e1)) (hinfo : (P.info? e1).map (fun i => (i.zero, i.size, i.bytes)) = some (some z, s1, bytes)) (hzs : z.cells.size = s1) (hsz : 0 < s1)
    (h2 : One W B w0 e1 s1 a1 n1 c1 xs1) (A : Option Addr) (m c : Nat) (news : List Value) (hm : news.length = m * s1) (hat : CellsAt w0 A news) (h1 : ∀ u ∈ news, u.oneCell' = true)
    (h63 : n1 + m ≤ maxLen) (hbytes : (n1 + m) * bytes ≤ 140737488355328) :
    ∃ ad' cap' w', (Builtin.append_ #[t, t] ty #[.slice a1 n1 c1, .slice A m c]).run P w0 = .ok (.slice ad' (n1 + m) cap') w' ∧ One W B w' e1 s1 ad' (n1 + m) cap' (xs1 ++ news) ∧ w0.grownBy w' (Value.ownBlock (.slice a1 n1 c1)) := by
  obtain ⟨i, hi, hz, hsi, hby⟩ := info_parts hinfo
  have fin : ∀ v' w', w'.ownsRow B e1 s1 v' (n1 + m) (xs1 ++ news) → w0.grownBy w' (Value.ownBlock (.slice a1 n1 c1)) → ∃ ad' cap', v' = .slice ad' (n1 + m) cap' ∧ One W B w' e1 s1 ad' (n1 + m) cap' (xs1 ++ news) := fun v' w' hown' hg' => by
    obtain ⟨a', c', rfl⟩ := ownsRow_shape hown'
    exact ⟨a', c', rfl, hown', Nat.le_trans h2.base hg'.size, below_grown_own h2.below h2.own hg' (Nat.le_refl _) h2.base⟩
  cases A with
  | none =>
    have hn : news = [] := by
      cases news with
      | nil => rfl
      | cons u r => obtain ⟨b, o, h, _⟩ := hat.spot (by simp); cases h
    subst hn
    have hm0 : m = 0 := by
      rcases Nat.eq_zero_or_pos m with h | h
      · exact h
      · have := Nat.mul_pos h hsz; simp at hm; omega
    subst hm0
    refine ⟨a1, c1, w0, append_none w0 B t ty e1 i s1 ht hi _ n1 xs1 h2.own c, ?_, World.grownBy.refl _ _⟩
    simpa using h2
  | some ad =>
    have hcells : ∀ j u, news[j]? = some u → w0.cell? (ad.add j) = some u := by
      intro j u hu
      have hne : news ≠ [] := fun e => by rw [e] at hu; simp at hu
      obtain ⟨b, o, h, _, hc⟩ := hat.spot hne
      injection h with h
      subst h
      rw [Addr.add_lit]
      exact hc j u hu
    obtain ⟨v', w', hr, hown', hg', _⟩ := run_append_own (P := P) w0 B t ty e1 i z s1 bytes ht hi hz hsi hby hzs hsz _ n1 xs1 h2.own ad m c news hm hcells h1 h63 hbytes h2.base
    obtain ⟨ad', cap', rfl, hone⟩ := fin v' w' hown' hg'
    exact ⟨ad', cap', w', hr, hone, hg'⟩

theorem wp_append_src {P : Program} {W w0 : World} {o : Oper} {act : Act} {K : Act → World → Prop} {Q : Exit → Act → World → Prop} {B : Nat} {e1 : TypeId} {s1 : Nat} {a1 : Option Addr} {n1 c1 : Nat} {xs1 : List Value}
    (s x : Operand) (t : TypeId) (ho : o.op = .call { callee := .builtin .append, args := #[s, x], argTypes := #[t, t] })
    {z : Value} {bytes : Nat} (ht : P.underlying t = some (.slice e1)) (hinfo : (P.info? e1).map (fun i => (i.zero, i.size, i.bytes)) = some (some z, s1, bytes)) (hzs : z.cells.size = s1) (hsz : 0 < s1)
    (h2 : One W B w0 e1 s1 a1 n1 c1 xs1) (hs : act.eval s = .slice a1 n1 c1) (A : Option Addr) (m c : Nat) (hx : act.eval x = .slice A m c) (news : List Value) (hm : news.length = m * s1) (hat : CellsAt w0 A news) (h1 : ∀ u ∈ news, u.oneCell' = true)
    (h63 : n1 + m ≤ maxLen) (hbytes : (n1 + m) * bytes ≤ 140737488355328)
    (h : ∀ ad' cap' w', One W B w' e1 s1 ad' (n1 + m) cap' (xs1 ++ news) → w0.grownBy w' (Value.ownBlock (.slice a1 n1 c1)) → K (act.put o.dst (.slice ad' (n1 + m) cap')) w') : o.wp P act w0 K Q := by
  obtain ⟨ad', cap', w', hr, h3, h4⟩ := run_append_src (P := P) t o.type ht hinfo hzs hsz h2 A m c news hm hat h1 h63 hbytes
  unfold Oper.wp execOp
  simp only [ho, resolve, invoke, builtin, Sem.run_bind, Sem.run_pure, Result.andThen_ok, List.map_toArray, List.map_cons, List.map_nil, hs, hx, hr]
  exact h ad' cap' w' h3 h4

theorem wpList_append_src {P : Program} {W w0 : World} {ops : Array Oper} {rest : List Oper} {o : Oper} {act : Act} {Q : Exit → Act → World → Prop} {B : Nat} {e1 : TypeId} {s1 : Nat} {a1 : Option Addr} {n1 c1 : Nat} {xs1 : List Value}
    (hgd : o.guard = none) (s x : Operand) (t : TypeId) (ho : o.op = .call { callee := .builtin .append, args := #[s, x], argTypes := #[t, t] })
    {z : Value} {bytes : Nat} (ht : P.underlying t = some (.slice e1)) (hinfo : (P.info? e1).map (fun i => (i.zero, i.size, i.bytes)) = some (some z, s1, bytes)) (hzs : z.cells.size = s1) (hsz : 0 < s1)
    (h2 : One W B w0 e1 s1 a1 n1 c1 xs1) (hs : act.eval s = .slice a1 n1 c1) (A : Option Addr) (m c : Nat) (hx : act.eval x = .slice A m c) (news : List Value) (hm : news.length = m * s1) (hat : CellsAt w0 A news) (h1 : ∀ u ∈ news, u.oneCell' = true)
    (h63 : n1 + m ≤ maxLen) (hbytes : (n1 + m) * bytes ≤ 140737488355328)
    (h : ∀ ad' cap' w', One W B w' e1 s1 ad' (n1 + m) cap' (xs1 ++ news) → wpList P ops Q rest (act.put o.dst (.slice ad' (n1 + m) cap')) w') : wpList P ops Q (o :: rest) act w0 :=
  wpList_plain hgd fun _ hK => wp_append_src s x t ho ht hinfo hzs hsz h2 hs A m c hx news hm hat h1 h63 hbytes fun ad' cap' w' h3 _ => hK _ _ (h ad' cap' w' h3)

theorem step_append_src {P : Program} {W w0 : World} {ops : Array Oper} {o : Oper} {act : Act} {K : Act → World → Prop} {Q : Exit → Act → World → Prop} {E : Prop} {B : Nat} {e1 : TypeId} {s1 : Nat} {a1 : Option Addr} {n1 c1 : Nat} {xs1 : List Value}
    (hgd : o.guard = none) (s x : Operand) (t : TypeId) (ho : o.op = .call { callee := .builtin .append, args := #[s, x], argTypes := #[t, t] })
    {z : Value} {bytes : Nat} (ht : P.underlying t = some (.slice e1)) (hinfo : (P.info? e1).map (fun i => (i.zero, i.size, i.bytes)) = some (some z, s1, bytes)) (hzs : z.cells.size = s1) (hsz : 0 < s1)
    (h2 : One W B w0 e1 s1 a1 n1 c1 xs1) (hs : act.eval s = .slice a1 n1 c1) (A : Option Addr) (m c : Nat) (hx : act.eval x = .slice A m c) (news : List Value) (hm : news.length = m * s1) (hat : CellsAt w0 A news) (h1 : ∀ u ∈ news, u.oneCell' = true)
    (h63 : n1 + m ≤ maxLen) (hbytes : (n1 + m) * bytes ≤ 140737488355328)
    (h : ∀ ad' cap' w', One W B w' e1 s1 ad' (n1 + m) cap' (xs1 ++ news) → w0.grownBy w' (Value.ownBlock (.slice a1 n1 c1)) → K (act.put o.dst (.slice ad' (n1 + m) cap')) w') :
    if Region.wanted o (yielded ops act.tmps) = true then Oper.wp P o act w0 K Q else E := by
  have hw : Region.wanted o (yielded ops act.tmps) = true := by simp [Region.wanted, hgd]
  rw [if_pos hw]
  exact wp_append_src s x t ho ht hinfo hzs hsz h2 hs A m c hx news hm hat h1 h63 hbytes h

/-- A slice from a place on, and up to one. -/
theorem CellsAt.from_ {w : World} {a : Option Addr} {cs : List Value} (h : CellsAt w a cs) (n c i size : Nat) (_hs : 0 < size) (hn : cs.length = n * size) (hc : n ≤ c) : CellsAt w (if c = i then a else a.map (·.add (i * size))) (cs.drop (i * size)) := by
  refine ⟨fun hne => ?_⟩
  have hlt : i * size < cs.length := by
    rcases Nat.lt_or_ge (i * size) cs.length with h1 | h1
    · exact h1
    · exact absurd (List.drop_of_length_le h1) hne
  have hin : i < n := Nat.lt_of_mul_lt_mul_right (by rw [← hn]; exact hlt)
  rw [if_neg (by omega)]
  obtain ⟨b, o, ha, hb, hcell⟩ := h.spot (fun e => by rw [e] at hlt; simp at hlt)
  subst ha
  refine ⟨b, o + i * size, by simp [Addr.add_lit], hb, fun j v hj => ?_⟩
  rw [List.getElem?_drop] at hj
  rw [Nat.add_assoc]
  exact hcell _ v hj
theorem CellsAt.upTo {w : World} {a : Option Addr} {cs : List Value} (h : CellsAt w a cs) (i : Nat) : CellsAt w a (cs.take i) := by
  refine ⟨fun hne => ?_⟩
  obtain ⟨b, o, ha, hb, hc⟩ := h.spot (fun e => hne (by rw [e]; simp))
  refine ⟨b, o, ha, hb, fun j v hj => hc j v ?_⟩
  rw [List.getElem?_take] at hj
  split at hj
  · exact hj
  · cases hj

theorem strsC_one (l : List ByteArray) : ∀ u ∈ strsC l, u.oneCell' = true := by
  intro u hu
  simp only [strsC, List.mem_map] at hu
  obtain ⟨x, _, rfl⟩ := hu
  simp [Value.oneCell']
theorem intCells_one (l : List Int) : ∀ u ∈ intCells l, u.oneCell' = true := by
  intro u hu
  simp only [intCells, List.mem_map] at hu
  obtain ⟨x, _, rfl⟩ := hu
  simp [Value.oneCell']
theorem strsC_append (l m : List ByteArray) : strsC (l ++ m) = strsC l ++ strsC m := by simp [strsC]
theorem strsC_drop (l : List ByteArray) (k : Nat) : (strsC l).drop k = strsC (l.drop k) := by simp [strsC, List.map_drop]
theorem strsC_takeE (l : List ByteArray) (k : Nat) : (strsC l).take k = strsC (l.take k) := by simp [strsC, List.map_take]
theorem intCells_drop (l : List Int) (k : Nat) : (intCells l).drop k = intCells (l.drop k) := by simp [intCells, List.map_drop]
theorem intCells_takeE (l : List Int) (k : Nat) : (intCells l).take k = intCells (l.take k) := by simp [intCells, List.map_take]


/-- A row of a callee's own is one of the caller's own. -/
theorem One.under {W W' : World} {B B' : Nat} {w : World} {e : TypeId} {s : Nat} {a : Option Addr} {n c : Nat} {xs : List Value} (h : One W' B' w e s a n c xs) (hb : Below B W W') (hB : B ≤ B') : One W B w e s a n c xs := by
  refine ⟨⟨h.own.1, ?_⟩, Nat.le_trans hB h.base, hb.trans (h.below.mono hB)⟩
  rcases h.own.2 with h0 | ⟨g, cap, cur, hv, hbg, rest⟩
  · exact .inl h0
  · exact .inr ⟨g, cap, cur, hv, Nat.le_trans hB hbg, rest⟩


theorem own_addr {w : World} {B : Nat} {e : TypeId} {s : Nat} {a : Option Addr} {n c : Nat} {xs : List Value} (h : w.ownsRow B e s (.slice a n c) n xs) (hn : 0 < n) : ∃ g, a = some ⟨g, 0, none⟩ := by
  rcases h.2 with ⟨hv, h0⟩ | ⟨g, cap', cur, hv, _⟩
  · omega
  · exact ⟨g, (by simpa using hv : a = some ⟨g, 0, none⟩ ∧ c = cap').1⟩

/-- A cell of the second of two rows is written. -/
theorem Two.stored2 {W : World} {B : Nat} {w : World} {e1 : TypeId} {s1 : Nat} {a1 : Option Addr} {n1 c1 : Nat} {xs1 : List Value} {e2 : TypeId} {s2 g n2 c2 : Nat} {xs2 : List Value} (h : Two W B w e1 s1 a1 n1 c1 xs1 e2 s2 (some ⟨g, 0, none⟩) n2 c2 xs2) (j : Nat) (v : Value) :
    Two W B (w.setCell ⟨g, j, none⟩ v) e1 s1 a1 n1 c1 xs1 e2 s2 (some ⟨g, 0, none⟩) n2 c2 (xs2.set j v) := by
  have hst := h.two.stored j v
  have hg : w.grownBy (w.setCell ⟨g, j, none⟩ v) (Value.ownBlock (.slice (some ⟨g, 0, none⟩) n2 c2)) := hst.2
  exact ⟨ownsRow_kept_apart h.one h.two h.ne hg, hst.1, h.ne, Nat.le_trans h.base hg.size, below_grown_own h.below h.two hg (Nat.le_refl _) h.base⟩

theorem own_under {w : World} {B B' : Nat} {e : TypeId} {s : Nat} {v : Value} {n : Nat} {xs : List Value} (h : w.ownsRow B' e s v n xs) (hB : B ≤ B') : w.ownsRow B e s v n xs := by
  refine ⟨h.1, ?_⟩
  rcases h.2 with h0 | ⟨g, cap, cur, hv, hbg, rest⟩
  · exact .inl h0
  · exact .inr ⟨g, cap, cur, hv, Nat.le_trans hB hbg, rest⟩

theorem Two.under {W W' : World} {B B' : Nat} {w : World} {e1 : TypeId} {s1 : Nat} {a1 : Option Addr} {n1 c1 : Nat} {xs1 : List Value} {e2 : TypeId} {s2 : Nat} {a2 : Option Addr} {n2 c2 : Nat} {xs2 : List Value} (h : Two W' B' w e1 s1 a1 n1 c1 xs1 e2 s2 a2 n2 c2 xs2) (hb : Below B W W') (hB : B ≤ B') :
    Two W B w e1 s1 a1 n1 c1 xs1 e2 s2 a2 n2 c2 xs2 := ⟨own_under h.one hB, own_under h.two hB, h.ne, Nat.le_trans hB h.base, hb.trans (h.below.mono hB)⟩

theorem Two.later {W : World} {B : Nat} {w w' : World} {e1 : TypeId} {s1 : Nat} {a1 : Option Addr} {n1 c1 : Nat} {xs1 : List Value} {e2 : TypeId} {s2 : Nat} {a2 : Option Addr} {n2 c2 : Nat} {xs2 : List Value} (h : Two W B w e1 s1 a1 n1 c1 xs1 e2 s2 a2 n2 c2 xs2) (hb : Below w.heap.size w w') : Two W B w' e1 s1 a1 n1 c1 xs1 e2 s2 a2 n2 c2 xs2 :=
  ⟨ownsRow_below h.one hb, ownsRow_below h.two hb, h.ne, Nat.le_trans h.base hb.size, h.below.trans (hb.mono h.base)⟩

theorem Two.drewN {W : World} {B : Nat} {w : World} {e1 : TypeId} {s1 : Nat} {a1 : Option Addr} {n1 c1 : Nat} {xs1 : List Value} {e2 : TypeId} {s2 : Nat} {a2 : Option Addr} {n2 c2 : Nat} {xs2 : List Value} (h : Two W B w e1 s1 a1 n1 c1 xs1 e2 s2 a2 n2 c2 xs2) (q : Nat) : Two W B (w.drewN q) e1 s1 a1 n1 c1 xs1 e2 s2 a2 n2 c2 xs2 :=
  ⟨h.one, h.two, h.ne, h.base, below_drewN' h.below q⟩

theorem Two.nil (w : World) (e1 : TypeId) (s1 : Nat) (e2 : TypeId) (s2 : Nat) (hne : e1 ≠ e2) : Two w w.heap.size w e1 s1 none 0 0 [] e2 s2 none 0 0 [] := ⟨World.ownsRow_nil _ _ _ _, World.ownsRow_nil _ _ _ _, hne, Nat.le_refl _, Below.refl _ _⟩


theorem One.drew {W : World} {B : Nat} {w : World} {e : TypeId} {s : Nat} {a : Option Addr} {n c : Nat} {xs : List Value} (h : One W B w e s a n c xs) : One W B w.drew e s a n c xs := ⟨h.own, h.base, h.below.drew⟩
theorem One.alloc {W : World} {B : Nat} {w : World} {e : TypeId} {s : Nat} {a : Option Addr} {n c : Nat} {xs : List Value} (h : One W B w e s a n c xs) (o : Obj) : One W B (w.alloc o) e s a n c xs :=
  ⟨h.own.alloc o, Nat.le_trans h.base (heap_le_alloc _ _), h.below.alloc h.base o⟩
theorem One.second (w : World) (o : Obj) (e : TypeId) (s : Nat) : One w w.heap.size ((w.alloc o).alloc (.cells #[] e)) e s (some ⟨w.heap.size + 1, 0, none⟩) 0 0 [] := ⟨own_second _ _ _ _, heap_le_alloc2 _ _ _, below_alloc2 _ _ _⟩

theorem cellsAt_new (w : World) (e : TypeId) (v : Value) (g : Nat) (hg : g = w.heap.size) : CellsAt (w.alloc (.cells #[v] e)) (some ⟨g, 0, none⟩) [v] := by
  subst hg
  refine ⟨fun _ => ⟨w.heap.size, 0, rfl, by simp, fun j u hj => ?_⟩⟩
  rw [cell_of_row _ w.heap.size (0 + j) _ e (0, 0) (heap_alloc_new w _)]
  simpa using hj
theorem CellsAt.allocW {w : World} {a : Option Addr} {cs : List Value} (h : CellsAt w a cs) (o : Obj) : CellsAt (w.alloc o) a cs := h.below ((Below.refl _ _).alloc (Nat.le_refl _) o)
theorem CellsAt.drewW {w : World} {a : Option Addr} {cs : List Value} (h : CellsAt w a cs) : CellsAt w.drew a cs := ⟨h.spot⟩
theorem CellsAt.from_lit {w : World} {b o : Nat} {cs : List Value} (h : CellsAt w (some ⟨b, o, none⟩) cs) (i : Nat) : CellsAt w (some ⟨b, o + i, none⟩) (cs.drop i) := by
  refine ⟨fun hne => ?_⟩
  obtain ⟨b', o', ha, hb, hc⟩ := h.spot (fun e => hne (by rw [e]; simp))
  obtain ⟨rfl, rfl⟩ := (by simpa using ha : b = b' ∧ o = o')
  refine ⟨b, o + i, rfl, hb, fun j v hj => ?_⟩
  rw [List.getElem?_drop] at hj
  rw [Nat.add_assoc]
  exact hc _ v hj


/-- As step_append_src, the new length and the new cells under names. -/
theorem step_append_to {P : Program} {ops : Array Oper} {o : Oper} {act : Act} {K : Act → World → Prop} {Q : Exit → Act → World → Prop} {E : Prop} {w0 : World} (W : World) (B : Nat) {e1 : TypeId} {s1 : Nat} (a1 : Option Addr) (n1 c1 : Nat) (xs1 : List Value)
    (A : Option Addr) (m c : Nat) (news : List Value) (n' : Nat) (xs' : List Value) (hn' : n1 + m = n') (hx' : xs1 ++ news = xs')
    (hgd : o.guard = none) (s x : Operand) (t : TypeId) (ho : o.op = .call { callee := .builtin .append, args := #[s, x], argTypes := #[t, t] })
    (hs : act.eval s = .slice a1 n1 c1) (hx : act.eval x = .slice A m c)
    {z : Value} {bytes : Nat} (ht : P.underlying t = some (.slice e1)) (hinfo : (P.info? e1).map (fun i => (i.zero, i.size, i.bytes)) = some (some z, s1, bytes)) (hzs : z.cells.size = s1) (hsz : 0 < s1)
    (hm : news.length = m * s1) (h1 : ∀ u ∈ news, u.oneCell' = true) (h63 : n' ≤ maxLen) (hbytes : n' * bytes ≤ 140737488355328)
    (h2 : One W B w0 e1 s1 a1 n1 c1 xs1) (hat : CellsAt w0 A news)
    (h : ∀ ad' cap' w', One W B w' e1 s1 ad' n' cap' xs' → w0.grownBy w' (Value.ownBlock (.slice a1 n1 c1)) → K (act.put o.dst (.slice ad' n' cap')) w') :
    if Region.wanted o (yielded ops act.tmps) = true then Oper.wp P o act w0 K Q else E := by
  subst hn' hx'
  exact step_append_src hgd s x t ho ht hinfo hzs hsz h2 hs A m c hx news hm hat h1 h63 hbytes h

end Go.Proofs.Ytbnagmjhdnnheaa

namespace Go.Proofs.Ytbnagmjhdnnheaa
open Go.RowKit

theorem Try.ulI3 : Try.prog.underlying 30 = some (.slice 3) := by kernel_rfl
theorem Try.infoI3 : (Try.prog.info? 3).map (fun i => (i.zero, i.size, i.bytes)) = some (some (.int .i64 0), 1, 8) := by kernel_rfl

theorem pieces_roll (s : ByteArray) (k i q : Nat) (hk : 0 < k) (hq : q = i + k) (h : q < s.size) :
    rollN (prN (pieceL s.data.toList k i)) k (s[i]'(by omega)).toNat s[q].toNat = prN (pieceL s.data.toList k (i + 1)) := by
  subst hq
  exact roll_piece s.data.toList k i 256 hk h (by decide)

theorem extract_first (s : ByteArray) (k : Nat) : (s.extract 0 k).data.toList = pieceL s.data.toList k 0 := by
  rw [ByteArray.data_extract, Array.toList_extract, List.extract_eq_take_drop, pieceL]
  simp

theorem printsK (s : List UInt8) (k i : Nat) {y : Nat} (hy : prN (pieceL s k i) = y) : intCells (printsTo s k (i + 1)) = intCells (printsTo s k i) ++ [.int .i64 y] := by
  rw [printsTo, intCells_append, hy]; rfl

theorem specPrintOf_is (s : ByteArray) (x : Nat) (w : World) (hs : s.size ≤ 4194304) (hx : prN s.data.toList = x) :
    Calls Try.prog 101 #[.string s] w fun e w' => e = .returned (.int .i64 x) ∧ w = w' := by
  subst hx; exact specPrintOf_any s w hs

theorem specPrintsOf_bad (s : ByteArray) (k : Int) (w : World) (h : k < 1 ∨ (s.size : Int) < k) :
    Calls Try.prog 88 #[.string s, .int .i64 k] w fun e w' => ∃ a n c, e = .returned (.slice a n c) ∧ One w w.heap.size w' 3 1 a n c (intCells []) := by
  by_cases hk : k < 1
  · clear h
    go_enter Try.func88, Try.ntmps88
    go_wp2
    go_ret
    exact ⟨_, _, _, rfl, One.empty _ _ _⟩
  · by_cases hk2 : (s.size : Int) < k
    · clear h
      go_enter Try.func88, Try.ntmps88
      go_wp2
      go_ret
      exact ⟨_, _, _, rfl, One.empty _ _ _⟩
    · omega

set_option maxHeartbeats 2000000 in
theorem specPrintsOf_ok (s : ByteArray) (k : Nat) (w : World) (hs : s.size ≤ 4194304) (h1 : 0 < k) (h2 : k ≤ s.size) :
    Calls Try.prog 88 #[.string s, .int .i64 k] w fun e w' => ∃ a n c, e = .returned (.slice a n c) ∧ One w w.heap.size w' 3 1 a n c (intCells (printsTo s.data.toList k (s.size - k + 1))) := by
  have hp := prN_lt (pieceL s.data.toList k 0)
  obtain ⟨x, hx⟩ : ∃ x, prN (pieceL s.data.toList k 0) = x := ⟨_, rfl⟩
  have HX := Lib.hid (show prN (s.extract 0 k).data.toList = x by rw [extract_first]; exact hx)
  have HX2 := Lib.hid hx
  have HR := Lib.hid (show intCells (printsTo s.data.toList k 1) = [] ++ [.int .i64 x] by rw [printsK s.data.toList k 0 hx]; rfl)
  have hxs : (s.extract 0 k).size ≤ 4194304 := by simp only [ByteArray.size_extract]; omega
  rw [hx] at hp
  clear hx
  go_enter Try.func88, Try.ntmps88
  go_wp2_with fail
  refine (specPrintOf_is _ _ _ hxs HX.out).mono ?_
  rintro e w1 ⟨rfl, hw⟩
  have h0 : One w w.heap.size w1 3 1 (some ⟨w.heap.size, 0, none⟩) 0 0 [] := by rw [← hw]; exact One.empty _ _ _
  clear hw
  go_wp2_with (at_builtin; refine wpList_append_row rfl (.tmp 22) (.tmp 24) 30 rfl Try.ulI3 Try.infoI3 rfl (by decide) h0 rfl #[.int .i64 x] rfl rfl (by simp [Value.oneCell']) (by unfold maxLen; omega) (by omega) ?_; intro a3 c3 w3 h3)
  have HS := Lib.hid (show s.data.toList.length = s.size from rfl)
  go_loopw [5, 6, 7] (fun v n q_ wr => ∃ i x q : Nat, q ≤ s.size ∧ q_ = .int .i64 q ∧ n = .int .i64 x ∧ x < 1000003 ∧ Hid (q = i + k ∧ prN (pieceL s.data.toList k i) = x) ∧ i ≤ s.size ∧ ∃ a c, v = .slice a (i + 1) c ∧ One w w.heap.size wr 3 1 a (i + 1) c (intCells (printsTo s.data.toList k (q - k + 1))))
    (fun _ _ q_ _ => s.size - (intOf q_).toNat)
  case atStart => exact ⟨0, x, k, h2, rfl, rfl, hp, Lib.hid ⟨by omega, HX2.out⟩, by omega, a3, c3, rfl, by rw [Nat.sub_self, HR.out]; exact h3⟩
  case round =>
    obtain ⟨i, x, q, hq, rfl, rfl, hx9, HQ, hi, a, c, rfl, hone⟩ := hrel
    by_cases hlt : q < s.size
    · have hqi := HQ.out.1
      have hii : i < s.size := by omega
      have hy : rollN (prN (pieceL s.data.toList k i)) k s[i].toNat s[q].toNat = prN (pieceL s.data.toList k (i + 1)) := pieces_roll s k i q h1 hqi hlt
      rw [HQ.out.2] at hy
      have hy9 := prN_lt (pieceL s.data.toList k (i + 1))
      obtain ⟨y, hyy⟩ : ∃ y, prN (pieceL s.data.toList k (i + 1)) = y := ⟨_, rfl⟩
      rw [hyy] at hy hy9
      have hki : q - k + 1 = i + 1 := by omega
      have hki2 : q + 1 - k = i + 1 := by omega
      rw [hki] at hone
      have HK := Lib.hid (show intCells (printsTo s.data.toList k (q + 1 - k + 1)) = intCells (printsTo s.data.toList k (i + 1)) ++ [.int .i64 y] by rw [hki2]; exact printsK s.data.toList k (i + 1) hyy)
      have HN := Lib.hid (show q + 1 = (i + 1) + k ∧ prN (pieceL s.data.toList k (i + 1)) = y from ⟨by omega, hyy⟩)
      have HY := Lib.hid hy
      have e1 : IntKind.i64.wrap ((q : Int) - (k : Int)) = (i : Int) := by rw [IntWalk.i64_in _ (by omega)]; omega
      have b1 : s[i].toNat ≤ 255 := by have := s[i].toNat_lt; omega
      have b2 : s[q].toNat ≤ 255 := by have := s[q].toNat_lt; omega
      have k9 : (k : Int) ≤ 9223372036854775807 := by omega
      have K9 := Lib.hid k9
      clear hqi hy hyy HQ k9 hki hki2
      go_wp2
      go_quiet ((go_at_call 102; exact Calls.quiet_of_same ((specRollPrint_ok _ _ _ _ y _ hx9 (by omega) K9.out b1 b2 HY.out).mono (fun _ _ h => ⟨h.1, h.2.symm⟩))))
      go_wp2_with (at_builtin; refine wpList_append_row rfl (.tmp 46) (.tmp 48) 30 rfl Try.ulI3 Try.infoI3 rfl (by decide) (hone.drewN _) rfl #[.int .i64 y] rfl rfl (by simp [Value.oneCell']) (by unfold maxLen; omega) (by omega) ?_; intro a5 c5 w5 h5)
      go_roundw
      case rel => exact ⟨i + 1, y, q + 1, by omega, by go_num, rfl, hy9, HN, by omega, a5, c5, rfl, by rw [HK.out]; exact h5⟩
      case measure => simp [intOf]; omega
    · obtain rfl : q = s.size := by omega
      have HO := Lib.hid hone
      clear hone
      go_wp2
      go_ret
      exact ⟨_, _, _, rfl, HO.out⟩

end Go.Proofs.Ytbnagmjhdnnheaa

namespace Go.Proofs.Ytbnagmjhdnnheaa
open Go.RowKit

/-- What lies in other blocks than a row lies in other blocks than the row that was appended to. -/
def Spared (w : World) (v v' : Value) : Prop := ∀ q, q < w.heap.size → v.ownBlock ≠ some q → v'.ownBlock ≠ some q

theorem append_spared {P : Program} (w : World) (base : Nat) (t ty e : TypeId) (i : TypeInfo) (z : Value) (size bytes : Nat) (ht : P.underlying t = some (.slice e)) (hi : P.info? e = some i) (hz : i.zero = some z)
    (hsize : i.size = size) (hby : i.bytes = bytes) (hsz : 0 < size)
    (v : Value) (n : Nat) (xs : List Value) (hown : w.ownsRow base e size v n xs)
    (a : Addr) (m c : Nat) (news : List Value) (hl : news.length = m * size) (hnews : ∀ j u, news[j]? = some u → w.cell? (a.add j) = some u) (h1 : ∀ u ∈ news, u.oneCell' = true) (hm : 0 < m)
    (h63 : n + m ≤ maxLen) (hbytes : (n + m) * bytes ≤ 140737488355328) (v' : Value) (w' : World)
    (hr : (Builtin.append_ #[t, t] ty #[v, .slice (some a) m c]).run P w = .ok v' w') : Spared w v v' := by
  subst hsize
  subst hby
  have hsmall : n + m ≤ 9223372036854775807 := by simp only [maxLen] at h63; omega
  intro q hq hne
  rcases hown.2 with ⟨rfl, rfl⟩ | ⟨g, cap, cur, rfl, hbg, hg, hnc, hcm, hcs, htake⟩
  · have e1 := run_append_nil (P := P) w t ty e i z ht hi hz a m c news hl hnews hm (by omega) (by have hb := hbytes; simp only [Nat.zero_add] at hb; omega)
    rw [e1] at hr
    injection hr with h2 _
    subst h2
    simp only [Value.ownBlock, ne_eq, Option.some.injEq]
    omega
  · by_cases hroom : n + m ≤ cap
    · have hfit : n * i.size + news.length ≤ cur.size := by rw [hl, hcs, ← Nat.add_mul]; exact Nat.mul_le_mul_right _ hroom
      have e1 := run_append_room (P := P) w t ty e i ht hi g n cap cur hg a m c news hl hnews h1 hroom hfit
      rw [e1] at hr
      injection hr with h2 _
      subst h2
      exact hne
    · have e1 := run_append_grow (P := P) w t ty e i z ht hi hz ⟨g, 0, none⟩ n cap xs hown.1 (hown.cells (g := g) rfl) a m c news hl hnews (by omega) (by omega) (growslice_fits (by omega) hbytes)
      rw [e1] at hr
      injection hr with h2 _
      subst h2
      simp only [Value.ownBlock, ne_eq, Option.some.injEq]
      omega

/-- One element more in a row; what lies apart stays apart. -/
theorem wpList_append_apart {P : Program} {W w0 : World} {ops : Array Oper} {rest : List Oper} {o : Oper} {act : Act} {Q : Exit → Act → World → Prop} {B : Nat} {e1 : TypeId} {s1 : Nat} {a1 : Option Addr} {n1 c1 : Nat} {xs1 : List Value}
    (hgd : o.guard = none) (s x : Operand) (t : TypeId)
    (ho : o.op = .call { callee := .builtin .append, args := #[s, x], argTypes := #[t, t] })
    {z : Value} {bytes : Nat} (ht : P.underlying t = some (.slice e1)) (hinfo : (P.info? e1).map (fun i => (i.zero, i.size, i.bytes)) = some (some z, s1, bytes)) (hzs : z.cells.size = s1) (hsz : 0 < s1)
    (h2 : One W B w0 e1 s1 a1 n1 c1 xs1) (hs : act.eval s = .slice a1 n1 c1)
    (us : Array Value) (hx : act.eval x = .slice (some ⟨w0.heap.size, 0, none⟩) 1 1) (hl : us.size = s1) (h1 : ∀ u ∈ us.toList, u.oneCell' = true)
    (h63 : n1 + 1 ≤ maxLen) (hbytes : (n1 + 1) * bytes ≤ 140737488355328)
    (h : ∀ ad' cap' w', One W B w' e1 s1 ad' (n1 + 1) cap' (xs1 ++ us.toList) → w0.grownBy w' (Value.ownBlock (.slice a1 n1 c1)) → Spared w0 (.slice a1 n1 c1) (.slice ad' (n1 + 1) cap') → wpList P ops Q rest (act.put o.dst (.slice ad' (n1 + 1) cap')) w') :
    wpList P ops Q (o :: rest) act (w0.alloc (.cells us e1)) := by
  obtain ⟨i, hi, hz, hsi, hby⟩ := info_parts hinfo
  have hcell : ∀ j u, us.toList[j]? = some u → (w0.alloc (.cells us e1)).cell? ((⟨w0.heap.size, 0, none⟩ : Addr).add j) = some u := by
    intro j u hj
    rw [Addr.add_lit, cell_of_row _ w0.heap.size (0 + j) us e1 (0, 0) (heap_alloc_new w0 _)]
    simpa using hj
  have hown2 : (w0.alloc (.cells us e1)).ownsRow B e1 s1 (.slice a1 n1 c1) n1 xs1 := h2.own.alloc _
  obtain ⟨v', w', hr, hown', hg', _⟩ := run_append_own (P := P) (w0.alloc (.cells us e1)) B t o.type e1 i z s1 bytes ht hi hz hsi hby hzs hsz _ n1 xs1 hown2 ⟨w0.heap.size, 0, none⟩ 1 1 us.toList (by simp [hl]) hcell h1 h63 hbytes (by have := h2.base; simp; omega)
  have hsp := append_spared (P := P) (w0.alloc (.cells us e1)) B t o.type e1 i z s1 bytes ht hi hz hsi hby hsz _ n1 xs1 hown2 ⟨w0.heap.size, 0, none⟩ 1 1 us.toList (by simp [hl]) hcell h1 (by omega) h63 hbytes v' w' hr
  obtain ⟨a', c', rfl⟩ := ownsRow_shape hown'
  have hG : w0.grownBy w' (Value.ownBlock (.slice a1 n1 c1)) := grownBy_trans (World.grownBy_alloc w0 _ _) hg'
  refine wpList_plain hgd fun _ hK => ?_
  unfold Oper.wp execOp
  simp only [ho, resolve, invoke, builtin, Sem.run_bind, Sem.run_pure, Result.andThen_ok, List.map_toArray, List.map_cons, List.map_nil, hs, hx, hr]
  exact hK _ _ (h a' c' w' ⟨hown', Nat.le_trans h2.base hG.size, below_grown_own h2.below h2.own hG (Nat.le_refl _) h2.base⟩ hG (fun q hq hne => hsp q (by simp; omega) hne))

/-- Cells that lie apart from a row stay as they are when it grows, and lie apart from what it becomes. -/
structure Beside (w : World) (a : Option Addr) (cs : List Value) (v : Value) : Prop where
  at_ : CellsAt w a cs
  apart : cs ≠ [] → ∀ b o, a = some ⟨b, o, none⟩ → v.ownBlock ≠ some b

theorem Beside.grow {w w' : World} {a : Option Addr} {cs : List Value} {v v' : Value} (h : Beside w a cs v) (hg : w.grownBy w' v.ownBlock) (hs : Spared w v v') : Beside w' a cs v' :=
  ⟨⟨fun hne => by
      obtain ⟨b, o, ha, hb, hc⟩ := h.at_.spot hne
      exact ⟨b, o, ha, Nat.lt_of_lt_of_le hb hg.size, fun j u hj => (World.cell?_of_block (hg.block b hb (fun e => h.apart hne b o ha e.symm))).trans (hc j u hj)⟩⟩,
   fun hne b o ha => by
      obtain ⟨b', o', ha', hb', _⟩ := h.at_.spot hne
      obtain ⟨rfl, rfl⟩ := (by simpa using ha.symm.trans ha' : b = b' ∧ o = o')
      exact hs b hb' (h.apart hne b o ha)⟩

theorem Beside.drewN {w : World} {a : Option Addr} {cs : List Value} {v : Value} (h : Beside w a cs v) (q : Nat) : Beside (w.drewN q) a cs v := ⟨h.at_.drewN q, h.apart⟩

end Go.Proofs.Ytbnagmjhdnnheaa
