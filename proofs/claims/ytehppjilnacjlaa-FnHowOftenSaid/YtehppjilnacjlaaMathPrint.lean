/-
  Plain mathematics of fingerprints: of texts, of powers, of joined texts and of pieces that are rolled on. No conditions.
-/
import Derived.Lib.Hide
namespace Go.Proofs.Ytehppjilnacjlaa

/-- A step: the fingerprint behind one byte more. -/
def prStep (n : Nat) (b : UInt8) : Nat := (n * 257 + b.toNat + 1) % 1000003
/-- The fingerprint of a text. -/
def prN (l : List UInt8) : Nat := l.foldl prStep 0
/-- The powers. -/
def pwN (k : Nat) : Nat := 257 ^ k % 1000003

theorem prStep_lt (n : Nat) (b : UInt8) : prStep n b < 1000003 := Nat.mod_lt _ (by decide)
theorem prN_snoc (l : List UInt8) (b : UInt8) : prN (l ++ [b]) = prStep (prN l) b := by simp [prN]
theorem prF_lt (l : List UInt8) (n : Nat) (h : n < 1000003) : l.foldl prStep n < 1000003 := by
  induction l generalizing n with
  | nil => exact h
  | cons b l ih => exact ih _ (prStep_lt n b)
theorem prN_lt (l : List UInt8) : prN l < 1000003 := prF_lt l 0 (by decide)
theorem pwN_lt (k : Nat) : pwN k < 1000003 := Nat.mod_lt _ (by decide)
theorem pwN_zero : pwN 0 = 1 := by decide
theorem pwN_one : pwN 1 = 257 := by decide

/-- The same rest. -/
def Eqm (a b : Nat) : Prop := a % 1000003 = b % 1000003
theorem Eqm.refl (a : Nat) : Eqm a a := rfl
theorem Eqm.symm {a b : Nat} (h : Eqm a b) : Eqm b a := Eq.symm h
theorem Eqm.trans {a b c : Nat} (h : Eqm a b) (g : Eqm b c) : Eqm a c := Eq.trans h g
theorem Eqm.add {a b c d : Nat} (h : Eqm a b) (g : Eqm c d) : Eqm (a + c) (b + d) := by
  unfold Eqm at *; rw [Nat.add_mod, h, g, ← Nat.add_mod]
theorem Eqm.mul {a b c d : Nat} (h : Eqm a b) (g : Eqm c d) : Eqm (a * c) (b * d) := by
  unfold Eqm at *; rw [Nat.mul_mod, h, g, ← Nat.mul_mod]
theorem Eqm.rest (a : Nat) : Eqm (a % 1000003) a := Nat.mod_mod _ _
theorem Eqm.eq {a b : Nat} (h : Eqm a b) (ha : a < 1000003) (hb : b < 1000003) : a = b := by
  unfold Eqm at h; rwa [Nat.mod_eq_of_lt ha, Nat.mod_eq_of_lt hb] at h
theorem Eqm.whole (a k : Nat) : Eqm (a + 1000003 * k) a := by unfold Eqm; omega
theorem Eqm.cancel {a b c : Nat} (h : Eqm (a + c) (b + c)) : Eqm a b := by unfold Eqm at *; omega

theorem pwN_eqm (k : Nat) : Eqm (pwN k) (257 ^ k) := Eqm.rest _
theorem prStep_eqm (n : Nat) (b : UInt8) : Eqm (prStep n b) (n * 257 + b.toNat + 1) := Eqm.rest _

theorem pwN_add (a b : Nat) : pwN (a + b) = pwN a * pwN b % 1000003 := by
  refine Eqm.eq ?_ (pwN_lt _) (Nat.mod_lt _ (by decide))
  refine (pwN_eqm _).trans (Eqm.trans ?_ (Eqm.rest _).symm)
  rw [Nat.pow_add]
  exact ((pwN_eqm a).mul (pwN_eqm b)).symm
theorem pwN_succ (a : Nat) : pwN (a + 1) = pwN a * 257 % 1000003 := by rw [pwN_add, pwN_one]

/-- From another number on. -/
theorem prF_eqm (l : List UInt8) (n : Nat) : Eqm (l.foldl prStep n) (n * 257 ^ l.length + prN l) := by
  have key : ∀ (l : List UInt8), Eqm (l.reverse.foldl prStep n) (n * 257 ^ l.length + prN l.reverse) := by
    intro l
    induction l with
    | nil => simp [prN, Eqm]
    | cons b l ih =>
      rw [List.reverse_cons, List.foldl_append, List.foldl_cons, List.foldl_nil, prN_snoc, List.length_cons]
      refine (prStep_eqm _ _).trans ?_
      refine Eqm.trans ?_ ((Eqm.refl _).add (prStep_eqm _ _).symm)
      have h2 : n * 257 ^ (l.length + 1) + (prN l.reverse * 257 + b.toNat + 1) = (n * 257 ^ l.length + prN l.reverse) * 257 + b.toNat + 1 := by
        rw [Nat.pow_succ]
        have : n * (257 ^ l.length * 257) = n * 257 ^ l.length * 257 := by rw [Nat.mul_assoc]
        rw [this, Nat.add_mul]
        omega
      rw [h2]
      exact ((ih.mul (Eqm.refl 257)).add (Eqm.refl _)).add (Eqm.refl 1)
  have := key l.reverse
  rwa [List.reverse_reverse, List.length_reverse] at this

/-- The fingerprint of two texts is told by both of theirs. -/
theorem prN_append (a b : List UInt8) : prN (a ++ b) = (prN a * pwN b.length + prN b) % 1000003 := by
  refine Eqm.eq ?_ (prN_lt _) (Nat.mod_lt _ (by decide))
  have e : prN (a ++ b) = b.foldl prStep (prN a) := by simp [prN]
  rw [e]
  refine (prF_eqm b _).trans (Eqm.trans ?_ (Eqm.rest _).symm)
  exact ((Eqm.refl _).mul (pwN_eqm _).symm).add (Eqm.refl _)

theorem prN_cons (g : UInt8) (l : List UInt8) : prN (g :: l) = ((g.toNat + 1) * pwN l.length + prN l) % 1000003 := by
  have h := prN_append [g] l
  have e : prN [g] = g.toNat + 1 := by
    have := g.toNat_lt
    show (0 * 257 + g.toNat + 1) % 1000003 = g.toNat + 1
    omega
  rw [e] at h
  exact h

/-- What a fingerprint is without its first byte: r is what stands for the byte that goes (any number that has its rest). -/
theorem drop_first (g : UInt8) (l : List UInt8) (z : Nat) (hz : Eqm (z + (g.toNat + 1) * pwN l.length) 0) : (prN (g :: l) + z) % 1000003 = prN l := by
  refine Eqm.eq ?_ (Nat.mod_lt _ (by decide)) (prN_lt _)
  refine (Eqm.rest _).trans ?_
  rw [prN_cons]
  refine (((Eqm.rest _).add (Eqm.refl z))).trans ?_
  have h := (hz.add (Eqm.refl (prN l)))
  have e : (g.toNat + 1) * pwN l.length + prN l + z = z + (g.toNat + 1) * pwN l.length + prN l := by omega
  rw [e]
  simpa using h

/-- The rest that is taken away from a multiple of the prime. -/
theorem away (x m : Nat) (_h : x % 1000003 ≤ 1000003 * m) : Eqm ((1000003 * m - x % 1000003) + x) 0 := by
  unfold Eqm
  omega

/-- A piece that is rolled on: the model's way (256 primes are added), by any number m of primes. -/
theorem roll_eq (g : UInt8) (l : List UInt8) (c : UInt8) (m : Nat) (h : 0 < m) :
    ((prN (g :: l) + 1000003 * m - (g.toNat + 1) * pwN l.length % 1000003) % 1000003 * 257 + c.toNat + 1) % 1000003 = prN (l ++ [c]) := by
  have hlt : (g.toNat + 1) * pwN l.length % 1000003 < 1000003 := Nat.mod_lt _ (by decide)
  have hle : (g.toNat + 1) * pwN l.length % 1000003 ≤ 1000003 * m := by omega
  have e : prN (g :: l) + 1000003 * m - (g.toNat + 1) * pwN l.length % 1000003 = prN (g :: l) + (1000003 * m - (g.toNat + 1) * pwN l.length % 1000003) := by omega
  rw [e, drop_first g l _ (away _ m hle), prN_snoc]
  rfl

/-! ### Pieces -/
/-- The piece of k bytes at a place. -/
def pieceL (s : List UInt8) (k i : Nat) : List UInt8 := (s.drop i).take k

theorem pieceL_len (s : List UInt8) (k i : Nat) (h : i + k ≤ s.length) : (pieceL s k i).length = k := by
  rw [pieceL, List.length_take, List.length_drop]; omega
theorem pieceL_cons (s : List UInt8) (k i : Nat) (h : i < s.length) : pieceL s (k + 1) i = s[i] :: (s.drop (i + 1)).take k := by
  rw [pieceL, List.drop_eq_getElem_cons h, List.take_succ_cons]
theorem pieceL_snoc (s : List UInt8) (k i : Nat) (h : i + (k + 1) < s.length) : pieceL s (k + 1) (i + 1) = (s.drop (i + 1)).take k ++ [s[i + (k + 1)]] := by
  have hl : k < (s.drop (i + 1)).length := by rw [List.length_drop]; omega
  rw [pieceL, List.take_succ_eq_append_getElem hl]
  congr 2
  rw [List.getElem_drop]
  congr 1
  omega

/-- A piece that is rolled on is the next one. -/
theorem roll_piece (s : List UInt8) (k i m : Nat) (hk : 0 < k) (h : i + k < s.length) (hm : 0 < m) :
    ((prN (pieceL s k i) + 1000003 * m - (s[i].toNat + 1) * pwN (k - 1) % 1000003) % 1000003 * 257 + s[i + k].toNat + 1) % 1000003 = prN (pieceL s k (i + 1)) := by
  obtain ⟨k, rfl⟩ : ∃ j, k = j + 1 := ⟨k - 1, by omega⟩
  have hl : ((s.drop (i + 1)).take k).length = k := by rw [List.length_take, List.length_drop]; omega
  rw [pieceL_cons s k i (by omega), pieceL_snoc s k i h]
  have := roll_eq s[i] ((s.drop (i + 1)).take k) s[i + (k + 1)] m hm
  rw [hl] at this
  exact this

/-- The fingerprints of the first m pieces. -/
def printsTo (s : List UInt8) (k : Nat) : Nat → List Int
  | 0 => []
  | m + 1 => printsTo s k m ++ [(prN (pieceL s k m) : Int)]
/-- The fingerprints of all pieces. -/
def printsL (s : List UInt8) (k : Int) : List Int := if k < 1 ∨ (s.length : Int) < k then [] else printsTo s k.toNat (s.length - k.toNat + 1)

theorem printsTo_len (s : List UInt8) (k m : Nat) : (printsTo s k m).length = m := by
  induction m with
  | zero => rfl
  | succ m ih => simp [printsTo, ih]
theorem printsTo_get (s : List UInt8) (k m i : Nat) (h : i < m) : (printsTo s k m).getD i 0 = (prN (pieceL s k i) : Int) := by
  induction m with
  | zero => omega
  | succ m ih =>
    simp only [printsTo, List.getD]
    by_cases hi : i < m
    · rw [List.getElem?_append_left (by rw [printsTo_len]; exact hi)]
      exact ih hi
    · obtain rfl : i = m := by omega
      rw [List.getElem?_append_right (by rw [printsTo_len]; exact Nat.le_refl _), printsTo_len]
      simp

/-- The places ahead of m at which a piece is. -/
def findTo (s p : List UInt8) : Nat → List Int
  | 0 => []
  | m + 1 => if pieceL s p.length m = p then findTo s p m ++ [(m : Int)] else findTo s p m
def findL (s p : List UInt8) : List Int := if p.length < 1 ∨ s.length < p.length then [] else findTo s p (s.length - p.length + 1)

/-! ### Powers by squares -/
/-- One round of the way by squares: what is out times what is left. -/
theorem sq_even (o b n : Nat) (h : n % 2 = 0) : Eqm (o * (b * b % 1000003) ^ (n / 2)) (o * b ^ n) := by
  have e : b ^ n = (b * b) ^ (n / 2) := by
    have : n = 2 * (n / 2) := by omega
    conv => lhs; rw [this, Nat.pow_mul, Nat.pow_two]
  rw [e]
  refine (Eqm.refl o).mul ?_
  unfold Eqm
  exact (Nat.pow_mod (b * b) (n / 2) 1000003).symm
theorem sq_odd (o b n : Nat) (h : n % 2 = 1) : Eqm (o * b % 1000003 * (b * b % 1000003) ^ (n / 2)) (o * b ^ n) := by
  have h2 := sq_even (o * b % 1000003) b (n - 1) (by omega)
  have e1 : (n - 1) / 2 = n / 2 := by omega
  rw [e1] at h2
  refine h2.trans (((Eqm.rest _).mul (Eqm.refl _)).trans ?_)
  have e2 : o * b * b ^ (n - 1) = o * b ^ n := by
    have : n = (n - 1) + 1 := by omega
    conv => rhs; rw [this, Nat.pow_succ]
    rw [Nat.mul_assoc, Nat.mul_comm b]
  rw [e2]
  exact Eqm.refl _

end Go.Proofs.Ytehppjilnacjlaa
