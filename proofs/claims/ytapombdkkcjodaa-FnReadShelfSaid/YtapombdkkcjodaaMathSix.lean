/-
  Plain mathematics of chapter 6, shelves in bytes: numbers in bytes of seven bits, texts of shelves, how they are read. No conditions.
-/
import Init.Data.List.Lemmas
import Init.Omega
import Derived.Test.YtapombdkkcjodaaMathShelf
namespace Go.Proofs.Ytapombdkkcjodaa

/-! ### Plain mathematics of numbers in bytes of seven bits, the lowest ones first, with no more bytes than needed. No conditions. -/
/-- The bytes of a number. -/
def putN (n : Nat) : List Nat := if n < 128 then [n] else (n % 128 + 128) :: putN (n / 128)
termination_by n
theorem putN_small {n : Nat} (h : n < 128) : putN n = [n] := by rw [putN, if_pos h]
theorem putN_great {n : Nat} (h : ¬ n < 128) : putN n = (n % 128 + 128) :: putN (n / 128) := by rw [putN, if_neg h]
theorem putN_len (n : Nat) : 1 ≤ (putN n).length := by
  rw [putN]; split <;> simp
theorem putN_most (f n : Nat) (h : n < 128 ^ (f + 1)) : (putN n).length ≤ f + 1 := by
  induction f generalizing n with
  | zero => rw [putN_small (by simpa using h)]; simp
  | succ f ih =>
    by_cases hs : n < 128
    · rw [putN_small hs]; simp
    · rw [putN_great hs, List.length_cons]
      have := ih (n / 128) (by rw [Nat.pow_succ] at h; exact Nat.div_lt_of_lt_mul (by rw [Nat.mul_comm]; exact h))
      omega
theorem putN_bytes (n : Nat) : ∀ b ∈ putN n, b < 256 := by
  induction n using Nat.strongRecOn with
  | _ n ih =>
    intro b hb
    by_cases hs : n < 128
    · rw [putN_small hs, List.mem_singleton] at hb; omega
    · rw [putN_great hs, List.mem_cons] at hb
      rcases hb with rfl | hb
      · omega
      · exact ih (n / 128) (by omega) b hb

/-- The number at the beginning of bytes, and how many it has: at most f, the last one not 0 if there is one ahead. -/
def takeN : Nat → Bool → List Nat → Option (Nat × Nat)
  | 0, _, _ => none
  | _ + 1, _, [] => none
  | f + 1, first, b :: s => if b < 128 then (if b = 0 ∧ first = false then none else some (b, 1)) else
    match takeN f false s with
    | none => none
    | some (n, c) => some (b % 128 + 128 * n, c + 1)

theorem takeN_put (f n : Nat) (first : Bool) (s : List Nat) (h : n < 128 ^ (f + 1)) (h0 : first = false → 0 < n) : takeN (f + 1) first (putN n ++ s) = some (n, (putN n).length) := by
  induction f generalizing n first with
  | zero =>
    have hs : n < 128 := by simpa using h
    rw [putN_small hs]
    simp only [List.singleton_append, takeN, if_pos hs, List.length_singleton]
    rw [if_neg]
    rintro ⟨rfl, hf⟩
    have := h0 hf
    omega
  | succ f ih =>
    by_cases hs : n < 128
    · rw [putN_small hs]
      simp only [List.singleton_append, takeN, if_pos hs, List.length_singleton]
      rw [if_neg]
      rintro ⟨rfl, hf⟩
      have := h0 hf
      omega
    · rw [putN_great hs, List.cons_append, takeN, if_neg (by omega), ih (n / 128) false (by rw [Nat.pow_succ] at h; exact Nat.div_lt_of_lt_mul (by rw [Nat.mul_comm]; exact h)) (fun _ => by omega)]
      simp only [List.length_cons]
      congr 2
      omega

theorem takeN_is (f : Nat) (first : Bool) (s : List Nat) (n c : Nat) (hb : ∀ b ∈ s, b < 256) (h : takeN f first s = some (n, c)) : c ≤ s.length ∧ 1 ≤ c ∧ s.take c = putN n ∧ n < 128 ^ f ∧ (first = false → 0 < n) := by
  induction f generalizing first s n c with
  | zero => simp [takeN] at h
  | succ f ih =>
    cases s with
    | nil => simp [takeN] at h
    | cons b s =>
      simp only [takeN] at h
      have hb1 := hb b (by simp)
      split at h
      · rename_i hs
        split at h
        · cases h
        · rename_i hz
          simp only [Option.some.injEq, Prod.mk.injEq] at h
          obtain ⟨rfl, rfl⟩ := h
          refine ⟨by simp, Nat.le_refl _, by rw [putN_small hs]; simp, ?_, fun hf => ?_⟩
          · exact Nat.lt_of_lt_of_le hs (by rw [Nat.pow_succ]; exact Nat.le_mul_of_pos_left _ (Nat.pow_pos (by decide)))
          · rcases Nat.eq_zero_or_pos b with h0 | h0
            · exact absurd ⟨h0, hf⟩ hz
            · exact h0
      · rename_i hs
        cases hr : takeN f false s with
        | none => rw [hr] at h; simp at h
        | some p =>
          obtain ⟨m, d⟩ := p
          rw [hr] at h
          simp only [Option.some.injEq, Prod.mk.injEq] at h
          obtain ⟨rfl, rfl⟩ := h
          obtain ⟨h1, h2, h3, h4, h5⟩ := ih false s m d (fun b hb2 => hb b (by simp [hb2])) hr
          have hm := h5 rfl
          have hg : ¬ b % 128 + 128 * m < 128 := by omega
          refine ⟨by simp; omega, by omega, ?_, ?_, fun _ => by omega⟩
          · rw [putN_great hg, List.take_succ_cons, h3]
            congr 1
            · omega
            · congr 1; omega
          · rw [Nat.pow_succ]
            omega

theorem putN_inj {m n : Nat} {s t : List Nat} (h : putN m ++ s = putN n ++ t) : m = n ∧ s = t := by
  obtain ⟨f, hm, hn⟩ : ∃ f, m < 128 ^ (f + 1) ∧ n < 128 ^ (f + 1) := by
    refine ⟨m + n, ?_, ?_⟩
    · exact Nat.lt_of_lt_of_le (Nat.lt_pow_self (by decide)) (Nat.pow_le_pow_right (by decide) (by omega))
    · exact Nat.lt_of_lt_of_le (Nat.lt_pow_self (by decide)) (Nat.pow_le_pow_right (by decide) (by omega))
  have h1 := takeN_put f m true s hm (by simp)
  have h2 := takeN_put f n true t hn (by simp)
  rw [h] at h1
  rw [h1] at h2
  simp only [Option.some.injEq, Prod.mk.injEq] at h2
  obtain ⟨rfl, _⟩ := h2
  exact ⟨rfl, List.append_cancel_left h⟩

/-! ### Plain mathematics of shelves in bytes: what is written for each entry, that it is read back in one way, and that no text of a shelf begins that of another one. No conditions. -/
/-- The three numbers that are written of an entry behind another one (none: the first one). -/
def dif (last : Option En) (x : En) : Nat × Nat × Nat :=
  match last with
  | none => (x.1.toNat, x.2.1.toNat, x.2.2.toNat)
  | some y => if x.1 = y.1 then (if x.2.1 = y.2.1 then (0, 0, (x.2.2 - (y.2.2 + 1)).toNat) else (0, (x.2.1 - y.2.1).toNat, x.2.2.toNat)) else ((x.1 - y.1).toNat, x.2.1.toNat, x.2.2.toNat)
/-- The entry of three numbers. -/
def undif (last : Option En) (t : Nat × Nat × Nat) : En :=
  match last with
  | none => (t.1, t.2.1, t.2.2)
  | some y => if t.1 = 0 then (if t.2.1 = 0 then (y.1, y.2.1, y.2.2 + 1 + t.2.2) else (y.1, y.2.1 + t.2.1, t.2.2)) else (y.1 + t.1, t.2.1, t.2.2)
/-- An entry may come behind another one. -/
def behind (last : Option En) (x : En) : Prop := enOk x ∧ ∀ y, last = some y → enLt y x

theorem undif_dif {last : Option En} {x : En} (h : behind last x) : undif last (dif last x) = x := by
  obtain ⟨⟨h1, h2, h3, h4⟩, h5⟩ := h
  obtain ⟨p, d, a⟩ := x
  simp only at h1 h2 h3 h4
  cases last with
  | none => simp only [dif, undif, Prod.mk.injEq]; omega
  | some y =>
    have h6 := h5 y rfl
    obtain ⟨p', d', a'⟩ := y
    simp only [enLt] at h6
    simp only [dif]
    by_cases e1 : p = p'
    · by_cases e2 : d = d'
      · rw [if_pos e1, if_pos e2]
        simp only [undif, if_true, Prod.mk.injEq]
        omega
      · rw [if_pos e1, if_neg e2]
        simp only [undif, if_true]
        rw [if_neg (by omega)]
        simp only [Prod.mk.injEq]
        omega
    · rw [if_neg e1]
      simp only [undif]
      rw [if_neg (by omega)]
      simp only [Prod.mk.injEq]
      omega
theorem dif_undif {last : Option En} {t : Nat × Nat × Nat} : dif last (undif last t) = t := by
  obtain ⟨p, d, a⟩ := t
  cases last with
  | none => simp [dif, undif]
  | some y =>
    obtain ⟨p', d', a'⟩ := y
    simp only [undif]
    by_cases e1 : p = 0
    · subst e1
      by_cases e2 : d = 0
      · subst e2
        rw [if_pos rfl, if_pos rfl]
        simp only [dif, if_true, Prod.mk.injEq, true_and]
        omega
      · rw [if_pos rfl, if_neg e2]
        simp only [dif, if_true]
        rw [if_neg (by omega)]
        simp only [Prod.mk.injEq, true_and]
        omega
    · rw [if_neg e1]
      simp only [dif]
      rw [if_neg (by omega)]
      simp only [Prod.mk.injEq]
      omega

/-- What is written of entries. -/
def put3 (t : Nat × Nat × Nat) : List Nat := putN t.1 ++ (putN t.2.1 ++ putN t.2.2)
def encE (last : Option En) : List En → List Nat
  | [] => []
  | x :: l => put3 (dif last x) ++ encE (some x) l
def textE (l : List En) : List Nat := putN l.length ++ encE none l

theorem put3_inj {t u : Nat × Nat × Nat} {r s : List Nat} (h : put3 t ++ r = put3 u ++ s) : t = u ∧ r = s := by
  obtain ⟨a, b, c⟩ := t
  obtain ⟨d, e, f⟩ := u
  simp only [put3, List.append_assoc] at h
  obtain ⟨e1, h1⟩ := putN_inj h
  obtain ⟨e2, h2⟩ := putN_inj h1
  obtain ⟨e3, h3⟩ := putN_inj h2
  subst e1 e2 e3
  exact ⟨rfl, h3⟩
theorem put3_len (t : Nat × Nat × Nat) : 3 ≤ (put3 t).length := by
  have h1 := putN_len t.1
  have h2 := putN_len t.2.1
  have h3 := putN_len t.2.2
  simp only [put3, List.length_append]
  omega
theorem encE_len (last : Option En) (l : List En) : 3 * l.length ≤ (encE last l).length := by
  induction l generalizing last with
  | nil => simp
  | cons x l ih =>
    have h1 := ih (some x)
    have h2 := put3_len (dif last x)
    rw [encE, List.length_append, List.length_cons]
    omega
theorem textE_len (l : List En) : 1 + 3 * l.length ≤ (textE l).length := by
  have h1 := putN_len l.length
  have h2 := encE_len none l
  rw [textE, List.length_append]
  omega
/-- Entries in order behind one. -/
def chainE (last : Option En) : List En → Prop
  | [] => True
  | x :: l => behind last x ∧ chainE (some x) l
theorem encE_inj {l m : List En} {last : Option En} {r s : List Nat} (hl : chainE last l) (hm : chainE last m) (he : l.length = m.length) (h : encE last l ++ r = encE last m ++ s) : l = m ∧ r = s := by
  induction l generalizing m last with
  | nil =>
    cases m with
    | nil => exact ⟨rfl, h⟩
    | cons y m => simp at he
  | cons x l ih =>
    cases m with
    | nil => simp at he
    | cons y m =>
      simp only [encE, List.append_assoc] at h
      obtain ⟨h1, h2⟩ := put3_inj h
      have e1 := undif_dif hl.1
      have e2 := undif_dif hm.1
      rw [h1, e2] at e1
      subst e1
      obtain ⟨rfl, rfl⟩ := ih hl.2 hm.2 (by simpa using he) h2
      exact ⟨rfl, rfl⟩
theorem chainE_of {l : List En} {last : Option En} (h : ∀ x ∈ l, enOk x) (hp : l.Pairwise enLt) (hb : ∀ y, last = some y → ∀ x ∈ l, enLt y x) : chainE last l := by
  induction l generalizing last with
  | nil => trivial
  | cons x l ih =>
    rw [List.pairwise_cons] at hp
    exact ⟨⟨h x (by simp), fun y hy => hb y hy x (by simp)⟩, ih (fun z hz => h z (by simp [hz])) hp.2 (fun y hy z hz => by injection hy with hy; subst hy; exact hp.1 z hz)⟩
theorem chainE_ok {l : List En} (h : shOk l) : chainE none l := chainE_of h.1 h.2 (fun y hy => by cases hy)
theorem chainE_back {l : List En} {last : Option En} (h : chainE last l) : (∀ x ∈ l, enOk x) ∧ l.Pairwise enLt ∧ ∀ y, last = some y → ∀ x ∈ l, enLt y x := by
  induction l generalizing last with
  | nil => exact ⟨by simp, .nil, by simp⟩
  | cons x l ih =>
    obtain ⟨⟨h1, h2⟩, h3⟩ := h
    obtain ⟨h4, h5, h6⟩ := ih h3
    refine ⟨fun z hz => ?_, List.pairwise_cons.2 ⟨h6 x rfl, h5⟩, fun y hy z hz => ?_⟩
    · rcases List.mem_cons.1 hz with rfl | hz
      · exact h1
      · exact h4 z hz
    · rcases List.mem_cons.1 hz with rfl | hz
      · exact h2 y hy
      · exact enLt_trans (h2 y hy) (h6 x rfl z hz)
/-- No text of a shelf begins that of another one, and each is that of one alone. -/
theorem textE_inj {l m : List En} {r s : List Nat} (hl : shOk l) (hm : shOk m) (h : textE l ++ r = textE m ++ s) : l = m ∧ r = s := by
  simp only [textE, List.append_assoc] at h
  obtain ⟨h1, h2⟩ := putN_inj h
  exact encE_inj (chainE_ok hl) (chainE_ok hm) h1 h2

/-- The last one of a row, or the one ahead of it. -/
def lastE : Option En → List En → Option En
  | last, [] => last
  | _, x :: l => lastE (some x) l
theorem lastE_snoc (last : Option En) (l : List En) (x : En) : lastE last (l ++ [x]) = some x := by
  induction l generalizing last with
  | nil => rfl
  | cons y l ih => exact ih (some y)
/-- What is written of a row, and one entry more. -/
theorem encE_snoc (last : Option En) (l : List En) (x : En) : encE last (l ++ [x]) = encE last l ++ put3 (dif (lastE last l) x) := by
  induction l generalizing last with
  | nil => simp [encE, lastE]
  | cons y l ih => rw [List.cons_append, encE, ih, encE, List.append_assoc, lastE]
theorem encE_app (last : Option En) (l m : List En) : encE last (l ++ m) = encE last l ++ encE (lastE last l) m := by
  induction l generalizing last with
  | nil => rfl
  | cons y l ih => rw [List.cons_append, encE, ih, encE, List.append_assoc, lastE]
theorem chainE_app {last : Option En} {l m : List En} : chainE last (l ++ m) ↔ chainE last l ∧ chainE (lastE last l) m := by
  induction l generalizing last with
  | nil => simp [chainE, lastE]
  | cons y l ih => rw [List.cons_append, chainE, ih, chainE, lastE, and_assoc]

/-! ### Plain mathematics of how a shelf is read out of bytes: number by number, with sums that a machine may have too small; what comes out of it is the shelf whose text it is, or none. No conditions. -/
/-- The number at a place, and the place behind it. -/
def at1 (s : List Nat) (at_ : Nat) : Option (Nat × Nat) := (takeN 9 true (s.drop at_)).map fun p => (p.1, at_ + p.2)
/-- Three of them. -/
def at3 (s : List Nat) (at_ : Nat) : Option ((Nat × Nat × Nat) × Nat) := (at1 s at_).bind fun p => (at1 s p.2).bind fun q => (at1 s q.2).bind fun r => some ((p.1, q.1, r.1), r.2)

theorem at1_is {s : List Nat} {i n j : Nat} (hb : ∀ b ∈ s, b < 256) (hi : i ≤ s.length) (h : at1 s i = some (n, j)) : i < j ∧ j ≤ s.length ∧ s.take j = s.take i ++ putN n ∧ n < 2 ^ 63 := by
  rw [at1, Option.map_eq_some_iff] at h
  obtain ⟨⟨m, c⟩, h1, h2⟩ := h
  simp only [Prod.mk.injEq] at h2
  obtain ⟨rfl, rfl⟩ := h2
  obtain ⟨g1, g2, g3, g4, _⟩ := takeN_is 9 true (s.drop i) m c (fun b hb2 => hb b (List.mem_of_mem_drop hb2)) h1
  rw [List.length_drop] at g1
  refine ⟨by omega, by omega, ?_, by simpa using g4⟩
  rw [List.take_add, g3]
theorem at1_put {a : List Nat} {n : Nat} {r s : List Nat} (hs : s = a ++ (putN n ++ r)) (hn : n < 2 ^ 63) : at1 s a.length = some (n, a.length + (putN n).length) := by
  subst hs
  rw [at1, List.drop_left, takeN_put 8 n true r (by simpa using hn) (by simp)]
  rfl
theorem at3_is {s : List Nat} {i j : Nat} {t : Nat × Nat × Nat} (hb : ∀ b ∈ s, b < 256) (hi : i ≤ s.length) (h : at3 s i = some (t, j)) : i < j ∧ j ≤ s.length ∧ s.take j = s.take i ++ put3 t ∧ t.1 < 2 ^ 63 ∧ t.2.1 < 2 ^ 63 ∧ t.2.2 < 2 ^ 63 := by
  simp only [at3, Option.bind_eq_some_iff] at h
  obtain ⟨⟨a, i1⟩, h1, ⟨b, i2⟩, h2, ⟨c, i3⟩, h3, h4⟩ := h
  simp only [Option.some.injEq, Prod.mk.injEq] at h4
  obtain ⟨rfl, rfl⟩ := h4
  obtain ⟨p1, p2, p3, p4⟩ := at1_is hb hi h1
  obtain ⟨q1, q2, q3, q4⟩ := at1_is hb p2 h2
  obtain ⟨r1, r2, r3, r4⟩ := at1_is hb q2 h3
  refine ⟨by simp only at *; omega, r2, ?_, p4, q4, r4⟩
  simp only at *
  rw [r3, q3, p3, put3]
  simp only [List.append_assoc]
theorem at3_put {a : List Nat} {t : Nat × Nat × Nat} {r s : List Nat} (hs : s = a ++ (put3 t ++ r)) (h1 : t.1 < 2 ^ 63) (h2 : t.2.1 < 2 ^ 63) (h3 : t.2.2 < 2 ^ 63) : at3 s a.length = some (t, a.length + (put3 t).length) := by
  obtain ⟨x, y, z⟩ := t
  simp only at h1 h2 h3
  have e1 := at1_put (a := a) (n := x) (r := putN y ++ (putN z ++ r)) (s := s) (by rw [hs]; simp only [put3, List.append_assoc]) h1
  have e2 := at1_put (a := a ++ putN x) (n := y) (r := putN z ++ r) (s := s) (by rw [hs]; simp only [put3, List.append_assoc]) h2
  have e3 := at1_put (a := a ++ putN x ++ putN y) (n := z) (r := r) (s := s) (by rw [hs]; simp only [put3, List.append_assoc]) h3
  simp only [List.length_append] at e2 e3
  simp only [at3, e1, Option.bind_some, e2, e3]
  simp only [put3, List.length_append, Nat.add_assoc]

/-- Sums as a machine has them. -/
structure Sums (W : Int → Int) : Prop where
  most : ∀ x, W x < 2 ^ 63
  keeps : ∀ x, 0 ≤ x → x < 2 ^ 63 → W x = x
  below : ∀ x, 2 ^ 63 ≤ x → x < 2 ^ 64 → W x < 0

/-- The entry of three numbers, with sums of the machine. -/
def undifW (W : Int → Int) (last : Option En) (t : Nat × Nat × Nat) : En :=
  match last with
  | none => (t.1, t.2.1, t.2.2)
  | some y => if t.1 = 0 then (if t.2.1 = 0 then (y.1, y.2.1, W (t.2.2 + (y.2.2 + 1))) else (y.1, W (t.2.1 + y.2.1), t.2.2)) else (W (y.1 + t.1), t.2.1, t.2.2)

/-- What is small enough to be a number of the program. -/
def fits (x : En) : Prop := x.1 < 2 ^ 63 ∧ x.2.1 < 2 ^ 63 ∧ x.2.2 < 2 ^ 63

theorem undifW_is {W : Int → Int} (hW : Sums W) {last : Option En} {t : Nat × Nat × Nat} (h1 : t.1 < 2 ^ 63) (h2 : t.2.1 < 2 ^ 63) (h3 : t.2.2 < 2 ^ 63) (hl : ∀ y, last = some y → enOk y ∧ fits y) (ho : enOk (undifW W last t)) : undifW W last t = undif last t ∧ fits (undifW W last t) := by
  obtain ⟨a, b, c⟩ := t
  simp only at h1 h2 h3
  cases last with
  | none =>
    refine ⟨rfl, ?_⟩
    simp only [fits, undifW]
    omega
  | some y =>
    obtain ⟨⟨k1, k2, k3, k4⟩, m1, m2, m3⟩ := hl y rfl
    obtain ⟨p, d, e⟩ := y
    simp only at k1 k2 k3 k4 m1 m2 m3
    simp only [undifW, undif] at ho ⊢
    by_cases e1 : a = 0
    · by_cases e2 : b = 0
      · rw [if_pos e1, if_pos e2] at ho ⊢
        rw [if_pos e1, if_pos e2]
        have h := ho.2.2.2
        simp only at h
        have g1 := hW.most (c + (e + 1))
        have g2 := hW.keeps (c + (e + 1)) (by omega)
        have g3 := hW.below (c + (e + 1))
        have g4 : (c : Int) + (e + 1) < 2 ^ 63 := by
          rcases Int.lt_or_le ((c : Int) + (e + 1)) (2 ^ 63) with g | g
          · exact g
          · have := g3 g (by omega)
            omega
        rw [g2 g4]
        refine ⟨Prod.ext rfl (Prod.ext rfl (by simp only; omega)), ?_⟩
        simp only [fits]
        omega
      · rw [if_pos e1, if_neg e2] at ho ⊢
        rw [if_pos e1, if_neg e2]
        have h := ho.2.2.1
        simp only at h
        have g2 := hW.keeps (b + d) (by omega)
        have g3 := hW.below (b + d)
        have g4 : (b : Int) + d < 2 ^ 63 := by
          rcases Int.lt_or_le ((b : Int) + d) (2 ^ 63) with g | g
          · exact g
          · have := g3 g (by omega)
            omega
        rw [g2 g4]
        refine ⟨Prod.ext rfl (Prod.ext (by simp only; omega) rfl), ?_⟩
        simp only [fits]
        omega
    · rw [if_neg e1] at ho ⊢
      rw [if_neg e1]
      have h := ho.1
      simp only at h
      have g2 := hW.keeps (p + a) (by omega)
      have g3 := hW.below (p + a)
      have g4 : p + (a : Int) < 2 ^ 63 := by
        rcases Int.lt_or_le (p + (a : Int)) (2 ^ 63) with g | g
        · exact g
        · have := g3 g (by omega)
          omega
      rw [g2 g4]
      refine ⟨rfl, ?_⟩
      simp only [fits]
      omega
/-- What is written of an entry is small, and is the entry again, also with the machine's sums. -/
theorem undifW_dif {W : Int → Int} (hW : Sums W) {last : Option En} {x : En} (h : behind last x) (hf : fits x) (hl : ∀ y, last = some y → enOk y) : undifW W last (dif last x) = x ∧ (dif last x).1 < 2 ^ 63 ∧ (dif last x).2.1 < 2 ^ 63 ∧ (dif last x).2.2 < 2 ^ 63 := by
  have h0 := undif_dif h
  obtain ⟨⟨h1, h2, h3, h4⟩, h5⟩ := h
  obtain ⟨f1, f2, f3⟩ := hf
  cases last with
  | none =>
    obtain ⟨p, d, a⟩ := x
    simp only at *
    refine ⟨h0, ?_⟩
    simp only [dif]
    omega
  | some y =>
    have h6 := h5 y rfl
    obtain ⟨k1, k2, k3, k4⟩ := hl y rfl
    obtain ⟨p, d, a⟩ := x
    obtain ⟨p', d', a'⟩ := y
    simp only at *
    simp only [enLt] at h6
    simp only [dif]
    by_cases e1 : p = p'
    · by_cases e2 : d = d'
      · rw [if_pos e1, if_pos e2]
        simp only [undifW, if_true]
        rw [hW.keeps _ (by omega) (by omega)]
        refine ⟨by simp only [Prod.mk.injEq]; omega, by omega⟩
      · rw [if_pos e1, if_neg e2]
        simp only [undifW, if_true]
        rw [if_neg (by omega), hW.keeps _ (by omega) (by omega)]
        refine ⟨by simp only [Prod.mk.injEq]; omega, by omega⟩
    · rw [if_neg e1]
      simp only [undifW]
      rw [if_neg (by omega), hW.keeps _ (by omega) (by omega)]
      refine ⟨by simp only [Prod.mk.injEq]; omega, by omega⟩

/-- What is read of k entries, and the place behind them. -/
def readM (W : Int → Int) (s : List Nat) (i : Nat) : Nat → Option (List En × Nat)
  | 0 => some ([], i)
  | k + 1 => (readM W s i k).bind fun st => (at3 s st.2).bind fun p => some (st.1 ++ [undifW W (lastE none st.1) p.1], p.2)
theorem readM_next {W : Int → Int} {s : List Nat} {i k : Nat} {l : List En} {j : Nat} (h : readM W s i k = some (l, j)) : readM W s i (k + 1) = (at3 s j).bind fun p => some (l ++ [undifW W (lastE none l) p.1], p.2) := by
  rw [readM, h]; rfl
theorem readM_none {W : Int → Int} {s : List Nat} {i k m : Nat} (hk : k ≤ m) (h : readM W s i k = none) : readM W s i m = none := by
  induction m with
  | zero => obtain rfl : k = 0 := by omega
            exact h
  | succ m ih =>
    by_cases hm : k = m + 1
    · subst hm; exact h
    · rw [readM, ih (by omega)]; rfl

theorem lastE_mem {l : List En} {last : Option En} {y : En} (h : lastE last l = some y) : last = some y ∨ y ∈ l := by
  induction l generalizing last with
  | nil => exact .inl h
  | cons x l ih =>
    rcases ih h with h | h
    · injection h with h; subst h; exact .inr (by simp)
    · exact .inr (by simp [h])

theorem readM_is {W : Int → Int} (hW : Sums W) {s : List Nat} {i k : Nat} {l : List En} {j : Nat} (hb : ∀ b ∈ s, b < 256) (hi : i ≤ s.length) (h : readM W s i k = some (l, j)) : l.length = k ∧ i ≤ j ∧ j ≤ s.length ∧ ((∀ x ∈ l, enOk x) → s.take j = s.take i ++ encE none l ∧ ∀ x ∈ l, fits x) := by
  induction k generalizing l j with
  | zero =>
    simp only [readM, Option.some.injEq, Prod.mk.injEq] at h
    obtain ⟨rfl, rfl⟩ := h
    refine ⟨rfl, Nat.le_refl _, hi, fun _ => ⟨?_, by simp⟩⟩
    simp [encE]
  | succ k ih =>
    rw [readM] at h
    simp only [Option.bind_eq_some_iff] at h
    obtain ⟨⟨l0, j0⟩, h1, ⟨t, j1⟩, h2, h3⟩ := h
    simp only [Option.some.injEq, Prod.mk.injEq] at h3
    obtain ⟨rfl, rfl⟩ := h3
    obtain ⟨a1, a2, a3, a4⟩ := ih h1
    obtain ⟨b1, b2, b3, b4, b5, b6⟩ := at3_is hb a3 h2
    simp only at *
    refine ⟨by simp [a1], by omega, b2, fun ho => ?_⟩
    obtain ⟨c1, c2⟩ := a4 (fun x hx => ho x (by simp [hx]))
    obtain ⟨d1, d2⟩ := undifW_is hW b4 b5 b6 (last := lastE none l0) (fun y hy => by
      rcases lastE_mem hy with h | h
      · cases h
      · exact ⟨ho y (by simp [h]), c2 y h⟩) (ho _ (by simp))
    refine ⟨?_, fun x hx => ?_⟩
    · rw [encE_snoc, b3, c1, d1, dif_undif, List.append_assoc]
    · rcases List.mem_append.1 hx with h | h
      · exact c2 x h
      · rw [List.mem_singleton] at h; subst h; exact d2

theorem readM_text {W : Int → Int} (hW : Sums W) {s : List Nat} {l : List En} {a r : List Nat} (hl : shOk l) (hf : ∀ x ∈ l, fits x) (hs : s = a ++ (encE none l ++ r)) (k : Nat) (hk : k ≤ l.length) : readM W s a.length k = some (l.take k, a.length + (encE none (l.take k)).length) := by
  induction k with
  | zero => simp [readM, encE]
  | succ k ih =>
    have hk' : k < l.length := by omega
    rw [readM_next (ih (by omega))]
    have hx : l.take (k + 1) = l.take k ++ [l[k]] := by rw [List.take_add_one, List.getElem?_eq_getElem hk']; rfl
    have hc := chainE_ok hl
    have hsp : l = l.take k ++ l[k] :: l.drop (k + 1) := by rw [← List.drop_eq_getElem_cons hk', List.take_append_drop]
    rw [hsp, chainE_app] at hc
    obtain ⟨e1, e2, e3, e4⟩ := undifW_dif hW hc.2.1 (hf _ (List.getElem_mem hk')) (fun y hy => by
      rcases lastE_mem hy with h | h
      · cases h
      · exact hl.1 y (List.mem_of_mem_take h))
    have hp := at3_put (a := a ++ encE none (l.take k)) (t := dif (lastE none (l.take k)) l[k]) (r := encE (some l[k]) (l.drop (k + 1)) ++ r) (s := s) (by
      rw [hs]
      conv => lhs; rw [hsp, encE_app, encE]
      simp only [List.append_assoc]) e2 e3 e4
    rw [List.length_append] at hp
    rw [hp, Option.bind_some, e1, hx, encE_snoc, List.length_append, Nat.add_assoc]

instance (l : List En) : Decidable (shOk l) := by unfold shOk; infer_instance
/-- The shelf that is read, or none. -/
def readS (W : Int → Int) (s : List Nat) : Option (List En) :=
  (at1 s 0).bind fun p => if s.length < p.1 then none else (readM W s p.2 p.1).bind fun q => if q.2 = s.length ∧ shOk q.1 then some q.1 else none

theorem readS_iff {W : Int → Int} (hW : Sums W) {s : List Nat} (hb : ∀ b ∈ s, b < 256) (l : List En) : readS W s = some l ↔ (shOk l ∧ (∀ x ∈ l, fits x) ∧ l.length < 2 ^ 63 ∧ textE l = s) := by
  constructor
  · intro h
    simp only [readS, Option.bind_eq_some_iff] at h
    obtain ⟨⟨m, i⟩, h1, h2⟩ := h
    obtain ⟨a1, a2, a3, a4⟩ := at1_is hb (Nat.zero_le _) h1
    simp only at h2
    split at h2
    · cases h2
    · rw [Option.bind_eq_some_iff] at h2
      obtain ⟨⟨l1, j⟩, h3, h4⟩ := h2
      simp only at h4
      split at h4
      · rename_i h5
        simp only [Option.some.injEq] at h4
        subst h4
        obtain ⟨b1, b2, b3, b4⟩ := readM_is hW hb a2 h3
        obtain ⟨c1, c2⟩ := b4 h5.2.1
        refine ⟨h5.2, c2, by omega, ?_⟩
        have e := h5.1
        rw [e, List.take_length, a3, List.take_zero, List.nil_append] at c1
        rw [c1, textE, b1]
      · cases h4
  · rintro ⟨h1, h2, h3, h4⟩
    have e1 := at1_put (a := []) (n := l.length) (r := encE none l) (s := s) (by rw [List.nil_append, ← h4, textE]) h3
    have e2 := readM_text hW (a := putN l.length) (r := []) (s := s) h1 h2 (by rw [← h4, textE, List.append_nil]) l.length (Nat.le_refl _)
    have e3 := textE_len l
    rw [List.take_length] at e2
    have e4 : s.length = (putN l.length).length + (encE none l).length := by rw [← h4, textE, List.length_append]
    simp only [List.length_nil, Nat.zero_add] at e1
    rw [h4] at e3
    rw [readS, e1, Option.bind_some]
    dsimp only
    rw [if_neg (by omega), e2, Option.bind_some, if_pos ⟨e4.symm, h1⟩]

theorem readS_text {W : Int → Int} (hW : Sums W) {l : List En} (h : shOk l) (hf : ∀ x ∈ l, fits x) (hn : l.length < 2 ^ 63) (hb : ∀ b ∈ textE l, b < 256) : readS W (textE l) = some l := (readS_iff hW hb l).2 ⟨h, hf, hn, rfl⟩

/-! ### Plain mathematics of how a number is put into bytes and taken out of them, byte by byte. No conditions. -/
/-- What the first bytes are worth. -/
def valN (s : List Nat) : Nat → Nat
  | 0 => 0
  | i + 1 => valN s i + s.getD i 0 % 128 * 128 ^ i
theorem valN_lt (s : List Nat) (i : Nat) : valN s i < 128 ^ i := by
  induction i with
  | zero => simp [valN]
  | succ i ih =>
    have h : s.getD i 0 % 128 ≤ 127 := by omega
    have h2 : s.getD i 0 % 128 * 128 ^ i ≤ 127 * 128 ^ i := Nat.mul_le_mul_right _ h
    rw [valN, Nat.pow_succ]
    omega
theorem takeN_none (f : Nat) (first : Bool) : takeN f first [] = none := by cases f <;> rfl
theorem takeN_from (f : Nat) (s : List Nat) (i : Nat) (hi : i ≤ f) (hs : i ≤ s.length) (h : ∀ j, j < i → 128 ≤ s.getD j 0) : takeN f true s = (takeN (f - i) (decide (i = 0)) (s.drop i)).map fun p => (valN s i + 128 ^ i * p.1, i + p.2) := by
  induction i with
  | zero =>
    simp only [Nat.sub_zero, List.drop_zero, valN, Nat.pow_zero, Nat.zero_add, Nat.one_mul, decide_true]
    cases takeN f true s <;> rfl
  | succ i ih =>
    have hi' : i < s.length := by omega
    rw [ih (by omega) (by omega) (fun j hj => h j (by omega)), List.drop_eq_getElem_cons hi']
    have hb := h i (by omega)
    have hg : s.getD i 0 = s[i] := by rw [List.getD_eq_getElem?_getD, List.getElem?_eq_getElem hi']; rfl
    rw [hg] at hb
    obtain ⟨g, hg2⟩ : ∃ g, f - i = g + 1 := ⟨f - i - 1, by omega⟩
    have hg3 : f - (i + 1) = g := by omega
    rw [hg2, hg3, takeN, if_neg (by omega), show decide (i + 1 = 0) = false by simp]
    cases takeN g false (s.drop (i + 1)) with
    | none => rfl
    | some p =>
      simp only [Option.map_some, Option.some.injEq, Prod.mk.injEq]
      refine ⟨?_, by omega⟩
      rw [valN, hg, Nat.mul_add, Nat.pow_succ, Nat.mul_comm (s[i] % 128), Nat.mul_assoc, Nat.add_assoc]
theorem takeN_out {f : Nat} {s : List Nat} {i : Nat} (hi : i ≤ f) (hs : i ≤ s.length) (h : ∀ j, j < i → 128 ≤ s.getD j 0) (he : i = f ∨ i = s.length) : takeN f true s = none := by
  rw [takeN_from f s i hi hs h]
  rcases he with rfl | rfl
  · rw [Nat.sub_self]; rfl
  · rw [List.drop_length, takeN_none]; rfl
theorem takeN_zero {f : Nat} {s : List Nat} {i : Nat} (hi : i < f) (hs : i < s.length) (h : ∀ j, j < i → 128 ≤ s.getD j 0) (h0 : 0 < i) (hz : s.getD i 0 = 0) : takeN f true s = none := by
  have hg : s.getD i 0 = s[i] := by rw [List.getD_eq_getElem?_getD, List.getElem?_eq_getElem hs]; rfl
  rw [hg] at hz
  obtain ⟨g, hg2⟩ : ∃ g, f - i = g + 1 := ⟨f - i - 1, by omega⟩
  rw [takeN_from f s i (by omega) (by omega) h, List.drop_eq_getElem_cons hs, hg2, takeN, if_pos (by omega), if_pos ⟨hz, by simp; omega⟩]
  rfl
theorem takeN_end {f : Nat} {s : List Nat} {i : Nat} (hi : i < f) (hs : i < s.length) (h : ∀ j, j < i → 128 ≤ s.getD j 0) (hl : s.getD i 0 < 128) (hz : s.getD i 0 = 0 → i = 0) : takeN f true s = some (valN s (i + 1), i + 1) := by
  have hg : s.getD i 0 = s[i] := by rw [List.getD_eq_getElem?_getD, List.getElem?_eq_getElem hs]; rfl
  obtain ⟨g, hg2⟩ : ∃ g, f - i = g + 1 := ⟨f - i - 1, by omega⟩
  rw [takeN_from f s i (by omega) (by omega) h, List.drop_eq_getElem_cons hs, hg2, takeN, if_pos (by rw [← hg]; exact hl), if_neg]
  · simp only [Option.map_some, Option.some.injEq, Prod.mk.injEq, and_true]
    rw [valN, hg, Nat.mod_eq_of_lt (by rw [← hg]; exact hl), Nat.mul_comm]
  · rintro ⟨h1, h2⟩
    rw [hg] at hz
    exact absurd (hz h1) (by simpa using h2)

/-- The same at a place of a text. -/
theorem at1_out {s : List Nat} {p i : Nat} (hi : i ≤ 9) (hs : p + i ≤ s.length) (h : ∀ j, j < i → 128 ≤ s.getD (p + j) 0) (he : i = 9 ∨ p + i = s.length) : at1 s p = none := by
  rw [at1, takeN_out (i := i) hi (by rw [List.length_drop]; omega) (fun j hj => by rw [List.getD_eq_getElem?_getD, List.getElem?_drop, ← List.getD_eq_getElem?_getD]; exact h j hj) (by rw [List.length_drop]; omega)]
  rfl
theorem at1_past {s : List Nat} {p : Nat} (h : s.length ≤ p) : at1 s p = none := by
  rw [at1, List.drop_eq_nil_of_le h, takeN_none]; rfl
theorem at1_zero {s : List Nat} {p i : Nat} (hi : i < 9) (hs : p + i < s.length) (h : ∀ j, j < i → 128 ≤ s.getD (p + j) 0) (h0 : 0 < i) (hz : s.getD (p + i) 0 = 0) : at1 s p = none := by
  rw [at1, takeN_zero (i := i) hi (by rw [List.length_drop]; omega) (fun j hj => by rw [List.getD_eq_getElem?_getD, List.getElem?_drop, ← List.getD_eq_getElem?_getD]; exact h j hj) h0 (by rw [List.getD_eq_getElem?_getD, List.getElem?_drop, ← List.getD_eq_getElem?_getD]; exact hz)]
  rfl
theorem at1_end {s : List Nat} {p i : Nat} (hi : i < 9) (hs : p + i < s.length) (h : ∀ j, j < i → 128 ≤ s.getD (p + j) 0) (hl : s.getD (p + i) 0 < 128) (hz : s.getD (p + i) 0 = 0 → i = 0) : at1 s p = some (valN (s.drop p) (i + 1), p + i + 1) := by
  rw [at1, takeN_end (i := i) hi (by rw [List.length_drop]; omega) (fun j hj => by rw [List.getD_eq_getElem?_getD, List.getElem?_drop, ← List.getD_eq_getElem?_getD]; exact h j hj) (by rw [List.getD_eq_getElem?_getD, List.getElem?_drop, ← List.getD_eq_getElem?_getD]; exact hl) (by rw [List.getD_eq_getElem?_getD, List.getElem?_drop, ← List.getD_eq_getElem?_getD]; exact hz)]
  rfl
/-- What the first bytes from a place on are worth, and one byte more. -/
theorem valN_next (s : List Nat) (p i : Nat) : valN (s.drop p) (i + 1) = valN (s.drop p) i + s.getD (p + i) 0 % 128 * 128 ^ i := by
  rw [valN, List.getD_eq_getElem?_getD (l := s.drop p), List.getElem?_drop, ← List.getD_eq_getElem?_getD]

/-- A number that is put into bytes: what is written, and what is left. -/
theorem putN_round {n c : Nat} {o : List Nat} (h : putN n = o ++ putN c) (hc : ¬ c < 128) : putN n = (o ++ [c % 128 + 128]) ++ putN (c / 128) := by
  rw [h, putN_great hc, List.append_assoc]; rfl
theorem putN_last {n c : Nat} {o : List Nat} (h : putN n = o ++ putN c) (hc : c < 128) : putN n = o ++ [c] := by rw [h, putN_small hc]

/-! ### Plain mathematics: the bytes of a string as numbers, and chapter 6's functions of strings. No conditions. -/
/-- The bytes of a string, as numbers, and back. -/
def bytesN (s : ByteArray) : List Nat := s.data.toList.map UInt8.toNat
def ofN (l : List Nat) : List UInt8 := l.map UInt8.ofNat
def strN (l : List Nat) : ByteArray := ⟨(ofN l).toArray⟩
theorem ofN_append (l m : List Nat) : ofN (l ++ m) = ofN l ++ ofN m := by simp [ofN]
theorem ofN_back {l : List Nat} (h : ∀ b ∈ l, b < 256) : (ofN l).map UInt8.toNat = l := by
  induction l with
  | nil => rfl
  | cons b l ih =>
    simp only [ofN, List.map_cons, List.cons.injEq] at ih ⊢
    refine ⟨?_, ih (fun c hc => h c (by simp [hc]))⟩
    rw [UInt8.toNat_ofNat']
    exact Nat.mod_eq_of_lt (h b (by simp))
theorem ofN_toNat (l : List UInt8) : ofN (l.map UInt8.toNat) = l := by
  induction l with
  | nil => rfl
  | cons b l ih =>
    simp only [ofN, List.map_cons, List.cons.injEq] at ih ⊢
    exact ⟨by simp, ih⟩
theorem bytesN_strN {l : List Nat} (h : ∀ b ∈ l, b < 256) : bytesN (strN l) = l := by
  rw [bytesN, strN]
  exact ofN_back h
theorem strN_bytesN (s : ByteArray) : strN (bytesN s) = s := by
  obtain ⟨⟨l⟩⟩ := s
  rw [strN, bytesN, ofN_toNat]
theorem bytesN_inj {s t : ByteArray} (h : bytesN s = bytesN t) : s = t := by rw [← strN_bytesN s, ← strN_bytesN t, h]
theorem bytesN_len (s : ByteArray) : (bytesN s).length = s.size := by
  rw [bytesN, List.length_map, Array.length_toList]; rfl
theorem bytesN_lt (s : ByteArray) : ∀ b ∈ bytesN s, b < 256 := by
  intro b hb
  obtain ⟨c, _, rfl⟩ := List.mem_map.1 hb
  exact c.toNat_lt
theorem bytesN_append (s t : ByteArray) : bytesN (s ++ t) = bytesN s ++ bytesN t := by
  simp [bytesN, ByteArray.data_append]
theorem bytesN_get (s : ByteArray) (k : Nat) (h : k < s.size) : (bytesN s).getD k 0 = s[k].toNat := by
  have h2 : k < s.data.toList.length := by rw [Array.length_toList]; exact h
  rw [bytesN, List.getD_eq_getElem?_getD, List.getElem?_map, List.getElem?_eq_getElem h2]
  simp only [Option.map_some, Option.getD_some, Array.getElem_toList]
  rfl
theorem strN_append (l m : List Nat) : strN (l ++ m) = strN l ++ strN m := by
  apply ByteArray.ext
  simp [strN, ofN_append, ByteArray.data_append]
theorem strN_size (l : List Nat) : (strN l).size = l.length := by
  show (ofN l).toArray.size = _
  simp [ofN]

/-- PutNumber. -/
def putL (n : Int) : List Nat := if n < 0 then [] else putN n.toNat
def putB (n : Int) : ByteArray := strN (putL n)
theorem putL_bytes (n : Int) : ∀ b ∈ putL n, b < 256 := by
  unfold putL
  split
  · simp
  · exact putN_bytes _
theorem bytesN_putB (n : Int) : bytesN (putB n) = putL n := bytesN_strN (putL_bytes n)
theorem putL_nat (n : Nat) : putL n = putN n := by rw [putL, if_neg (by omega), Int.toNat_natCast]
theorem putN_nine {n : Nat} (h : n < 2 ^ 63) : (putN n).length ≤ 9 := putN_most 8 n (by simpa using h)
theorem putL_nine {n : Int} (h : n < 2 ^ 63) : (putL n).length ≤ 9 := by
  unfold putL
  split
  · simp
  · exact putN_nine (by omega)

/-- TakeNumber. -/
def takeT (s : ByteArray) (i : Int) : Int × Int × Bool := if i < 0 then (0, 0, false) else
  match at1 (bytesN s) i.toNat with
  | none => (0, 0, false)
  | some p => (p.1, p.2, true)
theorem takeT_some {s : ByteArray} {i n j : Nat} (h : at1 (bytesN s) i = some (n, j)) : takeT s i = ((n : Int), (j : Int), true) := by
  rw [takeT, if_neg (by omega), Int.toNat_natCast, h]
theorem takeT_none {s : ByteArray} {i : Nat} (h : at1 (bytesN s) i = none) : takeT s i = (0, 0, false) := by
  rw [takeT, if_neg (by omega), Int.toNat_natCast, h]
theorem takeT_neg {s : ByteArray} {i : Int} (h : i < 0) : takeT s i = (0, 0, false) := by rw [takeT, if_pos h]
theorem takeT_put {n : Nat} (h : n < 2 ^ 63) : takeT (putB n) 0 = ((n : Int), ((putB n).size : Int), true) := by
  have h1 := at1_put (a := []) (n := n) (r := []) (s := bytesN (putB n)) (by rw [bytesN_putB, putL_nat]; simp) h
  have h2 : (putB n).size = (putN n).length := by rw [putB, strN_size, putL_nat]
  rw [h2]
  simpa using takeT_some h1
/-- What is read is written as it was. -/
theorem takeT_is (s : ByteArray) (i : Int) : (takeT s i = (0, 0, false)) ∨ ∃ n j i' : Nat, i = i' ∧ takeT s i = ((n : Int), (j : Int), true) ∧ i' < j ∧ j ≤ s.size ∧ n < 2 ^ 63 ∧ bytesN s = (bytesN s).take i' ++ (putN n ++ (bytesN s).drop j) := by
  by_cases hi : i < 0
  · exact .inl (takeT_neg hi)
  · obtain ⟨m, rfl⟩ : ∃ m : Nat, i = m := ⟨i.toNat, by omega⟩
    cases h : at1 (bytesN s) m with
    | none => exact .inl (takeT_none h)
    | some p =>
      obtain ⟨n, j⟩ := p
      have hm : m ≤ (bytesN s).length := by
        by_cases hm : m ≤ (bytesN s).length
        · exact hm
        · rw [at1_past (by omega)] at h; cases h
      obtain ⟨h1, h2, h3, h4⟩ := at1_is (bytesN_lt s) hm h
      refine .inr ⟨n, j, m, rfl, takeT_some h, h1, by rw [← bytesN_len]; exact h2, h4, ?_⟩
      rw [← List.append_assoc, ← h3, List.take_append_drop]

/-- ShelfText. -/
def textB (l : List En) : ByteArray := if shOk l then strN (textE l) else strN []
theorem put3_bytes (t : Nat × Nat × Nat) : ∀ b ∈ put3 t, b < 256 := by
  intro b hb
  simp only [put3, List.mem_append] at hb
  rcases hb with hb | hb | hb
  · exact putN_bytes _ b hb
  · exact putN_bytes _ b hb
  · exact putN_bytes _ b hb
theorem encE_bytes (last : Option En) (l : List En) : ∀ b ∈ encE last l, b < 256 := by
  induction l generalizing last with
  | nil => simp [encE]
  | cons x l ih =>
    intro b hb
    rw [encE, List.mem_append] at hb
    rcases hb with hb | hb
    · exact put3_bytes _ b hb
    · exact ih _ b hb
theorem textE_bytes (l : List En) : ∀ b ∈ textE l, b < 256 := by
  intro b hb
  rw [textE, List.mem_append] at hb
  rcases hb with hb | hb
  · exact putN_bytes _ b hb
  · exact encE_bytes _ _ b hb
theorem bytesN_text {l : List En} (h : shOk l) : bytesN (textB l) = textE l := by rw [textB, if_pos h, bytesN_strN (textE_bytes l)]
theorem put3_most {t : Nat × Nat × Nat} (h1 : t.1 < 2 ^ 63) (h2 : t.2.1 < 2 ^ 63) (h3 : t.2.2 < 2 ^ 63) : (put3 t).length ≤ 27 := by
  have a := putN_nine h1
  have b := putN_nine h2
  have c := putN_nine h3
  simp only [put3, List.length_append]
  omega
theorem dif_fits {last : Option En} {x : En} (hx : fits x) (hl : ∀ y, last = some y → enOk y) : (dif last x).1 < 2 ^ 63 ∧ (dif last x).2.1 < 2 ^ 63 ∧ (dif last x).2.2 < 2 ^ 63 := by
  obtain ⟨p, d, a⟩ := x
  simp only [fits] at hx
  cases last with
  | none => simp only [dif]; omega
  | some y =>
    obtain ⟨p', d', a'⟩ := y
    have h := hl _ rfl
    simp only [enOk] at h
    simp only [dif]
    split
    · split
      · simp only; omega
      · simp only; omega
    · simp only; omega
theorem encE_most {last : Option En} {l : List En} (ho : ∀ x ∈ l, enOk x) (hf : ∀ x ∈ l, fits x) (hl : ∀ y, last = some y → enOk y) : (encE last l).length ≤ 27 * l.length := by
  induction l generalizing last with
  | nil => simp [encE]
  | cons x l ih =>
    obtain ⟨h1, h2, h3⟩ := dif_fits (hf x (by simp)) hl
    have h4 := put3_most h1 h2 h3
    have h5 := ih (last := some x) (fun y hy => ho y (by simp [hy])) (fun y hy => hf y (by simp [hy])) (fun y hy => by injection hy with hy; subst hy; exact ho x (by simp))
    rw [encE, List.length_append, List.length_cons]
    omega

/-- ReadShelf. -/
def readT (W : Int → Int) (s : ByteArray) : List En × Bool :=
  match readS W (bytesN s) with
  | none => ([], false)
  | some l => (l, true)
theorem readT_yes {W : Int → Int} (hW : Sums W) {s : ByteArray} {l : List En} (h : shOk l) (hf : ∀ x ∈ l, fits x) (hn : l.length < 2 ^ 63) (hs : s = textB l) : readT W s = (l, true) := by
  rw [readT, (readS_iff hW (bytesN_lt s) l).2 ⟨h, hf, hn, by rw [hs, bytesN_text h]⟩]
theorem readT_is {W : Int → Int} (hW : Sums W) (s : ByteArray) : readT W s = ([], false) ∧ (∀ l, shOk l → (∀ x ∈ l, fits x) → l.length < 2 ^ 63 → textB l ≠ s) ∨ ∃ l, readT W s = (l, true) ∧ shOk l ∧ (∀ x ∈ l, fits x) ∧ l.length < 2 ^ 63 ∧ textB l = s := by
  cases h : readS W (bytesN s) with
  | none =>
    refine .inl ⟨by rw [readT, h], fun l h1 h2 h3 h4 => ?_⟩
    have := (readS_iff hW (bytesN_lt s) l).2 ⟨h1, h2, h3, by rw [← h4, bytesN_text h1]⟩
    rw [h] at this
    cases this
  | some l =>
    obtain ⟨h1, h2, h3, h4⟩ := (readS_iff hW (bytesN_lt s) l).1 h
    exact .inr ⟨l, by rw [readT, h], h1, h2, h3, bytesN_inj (by rw [bytesN_text h1, h4])⟩
/-- No text of a shelf begins that of another one; three bytes at least for each entry. -/
theorem readT_part {W : Int → Int} (hW : Sums W) {l : List En} {s t : ByteArray} (h : shOk l) (ht : t.size ≠ 0) (hs : textB l = s ++ t) : readT W s = ([], false) := by
  rcases readT_is hW s with h1 | ⟨m, h1, h2, h3, h4, h5⟩
  · exact h1.1
  · exfalso
    have h6 := congrArg bytesN hs
    rw [bytesN_text h, bytesN_append, ← h5, bytesN_text h2] at h6
    obtain ⟨_, h8⟩ := textE_inj (r := []) h h2 (by rw [List.append_nil]; exact h6)
    have h9 := congrArg List.length h8
    rw [bytesN_len] at h9
    simp at h9
    omega
theorem readT_more {W : Int → Int} (hW : Sums W) {l : List En} {t : ByteArray} (h : shOk l) (ht : t.size ≠ 0) : readT W (textB l ++ t) = ([], false) := by
  rcases readT_is hW (textB l ++ t) with h1 | ⟨m, h1, h2, h3, h4, h5⟩
  · exact h1.1
  · exfalso
    have h6 := congrArg bytesN h5
    rw [bytesN_append, bytesN_text h, bytesN_text h2] at h6
    obtain ⟨_, h8⟩ := textE_inj (s := []) h h2 (r := bytesN t) (by rw [List.append_nil]; exact h6.symm)
    have h9 : (bytesN t).length = 0 := by rw [h8]; rfl
    rw [bytesN_len] at h9
    exact ht h9
theorem textB_size {l : List En} (h : shOk l) : 1 + 3 * l.length ≤ (textB l).size := by
  have := textE_len l
  rw [← bytesN_len, bytesN_text h]
  exact this

end Go.Proofs.Ytapombdkkcjodaa
