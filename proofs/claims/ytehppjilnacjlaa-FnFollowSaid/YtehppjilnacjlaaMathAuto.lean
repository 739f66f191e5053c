/-
  Plain mathematics of a machine of all pieces of a text: the places at which pieces end, states for pieces with the same ends, and what one byte more makes of them. No conditions.
-/
import Init
namespace Go.Proofs.Ytehppjilnacjlaa

abbrev Wd := List UInt8

/-- A piece that ends at a place. -/
def endsAt (u x : Wd) (e : Nat) : Prop := e ≤ u.length ∧ x <:+ u.take e
def pcIn (u x : Wd) : Prop := ∃ e, endsAt u x e
def sameE (u x y : Wd) : Prop := ∀ e, endsAt u x e ↔ endsAt u y e

theorem endsAt_sub {u x y : Wd} {e : Nat} (h : y <:+ x) (hx : endsAt u x e) : endsAt u y e := ⟨hx.1, h.trans hx.2⟩
theorem ends_cmp {u x y : Wd} {e : Nat} (hx : endsAt u x e) (hy : endsAt u y e) (hl : x.length ≤ y.length) : x <:+ y := List.suffix_of_suffix_length_le hx.2 hy.2 hl
theorem endsAt_len {u x : Wd} {e : Nat} (h : endsAt u x e) : x.length ≤ e := by
  have h1 := h.2.length_le
  rw [List.length_take] at h1
  omega
theorem endsAt_new {u x : Wd} {a : UInt8} {e : Nat} : endsAt (u ++ [a]) x e ↔ endsAt u x e ∨ (e = u.length + 1 ∧ x <:+ u ++ [a]) := by
  unfold endsAt
  by_cases h : e ≤ u.length
  · rw [List.take_append_of_le_length h, List.length_append]
    constructor
    · rintro ⟨_, h2⟩; exact .inl ⟨h, h2⟩
    · rintro (⟨_, h2⟩ | ⟨h2, _⟩)
      · exact ⟨by omega, h2⟩
      · omega
  · constructor
    · rintro ⟨h1, h2⟩
      rw [List.length_append, List.length_singleton] at h1
      rw [List.take_of_length_le (by rw [List.length_append, List.length_singleton]; omega)] at h2
      exact .inr ⟨by omega, h2⟩
    · rintro (⟨h2, _⟩ | ⟨h2, h3⟩)
      · omega
      · refine ⟨by rw [List.length_append, List.length_singleton]; omega, ?_⟩
        rw [List.take_of_length_le (by rw [List.length_append, List.length_singleton]; omega)]
        exact h3
theorem sameE.symm {u x y : Wd} (h : sameE u x y) : sameE u y x := fun e => (h e).symm
theorem sameE.trans {u x y z : Wd} (h : sameE u x y) (k : sameE u y z) : sameE u x z := fun e => (h e).trans (k e)
theorem sameE.refl (u x : Wd) : sameE u x x := fun _ => Iff.rfl
theorem pc_sub {u x y : Wd} (h : y <:+ x) (hx : pcIn u x) : pcIn u y := by obtain ⟨e, he⟩ := hx; exact ⟨e, endsAt_sub h he⟩
theorem pc_same {u x y : Wd} (h : sameE u x y) (hx : pcIn u x) : pcIn u y := by obtain ⟨e, he⟩ := hx; exact ⟨e, (h e).1 he⟩
theorem pc_new {u x : Wd} {a : UInt8} : pcIn (u ++ [a]) x ↔ pcIn u x ∨ x <:+ u ++ [a] := by
  constructor
  · rintro ⟨e, he⟩
    rcases endsAt_new.1 he with h | h
    · exact .inl ⟨e, h⟩
    · exact .inr h.2
  · rintro (⟨e, he⟩ | h)
    · exact ⟨e, endsAt_new.2 (.inl he)⟩
    · exact ⟨u.length + 1, endsAt_new.2 (.inr ⟨rfl, h⟩)⟩
theorem same_new {u x y : Wd} {a : UInt8} : sameE (u ++ [a]) x y ↔ sameE u x y ∧ (x <:+ u ++ [a] ↔ y <:+ u ++ [a]) := by
  constructor
  · intro h
    refine ⟨fun e => ?_, ?_⟩
    · have h1 := h e
      rw [endsAt_new, endsAt_new] at h1
      by_cases he : e ≤ u.length
      · have h2 : ¬ e = u.length + 1 := by omega
        simpa [h2] using h1
      · exact ⟨fun h2 => absurd h2.1 he, fun h2 => absurd h2.1 he⟩
    · have h1 := h (u.length + 1)
      rw [endsAt_new, endsAt_new] at h1
      have h2 : ∀ w : Wd, ¬ endsAt u w (u.length + 1) := fun w hw => by have := hw.1; omega
      simpa [h2] using h1
  · rintro ⟨h1, h2⟩ e
    rw [endsAt_new, endsAt_new, h1 e, h2]
theorem snoc_suffix {x l : Wd} {b c : UInt8} : x ++ [b] <:+ l ++ [c] ↔ b = c ∧ x <:+ l := by
  constructor
  · rintro ⟨t, ht⟩
    rw [← List.append_assoc] at ht
    have h := List.append_inj' ht rfl
    refine ⟨by simpa using h.2, ⟨t, h.1⟩⟩
  · rintro ⟨rfl, t, rfl⟩
    exact ⟨t, by simp⟩
theorem endsAt_snoc {u x : Wd} {b : UInt8} {e : Nat} : endsAt u (x ++ [b]) e ↔ ∃ f, e = f + 1 ∧ endsAt u x f ∧ u[f]? = some b := by
  constructor
  · intro h
    have hl := endsAt_len h
    rw [List.length_append, List.length_singleton] at hl
    obtain ⟨f, rfl⟩ : ∃ f, e = f + 1 := ⟨e - 1, by omega⟩
    have hf : f < u.length := h.1
    have h2 := h.2
    rw [List.take_succ_eq_append_getElem hf, snoc_suffix] at h2
    exact ⟨f, rfl, ⟨by omega, h2.2⟩, by rw [List.getElem?_eq_getElem hf, h2.1]⟩
  · rintro ⟨f, rfl, h1, h2⟩
    obtain ⟨hf, rfl⟩ := List.getElem?_eq_some_iff.1 h2
    refine ⟨hf, ?_⟩
    rw [List.take_succ_eq_append_getElem hf, snoc_suffix]
    exact ⟨rfl, h1.2⟩
theorem same_snoc {u x y : Wd} (h : sameE u x y) (b : UInt8) : sameE u (x ++ [b]) (y ++ [b]) := fun e => by
  rw [endsAt_snoc, endsAt_snoc]
  constructor
  · rintro ⟨f, h1, h2, h3⟩; exact ⟨f, h1, (h f).1 h2, h3⟩
  · rintro ⟨f, h1, h2, h3⟩; exact ⟨f, h1, (h f).2 h2, h3⟩
theorem pc_front {u x : Wd} {b : UInt8} (h : pcIn u (x ++ [b])) : pcIn u x := by
  obtain ⟨e, he⟩ := h
  obtain ⟨f, _, h2, _⟩ := endsAt_snoc.1 he
  exact ⟨f, h2⟩
/-- What lies between two pieces with the same ends has these, too. -/
theorem same_mid {u x y z : Wd} (h1 : x <:+ y) (h2 : y <:+ z) (h : sameE u x z) : sameE u y z := fun e => ⟨fun hy => (h e).1 (endsAt_sub h1 hy), fun hz => endsAt_sub h2 hz⟩
theorem suffix_ends {u x : Wd} : x <:+ u ↔ endsAt u x u.length := by
  unfold endsAt
  rw [List.take_length]
  exact ⟨fun h => ⟨Nat.le_refl _, h⟩, fun h => h.2⟩
theorem same_suffix {u x y : Wd} (h : sameE u x y) : x <:+ u ↔ y <:+ u := by rw [suffix_ends, suffix_ends, h]
theorem pc_whole {u : Wd} {a : UInt8} : ¬ pcIn u (u ++ [a]) := fun ⟨e, he⟩ => by
  have h1 := endsAt_len he
  have h2 := he.1
  rw [List.length_append, List.length_singleton] at h1
  omega
theorem pc_beyond {u : Wd} {b : UInt8} : ¬ pcIn u (u ++ [b]) := pc_whole
theorem pc_nil (u : Wd) : pcIn u [] := ⟨0, Nat.zero_le _, List.nil_suffix⟩
theorem pc_suffix {u x : Wd} (h : x <:+ u) : pcIn u x := ⟨u.length, suffix_ends.1 h⟩
/-- New pieces end at the end alone. -/
theorem same_fresh {u x : Wd} {a : UInt8} (h1 : x <:+ u ++ [a]) (h2 : ¬ pcIn u x) : sameE (u ++ [a]) x (u ++ [a]) := by
  rw [same_new]
  refine ⟨fun e => ⟨fun h => absurd ⟨e, h⟩ h2, fun h => absurd ⟨e, h⟩ pc_whole⟩, ⟨fun _ => List.suffix_refl _, fun _ => h1⟩⟩

/-- States for all pieces with the same ends: W the longest one of each, T where an edge leads, K links. -/
structure AInv (u : Wd) (n : Nat) (W : Nat → Wd) (T : Nat → UInt8 → Int) (K : Nat → Int) : Prop where
  pos : 0 < n
  w0 : W 0 = []
  k0 : K 0 = -1
  pc : ∀ i, i < n → pcIn u (W i)
  mx : ∀ i, i < n → ∀ x, sameE u x (W i) → x <:+ W i
  inj : ∀ i j, i < n → j < n → sameE u (W i) (W j) → i = j
  cov : ∀ x, pcIn u x → ∃ i, i < n ∧ sameE u x (W i)
  yes : ∀ i, i < n → ∀ b, pcIn u (W i ++ [b]) → ∃ j : Nat, j < n ∧ T i b = j ∧ sameE u (W i ++ [b]) (W j)
  no : ∀ i, i < n → ∀ b, ¬ pcIn u (W i ++ [b]) → T i b = -1
  link : ∀ i, i < n → 0 < i → ∃ j : Nat, j < n ∧ K i = j ∧ W j <:+ W i ∧ ¬ sameE u (W j) (W i) ∧ ∀ x, x <:+ W i → ¬ sameE u x (W i) → x <:+ W j

/-- The longest end of the text with a byte more that was a piece already. -/
structure LongZ (u : Wd) (a : UInt8) (z : Wd) : Prop where
  suf : z <:+ u ++ [a]
  pc : pcIn u z
  top : ∀ x, x <:+ u ++ [a] → pcIn u x → x <:+ z

/-- What has the ends of a state and ends the text ends within what was a piece, or the state does too. -/
theorem AInv.two {u : Wd} {n : Nat} {W : Nat → Wd} {T : Nat → UInt8 → Int} {K : Nat → Int} (h : AInv u n W T K) {a : UInt8} {z : Wd} (hz : LongZ u a z) {q : Nat} (hq : q < n) (hqz : sameE u z (W q)) {i : Nat} (hi : i < n) {x : Wd} (hx : sameE u x (W i)) (hs : x <:+ u ++ [a]) : i = q ∨ W i <:+ u ++ [a] := by
  have hxp : pcIn u x := pc_same hx.symm (h.pc i hi)
  have hxz := hz.top x hs hxp
  obtain ⟨e, he⟩ := hz.pc
  have h1 := (hx e).1 (endsAt_sub hxz he)
  by_cases hl : (W i).length ≤ z.length
  · exact .inr ((ends_cmp h1 he hl).trans hz.suf)
  · have h2 := ends_cmp he h1 (by omega)
    exact .inl (h.inj i q hi hq ((same_mid hxz h2 hx).symm.trans hqz))

/-- One byte more, and no state is split. -/
theorem AInv.next {u : Wd} {n : Nat} {W : Nat → Wd} {T : Nat → UInt8 → Int} {K : Nat → Int} (h : AInv u n W T K) {a : UInt8} {z : Wd} (hz : LongZ u a z) {q : Nat} (hq : q < n) (hqz : W q = z)
    {W' : Nat → Wd} {T' : Nat → UInt8 → Int} {K' : Nat → Int} (hW : ∀ i, i < n → W' i = W i) (hWn : W' n = u ++ [a])
    (hT1 : ∀ i, i < n → W i <:+ u → ¬ pcIn u (W i ++ [a]) → T' i a = (n : Int)) (hT2 : ∀ i, i < n → ∀ b, ¬ (b = a ∧ W i <:+ u ∧ ¬ pcIn u (W i ++ [a])) → T' i b = T i b) (hTn : ∀ b, T' n b = -1)
    (hK : ∀ i, i < n → K' i = K i) (hKn : K' n = (q : Int)) : AInv (u ++ [a]) (n + 1) W' T' K' := by
  have S : ∀ i, i < n → ∀ x, sameE u x (W i) → sameE (u ++ [a]) x (W i) := fun i hi x hx => by
    rw [same_new]
    refine ⟨hx, fun hs => ?_, fun hs => (h.mx i hi x hx).trans hs⟩
    rcases h.two hz hq (by rw [hqz]; exact sameE.refl _ _) hi hx hs with rfl | h1
    · rw [hqz]; exact hz.suf
    · exact h1
  have cas : ∀ i, i < n + 1 → i < n ∨ i = n := fun i hi => by omega
  refine ⟨by omega, by rw [hW 0 h.pos]; exact h.w0, by rw [hK 0 h.pos]; exact h.k0, fun i hi => ?_, fun i hi x hx => ?_, fun i j hi hj hs => ?_, fun x hx => ?_, fun i hi b hp => ?_, fun i hi b hp => ?_, fun i hi h0 => ?_⟩
  · rcases cas i hi with hi | rfl
    · rw [hW i hi]; exact pc_new.2 (.inl (h.pc i hi))
    · rw [hWn]; exact pc_new.2 (.inr (List.suffix_refl _))
  · rcases cas i hi with hi | rfl
    · rw [hW i hi] at hx ⊢
      exact h.mx i hi x (same_new.1 hx).1
    · rw [hWn] at hx ⊢
      exact (same_new.1 hx).2.2 (List.suffix_refl _)
  · rcases cas i hi with hi | rfl
    · rcases cas j hj with hj | rfl
      · rw [hW i hi, hW j hj] at hs
        exact h.inj i j hi hj (same_new.1 hs).1
      · rw [hW i hi, hWn] at hs
        exact absurd (pc_same (same_new.1 hs).1 (h.pc i hi)) pc_whole
    · rcases cas j hj with hj | rfl
      · rw [hW j hj, hWn] at hs
        exact absurd (pc_same (same_new.1 hs.symm).1 (h.pc j hj)) pc_whole
      · rfl
  · by_cases hp : pcIn u x
    · obtain ⟨i, hi, hs⟩ := h.cov x hp
      exact ⟨i, by omega, by rw [hW i hi]; exact S i hi x hs⟩
    · have hs := (pc_new.1 hx).resolve_left hp
      exact ⟨n, by omega, by rw [hWn]; exact same_fresh hs hp⟩
  · rcases cas i hi with hi | rfl
    · rw [hW i hi] at hp ⊢
      by_cases hpu : pcIn u (W i ++ [b])
      · obtain ⟨j, hj, h1, h2⟩ := h.yes i hi b hpu
        refine ⟨j, by omega, ?_, by rw [hW j hj]; exact S j hj _ h2⟩
        rw [hT2 i hi b (fun e => by rw [e.1] at hpu; exact e.2.2 hpu)]
        exact h1
      · have hs := (pc_new.1 hp).resolve_left hpu
        obtain ⟨rfl, h1⟩ := snoc_suffix.1 hs
        exact ⟨n, by omega, hT1 i hi h1 hpu, by rw [hWn]; exact same_fresh hs hpu⟩
    · rw [hWn] at hp
      exact absurd hp pc_beyond
  · rcases cas i hi with hi | rfl
    · rw [hW i hi] at hp
      rw [pc_new] at hp
      rw [hT2 i hi b (fun e => hp (.inr (by rw [e.1]; exact snoc_suffix.2 ⟨rfl, e.2.1⟩)))]
      exact h.no i hi b (fun e => hp (.inl e))
    · exact hTn b
  · rcases cas i hi with hi | rfl
    · obtain ⟨j, hj, h1, h2, h3, h4⟩ := h.link i hi h0
      refine ⟨j, by omega, by rw [hK i hi]; exact h1, by rw [hW j hj, hW i hi]; exact h2, by rw [hW j hj, hW i hi]; exact fun e => h3 (same_new.1 e).1, fun x hx hs => ?_⟩
      rw [hW i hi] at hx hs
      rw [hW j hj]
      exact h4 x hx (fun e => hs (S i hi x e))
    · refine ⟨q, by omega, hKn, by rw [hW q hq, hWn, hqz]; exact hz.suf, by rw [hW q hq, hWn, hqz]; exact fun e => pc_whole (pc_same (same_new.1 e).1 hz.pc), fun x hx hs => ?_⟩
      rw [hWn] at hx hs
      rw [hW q hq, hqz]
      by_cases hp : pcIn u x
      · exact hz.top x hx hp
      · exact absurd (same_fresh hx hp) hs

/-- One byte more, and a state is split: z for what ends the text of its pieces. -/
theorem AInv.split {u : Wd} {n : Nat} {W : Nat → Wd} {T : Nat → UInt8 → Int} {K : Nat → Int} (h : AInv u n W T K) {a : UInt8} {z : Wd} (hz : LongZ u a z) {q : Nat} (hq : q < n) (hqz : sameE u z (W q)) (hne : W q ≠ z)
    {W' : Nat → Wd} {T' : Nat → UInt8 → Int} {K' : Nat → Int} (hW : ∀ i, i < n → W' i = W i) (hWn : W' n = u ++ [a]) (hWz : W' (n + 1) = z)
    (hT1 : ∀ i, i < n → W i <:+ u → ¬ pcIn u (W i ++ [a]) → T' i a = (n : Int)) (hT2 : ∀ i, i < n → W i <:+ u → pcIn u (W i ++ [a]) → T i a = (q : Int) → T' i a = ((n + 1 : Nat) : Int))
    (hT3 : ∀ i, i < n → W i <:+ u → pcIn u (W i ++ [a]) → T i a ≠ (q : Int) → T' i a = T i a) (hT4 : ∀ i, i < n → ∀ b, ¬ (b = a ∧ W i <:+ u) → T' i b = T i b) (hTn : ∀ b, T' n b = -1)
    (hZ1 : W q <:+ u → ¬ pcIn u (W q ++ [a]) → T' (n + 1) a = (n : Int)) (hZ2 : ∀ b, ¬ (b = a ∧ W q <:+ u ∧ ¬ pcIn u (W q ++ [a])) → T' (n + 1) b = T q b)
    (hK : ∀ i, i < n → i ≠ q → K' i = K i) (hKq : K' q = ((n + 1 : Nat) : Int)) (hKn : K' n = ((n + 1 : Nat) : Int)) (hKz : K' (n + 1) = K q) : AInv (u ++ [a]) (n + 2) W' T' K' := by
  have hzq : z <:+ W q := h.mx q hq z hqz
  have hlt : z.length < (W q).length := by
    rcases Nat.lt_or_ge z.length (W q).length with h1 | h1
    · exact h1
    · exact absurd (hzq.eq_of_length (Nat.le_antisymm hzq.length_le h1)).symm hne
  have hqs : ¬ W q <:+ u ++ [a] := fun e => by
    have := (hz.top _ e (h.pc q hq)).length_le
    omega
  have hq0 : 0 < q := by
    rcases Nat.eq_zero_or_pos q with e | e
    · rw [e, h.w0] at hlt
      simp at hlt
    · exact e
  have S : ∀ i, i < n → ∀ x, sameE u x (W i) → (i ≠ q ∨ ¬ x <:+ u ++ [a]) → sameE (u ++ [a]) x (W i) := fun i hi x hx hor => by
    rw [same_new]
    refine ⟨hx, fun hs => ?_, fun hs => (h.mx i hi x hx).trans hs⟩
    rcases hor with hor | hor
    · exact (h.two hz hq hqz hi hx hs).resolve_left hor
    · exact absurd hs hor
  have SZ : ∀ x, sameE u x z → x <:+ u ++ [a] → sameE (u ++ [a]) x z := fun x hx hs => same_new.2 ⟨hx, ⟨fun _ => hz.suf, fun _ => hs⟩⟩
  have cas : ∀ i, i < n + 2 → i < n ∨ i = n ∨ i = n + 1 := fun i hi => by omega
  refine ⟨by omega, by rw [hW 0 h.pos]; exact h.w0, by rw [hK 0 h.pos (by omega)]; exact h.k0, fun i hi => ?_, fun i hi x hx => ?_, fun i j hi hj hs => ?_, fun x hx => ?_, fun i hi b hp => ?_, fun i hi b hp => ?_, fun i hi h0 => ?_⟩
  · rcases cas i hi with hi | rfl | rfl
    · rw [hW i hi]; exact pc_new.2 (.inl (h.pc i hi))
    · rw [hWn]; exact pc_new.2 (.inr (List.suffix_refl _))
    · rw [hWz]; exact pc_new.2 (.inl hz.pc)
  · rcases cas i hi with hi | rfl | rfl
    · rw [hW i hi] at hx ⊢
      exact h.mx i hi x (same_new.1 hx).1
    · rw [hWn] at hx ⊢
      exact (same_new.1 hx).2.2 (List.suffix_refl _)
    · rw [hWz] at hx ⊢
      exact hz.top x ((same_new.1 hx).2.2 hz.suf) (pc_same (same_new.1 hx).1.symm hz.pc)
  · have k1 : ∀ i, i < n → ¬ sameE (u ++ [a]) (W i) (u ++ [a]) := fun i hi e => pc_whole (pc_same (same_new.1 e).1 (h.pc i hi))
    have k2 : ∀ i, i < n → ¬ sameE (u ++ [a]) (W i) z := fun i hi e => by
      obtain ⟨e1, e2⟩ := same_new.1 e
      have e3 := h.inj i q hi hq (e1.trans hqz)
      rw [e3] at e2
      exact hqs (e2.2 hz.suf)
    have k3 : ¬ sameE (u ++ [a]) z (u ++ [a]) := fun e => pc_whole (pc_same (same_new.1 e).1 hz.pc)
    rcases cas i hi with hi | rfl | rfl
    · rcases cas j hj with hj | rfl | rfl
      · rw [hW i hi, hW j hj] at hs
        exact h.inj i j hi hj (same_new.1 hs).1
      · rw [hW i hi, hWn] at hs
        exact absurd hs (k1 i hi)
      · rw [hW i hi, hWz] at hs
        exact absurd hs (k2 i hi)
    · rcases cas j hj with hj | rfl | rfl
      · rw [hW j hj, hWn] at hs
        exact absurd hs.symm (k1 j hj)
      · rfl
      · rw [hWn, hWz] at hs
        exact absurd hs.symm k3
    · rcases cas j hj with hj | rfl | rfl
      · rw [hW j hj, hWz] at hs
        exact absurd hs.symm (k2 j hj)
      · rw [hWn, hWz] at hs
        exact absurd hs k3
      · rfl
  · by_cases hp : pcIn u x
    · obtain ⟨i, hi, hs⟩ := h.cov x hp
      by_cases hb : i = q ∧ x <:+ u ++ [a]
      · obtain ⟨rfl, hb⟩ := hb
        exact ⟨n + 1, by omega, by rw [hWz]; exact SZ x (hs.trans hqz.symm) hb⟩
      · refine ⟨i, by omega, ?_⟩
        rw [hW i hi]
        refine S i hi x hs ?_
        by_cases hiq : i = q
        · exact .inr (fun e => hb ⟨hiq, e⟩)
        · exact .inl hiq
    · have hs := (pc_new.1 hx).resolve_left hp
      exact ⟨n, by omega, by rw [hWn]; exact same_fresh hs hp⟩
  · rcases cas i hi with hi | rfl | rfl
    · rw [hW i hi] at hp ⊢
      by_cases hpu : pcIn u (W i ++ [b])
      · obtain ⟨j, hj, h1, h2⟩ := h.yes i hi b hpu
        by_cases hb : b = a ∧ W i <:+ u
        · obtain ⟨rfl, hb⟩ := hb
          by_cases hjq : j = q
          · refine ⟨n + 1, by omega, hT2 i hi hb hpu (by rw [h1, hjq]), ?_⟩
            rw [hWz]
            rw [hjq] at h2
            exact SZ _ (h2.trans hqz.symm) (snoc_suffix.2 ⟨rfl, hb⟩)
          · refine ⟨j, by omega, ?_, by rw [hW j hj]; exact S j hj _ h2 (.inl hjq)⟩
            rw [hT3 i hi hb hpu (by rw [h1]; omega)]
            exact h1
        · refine ⟨j, by omega, by rw [hT4 i hi b hb]; exact h1, ?_⟩
          rw [hW j hj]
          exact S j hj _ h2 (.inr (fun e => hb (snoc_suffix.1 e)))
      · have hs := (pc_new.1 hp).resolve_left hpu
        obtain ⟨rfl, h1⟩ := snoc_suffix.1 hs
        exact ⟨n, by omega, hT1 i hi h1 hpu, by rw [hWn]; exact same_fresh hs hpu⟩
    · rw [hWn] at hp
      exact absurd hp pc_beyond
    · rw [hWz] at hp ⊢
      by_cases hpu : pcIn u (z ++ [b])
      · have hpq := pc_same (same_snoc hqz b) hpu
        obtain ⟨j, hj, h1, h2⟩ := h.yes q hq b hpq
        refine ⟨j, by omega, ?_, ?_⟩
        · rw [hZ2 b (fun e => by rw [e.1] at hpq; exact e.2.2 hpq)]
          exact h1
        · rw [hW j hj]
          refine S j hj _ ((same_snoc hqz b).trans h2) (.inr (fun e => ?_))
          have := (hz.top _ e hpu).length_le
          rw [List.length_append, List.length_singleton] at this
          omega
      · have hs := (pc_new.1 hp).resolve_left hpu
        obtain ⟨rfl, h1⟩ := snoc_suffix.1 hs
        refine ⟨n, by omega, hZ1 ((same_suffix hqz).1 h1) (fun e => hpu (pc_same (same_snoc hqz b).symm e)), ?_⟩
        rw [hWn]
        exact same_fresh hs hpu
  · rcases cas i hi with hi | rfl | rfl
    · rw [hW i hi, pc_new] at hp
      rw [hT4 i hi b (fun e => hp (.inr (by rw [e.1]; exact snoc_suffix.2 ⟨rfl, e.2⟩)))]
      exact h.no i hi b (fun e => hp (.inl e))
    · exact hTn b
    · rw [hWz, pc_new] at hp
      rw [hZ2 b (fun e => hp (.inr (by rw [e.1]; exact snoc_suffix.2 ⟨rfl, (same_suffix hqz).2 e.2.1⟩)))]
      exact h.no q hq b (fun e => hp (.inl (pc_same (same_snoc hqz b).symm e)))
  · rcases cas i hi with hi | rfl | rfl
    · by_cases hiq : i = q
      · subst hiq
        refine ⟨n + 1, by omega, hKq, by rw [hWz, hW i hi]; exact hzq, by rw [hWz, hW i hi]; exact fun e => hqs ((same_new.1 e).2.1 hz.suf), fun x hx hs => ?_⟩
        rw [hW i hi] at hx hs
        rw [hWz]
        by_cases hxs : sameE u x (W i)
        · have hxu : x <:+ u ++ [a] := by
            refine Classical.byContradiction fun e => ?_
            exact hs (same_new.2 ⟨hxs, fun e2 => absurd e2 e, fun e2 => absurd e2 hqs⟩)
          exact hz.top x hxu (pc_same hxs.symm (h.pc i hi))
        · rcases Nat.lt_or_ge z.length x.length with hl | hl
          · have h1 := List.suffix_of_suffix_length_le hzq hx (Nat.le_of_lt hl)
            exact absurd (same_mid h1 hx hqz) hxs
          · exact List.suffix_of_suffix_length_le hx hzq hl
      · obtain ⟨j, hj, h1, h2, h3, h4⟩ := h.link i hi h0
        refine ⟨j, by omega, by rw [hK i hi hiq]; exact h1, by rw [hW j hj, hW i hi]; exact h2, by rw [hW j hj, hW i hi]; exact fun e => h3 (same_new.1 e).1, fun x hx hs => ?_⟩
        rw [hW i hi] at hx hs
        rw [hW j hj]
        exact h4 x hx (fun e => hs (S i hi x e (.inl hiq)))
    · refine ⟨i + 1, by omega, hKn, by rw [hWz, hWn]; exact hz.suf, by rw [hWz, hWn]; exact fun e => pc_whole (pc_same (same_new.1 e).1 hz.pc), fun x hx hs => ?_⟩
      rw [hWn] at hx hs
      rw [hWz]
      by_cases hp : pcIn u x
      · exact hz.top x hx hp
      · exact absurd (same_fresh hx hp) hs
    · obtain ⟨j, hj, h1, h2, h3, h4⟩ := h.link q hq hq0
      have hjz : W j <:+ z := by
        rcases Nat.lt_or_ge z.length (W j).length with hl | hl
        · have h5 := List.suffix_of_suffix_length_le hzq h2 (Nat.le_of_lt hl)
          exact absurd (same_mid h5 h2 hqz) h3
        · exact List.suffix_of_suffix_length_le h2 hzq hl
      refine ⟨j, by omega, by rw [hKz]; exact h1, by rw [hW j hj, hWz]; exact hjz, by rw [hW j hj, hWz]; exact fun e => h3 ((same_new.1 e).1.trans hqz), fun x hx hs => ?_⟩
      rw [hWz] at hx hs
      rw [hW j hj]
      refine h4 x (hx.trans hzq) (fun e => hs (SZ x (e.trans hqz.symm) (hx.trans hz.suf)))

end Go.Proofs.Ytehppjilnacjlaa
