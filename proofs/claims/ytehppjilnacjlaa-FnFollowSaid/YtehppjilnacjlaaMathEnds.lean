/-
  Plain mathematics of the longest pieces that end at each byte, found by edges and links, and of how often a piece stands. No conditions.
-/
import Derived.Test.YtehppjilnacjlaaMathFoll
namespace Go.Proofs.Ytehppjilnacjlaa

/-- The longest end of a text that is a piece of another one. -/
structure LongEnd (s y w : Wd) : Prop where
  suf : w <:+ y
  pc : pcIn s w
  top : ∀ x, x <:+ y → pcIn s x → x <:+ w
theorem longEnd_ex (s y : Wd) : ∃ w, LongEnd s y w := by
  induction y with
  | nil => exact ⟨[], List.suffix_refl _, pc_nil s, fun x hx _ => hx⟩
  | cons c y ih =>
    by_cases hp : pcIn s (c :: y)
    · exact ⟨_, List.suffix_refl _, hp, fun x hx _ => hx⟩
    · obtain ⟨w, h⟩ := ih
      refine ⟨w, h.suf.trans (List.suffix_cons c y), h.pc, fun x hx hxp => ?_⟩
      rcases List.suffix_cons_iff.1 hx with e | e
      · rw [e] at hxp; exact absurd hxp hp
      · exact h.top x e hxp
theorem LongEnd.unique {s y w v : Wd} (h : LongEnd s y w) (k : LongEnd s y v) : w = v := by
  have h1 := k.top w h.suf h.pc
  have h2 := h.top v k.suf k.pc
  exact h1.eq_of_length (Nat.le_antisymm h1.length_le h2.length_le)
noncomputable def lsN (s y : Wd) : Nat := (longEnd_ex s y).choose.length
theorem lsN_is {s y w : Wd} (h : LongEnd s y w) : lsN s y = w.length := by rw [lsN, (longEnd_ex s y).choose_spec.unique h]
noncomputable def lsL (s t : Wd) : List Int := (List.range t.length).map fun k => (lsN s (t.take (k + 1)) : Int)

/-- On the way from one byte to the next one: what is longer does not go on. -/
structure EndsI (s : Wd) (L : List Sta) (y : Wd) (b : UInt8) (i n : Nat) : Prop where
  lt : i < L.length
  w : ∃ w, w <:+ y ∧ pcIn s w ∧ sameE s w (tW L i) ∧ w.length = n ∧ ∀ x, x <:+ y → pcIn s x → w.length < x.length → ¬ pcIn s (x ++ [b])
theorem ends_start {s : Wd} {L : List Sta} {y w : Wd} (h : LongEnd s y w) {i : Nat} (hi : i < L.length) (hs : sameE s w (tW L i)) (b : UInt8) : EndsI s L y b i w.length :=
  ⟨hi, w, h.suf, h.pc, hs, rfl, fun x hx hp hl => by have := (h.top x hx hp).length_le; omega⟩
/-- No edge: by the link. -/
theorem EndsI.link {s : Wd} {L : List Sta} (hM : MInv s L) {y : Wd} {b : UInt8} {i n : Nat} (h : EndsI s L y b i n) (h0 : 0 < i) (hno : tT L i b < 0) : ∃ j : Nat, j < L.length ∧ tK L i = j ∧ (tW L j).length < (tW L i).length ∧ EndsI s L y b j (tW L j).length := by
  obtain ⟨w, h1, h2, h3, h4, h5⟩ := h.w
  obtain ⟨j, hj, k1, k2, k3, k4⟩ := hM.inv.link i h.lt h0
  have hnp : ¬ pcIn s (tW L i ++ [b]) := fun e => by
    obtain ⟨r, _, e1, _⟩ := hM.inv.yes i h.lt b e
    omega
  have hwi := hM.inv.mx i h.lt w h3
  have hjw : tW L j <:+ w := by
    rcases Nat.lt_or_ge w.length (tW L j).length with hl | hl
    · have h6 := List.suffix_of_suffix_length_le hwi k2 (Nat.le_of_lt hl)
      exact absurd (same_mid h6 k2 h3) k3
    · exact List.suffix_of_suffix_length_le k2 hwi hl
  have hlt : (tW L j).length < (tW L i).length := by
    rcases Nat.lt_or_ge (tW L j).length (tW L i).length with hl | hl
    · exact hl
    · exact absurd (by rw [k2.eq_of_length (Nat.le_antisymm k2.length_le hl)]; exact sameE.refl _ _) k3
  refine ⟨j, hj, k1, hlt, hj, tW L j, hjw.trans h1, pc_sub hjw h2, sameE.refl _ _, rfl, fun x hx hp hl => ?_⟩
  rcases Nat.lt_or_ge w.length x.length with hl2 | hl2
  · exact h5 x hx hp hl2
  · have hxw := List.suffix_of_suffix_length_le hx h1 hl2
    have hs : sameE s x (tW L i) := Classical.byContradiction fun e => by
      have := (k4 x (hxw.trans hwi) e).length_le
      omega
    exact fun e => hnp (pc_same (same_snoc hs b) e)
/-- An edge: one byte more. -/
theorem EndsI.edge {s : Wd} {L : List Sta} (hM : MInv s L) {y : Wd} {b : UInt8} {i n : Nat} (h : EndsI s L y b i n) (hyes : 0 ≤ tT L i b) : ∃ j : Nat, j < L.length ∧ tT L i b = j ∧ ∃ w, LongEnd s (y ++ [b]) w ∧ w.length = n + 1 ∧ sameE s w (tW L j) := by
  obtain ⟨w, h1, h2, h3, h4, h5⟩ := h.w
  have hp : pcIn s (tW L i ++ [b]) := Classical.byContradiction fun e => by
    have := hM.inv.no i h.lt b e
    omega
  obtain ⟨j, hj, k1, k2⟩ := hM.inv.yes i h.lt b hp
  have hs := same_snoc h3 b
  refine ⟨j, hj, k1, w ++ [b], ⟨snoc_suffix.2 ⟨rfl, h1⟩, pc_same hs.symm hp, fun x hx hxp => ?_⟩, by rw [List.length_append, h4]; rfl, hs.trans k2⟩
  rcases nil_or_snoc x with rfl | ⟨x, c, rfl⟩
  · exact List.nil_suffix
  · obtain ⟨rfl, hx2⟩ := snoc_suffix.1 hx
    refine snoc_suffix.2 ⟨rfl, ?_⟩
    rcases Nat.lt_or_ge w.length x.length with hl | hl
    · exact absurd hxp (h5 x hx2 (pc_front hxp) hl)
    · exact List.suffix_of_suffix_length_le hx2 h1 hl
/-- No edge from the first state: nothing. -/
theorem EndsI.none_ {s : Wd} {L : List Sta} (hM : MInv s L) {y : Wd} {b : UInt8} {n : Nat} (h : EndsI s L y b 0 n) (hno : tT L 0 b < 0) : n = 0 ∧ LongEnd s (y ++ [b]) [] ∧ sameE s [] (tW L 0) := by
  obtain ⟨w, h1, h2, h3, h4, h5⟩ := h.w
  have hw := hM.inv.mx 0 h.lt w h3
  rw [hM.inv.w0] at hw
  have hw0 : w = [] := List.suffix_nil.1 hw
  subst hw0
  refine ⟨by simpa using h4.symm, ⟨List.nil_suffix, pc_nil s, fun x hx hxp => ?_⟩, by rw [hM.inv.w0]; exact sameE.refl _ _⟩
  rcases nil_or_snoc x with rfl | ⟨x, c, rfl⟩
  · exact List.nil_suffix
  · exfalso
    obtain ⟨rfl, hx2⟩ := snoc_suffix.1 hx
    rcases Nat.eq_zero_or_pos x.length with hl | hl
    · rw [List.eq_nil_of_length_eq_zero hl] at hxp
      obtain ⟨j, _, e1, _⟩ := hM.inv.yes 0 h.lt c (by rw [hM.inv.w0]; exact hxp)
      omega
    · exact h5 x hx2 (pc_front hxp) (by simpa using hl) hxp

/-- The state of the whole text up to a byte. -/
theorem prefix_state {s : Wd} {L : List Sta} (hM : MInv s L) (k : Nat) (hk : k ≤ s.length) : ∃ i : Nat, i < L.length ∧ folL (datL L) (s.take k) = i ∧ tW L i = s.take k := by
  have hp : endsAt s (s.take k) k := ⟨hk, List.suffix_refl _⟩
  obtain ⟨i, hi, h1, h2⟩ := (mach_fol hM (s.take k)).1 ⟨k, hp⟩
  have h3 := hM.inv.mx i hi _ h2
  have h4 := endsAt_len ((h2 k).1 hp)
  refine ⟨i, hi, h1, (h3.eq_of_length ?_).symm⟩
  have h5 := h3.length_le
  rw [List.length_take, Nat.min_eq_left hk] at h5 ⊢
  omega
/-- The next one is where an edge leads. -/
theorem prefix_next {s : Wd} {L : List Sta} (hM : MInv s L) {k i : Nat} (hk : k < s.length) (hi : i < L.length) (hw : tW L i = s.take k) : ∃ j : Nat, j < L.length ∧ tT L i s[k] = j ∧ tW L j = s.take (k + 1) := by
  have e : s.take (k + 1) = s.take k ++ [s[k]] := List.take_succ_eq_append_getElem hk
  have hp : endsAt s (tW L i ++ [s[k]]) (k + 1) := by rw [hw, ← e]; exact ⟨hk, List.suffix_refl _⟩
  obtain ⟨j, hj, h1, h2⟩ := hM.inv.yes i hi s[k] ⟨k + 1, hp⟩
  have h3 := hM.inv.mx j hj _ h2
  have h4 := endsAt_len ((h2 (k + 1)).1 hp)
  refine ⟨j, hj, h1, (Eq.trans ?_ (h3.eq_of_length ?_)).symm⟩
  · rw [hw, e]
  · have h5 := h3.length_le
    have h6 : (tW L i ++ [s[k]]).length = k + 1 := by rw [List.length_append, hw, List.length_take, List.length_singleton]; omega
    omega
/-- Along links: all states that are ends of one, from the longest on. -/
theorem chain_link {u : Wd} {L : List Sta} (hM : MInv u L) {i : Nat} (hi : i < L.length) (h0 : 0 < i) : ∃ j : Nat, j < L.length ∧ tK L i = j ∧ tW L j <:+ tW L i ∧ (tW L j).length < (tW L i).length ∧ ∀ k, k < L.length → tW L k <:+ tW L i → (tW L k).length < (tW L i).length → (tW L k).length ≤ (tW L j).length := by
  obtain ⟨j, hj, h1, h2, h3, h4⟩ := hM.inv.link i hi h0
  refine ⟨j, hj, h1, h2, ?_, fun k hk hkp hl => ?_⟩
  · rcases Nat.lt_or_ge (tW L j).length (tW L i).length with h | h
    · exact h
    · exact absurd (by rw [h2.eq_of_length (Nat.le_antisymm h2.length_le h)]; exact sameE.refl _ _) h3
  · refine (h4 _ hkp (fun e => ?_)).length_le
    have := hM.inv.inj k i hk hi e
    subst this
    omega
theorem chain_one {u : Wd} {L : List Sta} (hM : MInv u L) {i j : Nat} {x : Wd} (hi : i < L.length) (hj : j < L.length) (h1 : tW L i <:+ x) (h2 : tW L j <:+ x) (hl : (tW L i).length = (tW L j).length) : i = j := by
  have h3 := (path_cmp h1 h2 (by omega)).eq_of_length hl
  exact hM.inv.inj i j hi hj (by rw [h3]; exact sameE.refl _ _)

open Classical in
/-- At how many of the first places a piece ends. -/
noncomputable def howTo (s t : Wd) (k : Nat) : Nat := ((List.range k).filter fun e => decide (endsAt s t (e + 1))).length
theorem howTo_yes {s t : Wd} {k : Nat} (h : endsAt s t (k + 1)) : howTo s t (k + 1) = howTo s t k + 1 := by
  unfold howTo
  rw [List.range_succ, List.filter_append, List.length_append]
  simp [h]
theorem howTo_no {s t : Wd} {k : Nat} (h : ¬ endsAt s t (k + 1)) : howTo s t (k + 1) = howTo s t k := by
  unfold howTo
  rw [List.range_succ, List.filter_append, List.length_append]
  simp [h]
theorem howTo_le (s t : Wd) (k : Nat) : howTo s t k ≤ k := by
  unfold howTo
  exact Nat.le_trans (List.length_filter_le _ _) (by rw [List.length_range]; exact Nat.le_refl _)
/-- A piece ends where its state is an end of the state of the whole text up to there. -/
theorem how_state {s t : Wd} {L : List Sta} {w k i : Nat} (hs : sameE s t (tW L w)) (hk : k ≤ s.length) (hi : tW L i = s.take k) : tW L w <:+ tW L i ↔ endsAt s t k := by
  rw [hs k, hi]
  exact ⟨fun h => ⟨hk, h⟩, fun h => h.2⟩
noncomputable def howN (s t : Wd) : Nat := if t = [] then 0 else howTo s t s.length
theorem howTo_none {s t : Wd} (h : ¬ pcIn s t) (k : Nat) : howTo s t k = 0 := by
  induction k with
  | zero => rfl
  | succ k ih => rw [howTo_no (fun e => h ⟨_, e⟩), ih]

end Go.Proofs.Ytehppjilnacjlaa
