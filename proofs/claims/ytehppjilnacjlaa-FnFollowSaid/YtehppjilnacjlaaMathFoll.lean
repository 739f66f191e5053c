/-
  Plain mathematics of what a machine tells: where a text leads, which pieces there are, how many, and the longest ones at each end. No conditions.
-/
import Derived.Test.YtehppjilnacjlaaMathSize
namespace Go.Proofs.Ytehppjilnacjlaa

/-- A state as the program holds it: its number of bytes, its link, its edges. -/
abbrev Dt := Int × Int × List (Int × Int)
def datL (L : List Sta) : List Dt := L.map fun x => ((x.1.length : Int), x.2.1, x.2.2)
def dtA (L : List Dt) (i : Nat) : Dt := L.getD i (0, 0, [])
theorem datL_len (L : List Sta) : (datL L).length = L.length := by simp [datL]
theorem datL_at {L : List Sta} {i : Nat} (h : i < L.length) : dtA (datL L) i = (((tW L i).length : Int), tK L i, tE L i) := by
  rw [dtA, List.getD_eq_getElem?_getD, List.getElem?_eq_getElem (by rw [datL_len]; exact h)]
  simp [datL, tW, tK, tE, stA_get h]

/-- Follow. -/
def folS (L : List Dt) (at_ : Int) (b : UInt8) : Int := if at_ < 0 then -1 else if toE (dtA L at_.toNat).2.2 (b.toNat : Int) < 0 ∨ (L.length : Int) ≤ toE (dtA L at_.toNat).2.2 (b.toNat : Int) then -1 else toE (dtA L at_.toNat).2.2 (b.toNat : Int)
def folL (L : List Dt) (t : Wd) : Int := t.foldl (folS L) (if L.length = 0 then -1 else 0)
theorem folL_snoc (L : List Dt) (t : Wd) (b : UInt8) : folL L (t ++ [b]) = folS L (folL L t) b := by simp [folL, List.foldl_append]
theorem folL_bounds (L : List Dt) (t : Wd) : -1 ≤ folL L t ∧ folL L t < (L.length : Int) := by
  have key : ∀ n (t : Wd), t.length = n → -1 ≤ folL L t ∧ folL L t < (L.length : Int) := by
    intro n
    induction n with
    | zero =>
      intro t ht
      rw [List.eq_nil_of_length_eq_zero ht, folL, List.foldl_nil]
      split <;> omega
    | succ n ih =>
      intro t ht
      rcases nil_or_snoc t with rfl | ⟨y, b, rfl⟩
      · simp at ht
      · have h := ih y (by simpa using ht)
        rw [folL_snoc, folS]
        split
        · omega
        · split <;> omega
  exact key _ t rfl
/-- Where nothing leads nothing longer does. -/
theorem folL_front {L : List Dt} {t r : Wd} (h : folL L t = -1) : folL L (t ++ r) = -1 := by
  have key : ∀ n (r : Wd), r.length = n → folL L (t ++ r) = -1 := by
    intro n
    induction n with
    | zero => intro r hr; rw [List.eq_nil_of_length_eq_zero hr, List.append_nil]; exact h
    | succ n ih =>
      intro r hr
      rcases nil_or_snoc r with rfl | ⟨y, b, rfl⟩
      · simp at hr
      · rw [← List.append_assoc, folL_snoc, ih y (by simpa using hr), folS, if_pos (by decide)]
  exact key _ r rfl
theorem mach_fol {u : Wd} {L : List Sta} (h : MInv u L) (t : Wd) : (pcIn u t → ∃ i : Nat, i < L.length ∧ folL (datL L) t = i ∧ sameE u t (tW L i)) ∧ (¬ pcIn u t → folL (datL L) t = -1) := by
  have key : ∀ n (t : Wd), t.length = n → (pcIn u t → ∃ i : Nat, i < L.length ∧ folL (datL L) t = i ∧ sameE u t (tW L i)) ∧ (¬ pcIn u t → folL (datL L) t = -1) := by
    intro n
    induction n with
    | zero =>
      intro t ht
      obtain rfl := List.eq_nil_of_length_eq_zero ht
      refine ⟨fun _ => ⟨0, h.inv.pos, ?_, ?_⟩, fun e => absurd (pc_nil u) e⟩
      · rw [folL, List.foldl_nil, datL_len, if_neg (by have := h.inv.pos; omega)]; rfl
      · rw [h.inv.w0]; exact sameE.refl _ _
    | succ n ih =>
      intro t ht
      rcases nil_or_snoc t with rfl | ⟨y, b, rfl⟩
      · simp at ht
      · obtain ⟨h1, h2⟩ := ih y (by simpa using ht)
        rw [folL_snoc]
        by_cases hy : pcIn u y
        · obtain ⟨i, hi, e, hs⟩ := h1 hy
          have hs2 := same_snoc hs b
          rw [e, folS, if_neg (by omega), Int.toNat_natCast, datL_at hi, datL_len]
          refine ⟨fun hp => ?_, fun hp => ?_⟩
          · obtain ⟨j, hj, e1, e2⟩ := h.inv.yes i hi b (pc_same hs2 hp)
            have e3 : toE (tE L i) (b.toNat : Int) = (j : Int) := e1
            refine ⟨j, hj, ?_, hs2.trans e2⟩
            simp only [e3]
            rw [if_neg (by omega)]
          · have e3 : toE (tE L i) (b.toNat : Int) = -1 := h.inv.no i hi b (fun e => hp (pc_same hs2.symm e))
            simp only [e3]
            rw [if_pos (.inl (by decide))]
        · refine ⟨fun hp => absurd (pc_front hp) hy, fun _ => ?_⟩
          rw [h2 hy, folS, if_pos (by decide)]
  exact key _ t rfl
theorem mach_has (s t : Wd) : 0 ≤ folL (datL (machL s)) t ↔ pcIn s t := by
  obtain ⟨h1, h2⟩ := mach_fol (machL_inv s) t
  constructor
  · intro h
    refine Classical.byContradiction fun e => ?_
    rw [h2 e] at h
    omega
  · intro h
    obtain ⟨i, _, e, _⟩ := h1 h
    omega
/-- Two pieces lead to one state just if they stand at the same ends. -/
theorem same_ends {s p q : Wd} (hp : pcIn s p) (hq : pcIn s q) : folL (datL (machL s)) p = folL (datL (machL s)) q ↔ sameE s p q := by
  have hM := machL_inv s
  obtain ⟨i, hi, e1, s1⟩ := (mach_fol hM p).1 hp
  obtain ⟨j, hj, e2, s2⟩ := (mach_fol hM q).1 hq
  rw [e1, e2]
  constructor
  · intro e
    obtain rfl : i = j := by omega
    exact s1.trans s2.symm
  · intro e
    rw [hM.inv.inj i j hi hj (s1.symm.trans (e.trans s2))]
theorem pc_cut {s t : Wd} : pcIn s t ↔ ∃ k, k + t.length ≤ s.length ∧ (s.drop k).take t.length = t := by
  constructor
  · rintro ⟨e, he⟩
    have h1 := endsAt_len he
    have h2 := ends_cut he
    refine ⟨e - t.length, by have := he.1; omega, ?_⟩
    rw [List.drop_take, show e - (e - t.length) = t.length by omega] at h2
    exact h2.symm
  · rintro ⟨k, h1, h2⟩
    refine ⟨k + t.length, h1, s.take k, ?_⟩
    rw [List.take_add, h2]
theorem ends_place {s t : Wd} {e : Nat} : endsAt s t e ↔ t.length ≤ e ∧ e ≤ s.length ∧ (s.drop (e - t.length)).take t.length = t := by
  constructor
  · intro he
    have h1 := endsAt_len he
    have h2 := ends_cut he
    rw [List.drop_take, show e - (e - t.length) = t.length by omega] at h2
    exact ⟨h1, he.1, h2.symm⟩
  · rintro ⟨h1, h2, h3⟩
    refine ⟨h2, s.take (e - t.length), ?_⟩
    have h4 := List.take_add (l := s) (i := e - t.length) (j := t.length)
    rw [h3, show e - t.length + t.length = e by omega] at h4
    exact h4.symm

/-- The first state, its link; links lead to fewer bytes, edges to more. -/
theorem mach_head {u : Wd} {L : List Sta} (h : MInv u L) : 0 < L.length ∧ dtA (datL L) 0 = (0, -1, tE L 0) := by
  refine ⟨h.inv.pos, ?_⟩
  rw [datL_at h.inv.pos, h.inv.w0, h.inv.k0]; rfl
theorem mach_link {u : Wd} {L : List Sta} (h : MInv u L) {i : Nat} (hi : i < L.length) (h0 : 0 < i) : ∃ j : Nat, j < L.length ∧ tK L i = j ∧ (tW L j).length < (tW L i).length := by
  obtain ⟨j, hj, h1, h2, h3, _⟩ := h.inv.link i hi h0
  refine ⟨j, hj, h1, ?_⟩
  rcases Nat.lt_or_ge (tW L j).length (tW L i).length with hl | hl
  · exact hl
  · exact absurd (by rw [h2.eq_of_length (Nat.le_antisymm h2.length_le hl)]; exact sameE.refl _ _) h3
theorem mach_edge {u : Wd} {L : List Sta} (h : MInv u L) {i : Nat} {k t : Int} (hi : i < L.length) (he : (k, t) ∈ tE L i) : ∃ j : Nat, t = j ∧ 0 < j ∧ j < L.length ∧ (tW L i).length < (tW L j).length := by
  obtain ⟨b, j, _, e2, hj, h0, _, _, h1⟩ := edge_is h hi he
  have h2 := h1.length_le
  rw [List.length_append, List.length_singleton] at h2
  exact ⟨j, e2, h0, hj, by omega⟩

/-- How many pieces: sums. -/
def sumI (n : Nat) (f : Nat → Int) : Int := ((List.range n).map f).sum
theorem sumI_succ (n : Nat) (f : Nat → Int) : sumI (n + 1) f = sumI n f + f n := by
  rw [sumI, List.range_succ, List.map_append, List.sum_append]; simp [sumI]
theorem sumI_same {n : Nat} {f g : Nat → Int} (h : ∀ i, i < n → f i = g i) : sumI n f = sumI n g := by
  induction n with
  | zero => rfl
  | succ n ih => rw [sumI_succ, sumI_succ, ih (fun i hi => h i (by omega)), h n (by omega)]
theorem sumI_one {n : Nat} {f g : Nat → Int} {q : Nat} (hq : q < n) (h : ∀ i, i < n → i ≠ q → f i = g i) : sumI n f = sumI n g + (f q - g q) := by
  induction n with
  | zero => omega
  | succ n ih =>
    rw [sumI_succ, sumI_succ]
    by_cases e : q = n
    · subst e
      rw [sumI_same (fun i hi => h i (by omega) (by omega))]
      omega
    · rw [ih (by omega) (fun i hi => h i (by omega)), h n (by omega) (fun e2 => e e2.symm)]
      omega
def gapI (L : List Sta) (i : Nat) : Int := ((tW L i).length : Int) - ((tW L (tK L i).toNat).length : Int)
def cntL (L : List Sta) : Int := sumI (L.length - 1) fun i => gapI L (i + 1)
theorem cnt_next {u : Wd} {L : List Sta} (h : MInv u L) {a : UInt8} {q : Nat} (hq : q < L.length) : cntL (nextL u L a (q : Int)) = cntL L + ((u.length : Int) + 1 - ((tW L q).length : Int)) := by
  have hlen : (nextL u L a (q : Int)).length = L.length + 1 := by simp [nextL]
  have hl : ∀ i, i < L.length → stA (nextL u L a (q : Int)) i = up1 u a L.length (stA L i) := fun i hi => by
    rw [nextL, stA_left (by rw [List.length_map]; exact hi), map_st hi]
  have hn : stA (nextL u L a (q : Int)) L.length = (u ++ [a], (q : Int), []) := by
    have := stA_right (L := L.map (up1 u a L.length)) (M := [(u ++ [a], (q : Int), [])]) (i := 0)
    rw [List.length_map, Nat.add_zero] at this
    rw [nextL, this]; rfl
  have hw : ∀ i, i < L.length → tW (nextL u L a (q : Int)) i = tW L i := fun i hi => by rw [tW, hl i hi, (up1_w _ _ _ _).1]; rfl
  have hk : ∀ i, i < L.length → tK (nextL u L a (q : Int)) i = tK L i := fun i hi => by rw [tK, hl i hi, (up1_w _ _ _ _).2]; rfl
  have hpos := h.inv.pos
  rw [cntL, hlen, cntL, Nat.add_sub_cancel]
  obtain ⟨m, hm⟩ : ∃ m, L.length = m + 1 := ⟨L.length - 1, by omega⟩
  rw [hm, sumI_succ, Nat.add_sub_cancel]
  have e1 : sumI m (fun i => gapI (nextL u L a (q : Int)) (i + 1)) = sumI m (fun i => gapI L (i + 1)) := sumI_same fun i hi => by
    obtain ⟨j, hj, h1, _⟩ := mach_link h (show i + 1 < L.length by omega) (by omega)
    rw [gapI, gapI, hw _ (by omega), hk _ (by omega), h1, Int.toNat_natCast, hw j hj]
  have e2 : gapI (nextL u L a (q : Int)) (m + 1) = (u.length : Int) + 1 - ((tW L q).length : Int) := by
    rw [← hm, gapI, tW, tK, hn]
    simp only [Int.toNat_natCast]
    rw [hw q hq, List.length_append, List.length_singleton]
    omega
  rw [e1, e2]
theorem cnt_split {u : Wd} {L : List Sta} (h : MInv u L) {a : UInt8} {p q : Nat} (hp : IsTop u L a p) (hqt : tT L p a = (q : Int)) (_hne : tW L q ≠ tW L p ++ [a]) : cntL (splitL u L a p q) = cntL L + ((u.length : Int) + 1 - ((tW L p ++ [a]).length : Int)) := by
  obtain ⟨j, hj, h1, h2⟩ := h.inv.yes p hp.lt a hp.pc
  obtain rfl : q = j := by rw [hqt] at h1; omega
  have hzq := h.inv.mx q hj _ h2
  have hq0 : 0 < q := by
    rcases Nat.eq_zero_or_pos q with e | e
    · rw [e, h.inv.w0] at hzq
      have := hzq.length_le
      simp at this
    · exact e
  have hlen : (splitL u L a p q).length = L.length + 2 := by simp [splitL]
  have hm : ∀ i, i < L.length → stA (L.map (up1 u a L.length)) i = up1 u a L.length (stA L i) := fun i hi => map_st hi
  have hl : ∀ i, i < L.length → stA (splitL u L a p q) i = up2 u a L.length q (L.map (up1 u a L.length)) i := fun i hi => by
    rw [splitL, stA_left (by simpa using hi), range_st hi]
  have hn : ∀ k, stA (splitL u L a p q) (L.length + k) = stA [(u ++ [a], ((L.length + 1 : Nat) : Int), []), (tW L p ++ [a], tK L q, tE (L.map (up1 u a L.length)) q)] k := fun k => by
    have := stA_right (L := (List.range L.length).map (up2 u a L.length q (L.map (up1 u a L.length)))) (M := [(u ++ [a], ((L.length + 1 : Nat) : Int), []), (tW L p ++ [a], tK L q, tE (L.map (up1 u a L.length)) q)]) (i := k)
    rw [List.length_map, List.length_range] at this
    rw [splitL, this]
  have hn0 := hn 0
  have hn1 := hn 1
  rw [Nat.add_zero] at hn0
  have hw : ∀ i, i < L.length → tW (splitL u L a p q) i = tW L i := fun i hi => by
    rw [tW, hl i hi]
    show tW (L.map (up1 u a L.length)) i = _
    rw [tW, hm i hi, (up1_w _ _ _ _).1]; rfl
  have hk0 : ∀ i, i < L.length → tK (L.map (up1 u a L.length)) i = tK L i := fun i hi => by rw [tK, hm i hi, (up1_w _ _ _ _).2]; rfl
  have hk : ∀ i, i < L.length → i ≠ q → tK (splitL u L a p q) i = tK L i := fun i hi hiq => by rw [tK, hl i hi, (up2_link _ _ _ _ _ _).2 hiq]; exact hk0 i hi
  have hkq : tK (splitL u L a p q) q = ((L.length + 1 : Nat) : Int) := by rw [tK, hl q hj, (up2_link _ _ _ _ _ _).1 rfl]
  have hwz : tW (splitL u L a p q) (L.length + 1) = tW L p ++ [a] := by rw [tW, hn1]; rfl
  obtain ⟨r, hr, hr1, _⟩ := mach_link h hj hq0
  have hpos := h.inv.pos
  rw [cntL, hlen, cntL]
  obtain ⟨m, hm1⟩ : ∃ m, L.length = m + 1 := ⟨L.length - 1, by omega⟩
  rw [hm1, show m + 1 + 2 - 1 = m + 1 + 1 by omega, sumI_succ, sumI_succ, Nat.add_sub_cancel]
  have e1 : sumI m (fun i => gapI (splitL u L a p q) (i + 1)) = sumI m (fun i => gapI L (i + 1)) + (gapI (splitL u L a p q) q - gapI L q) := by
    have h5 := sumI_one (n := m) (f := fun i => gapI (splitL u L a p q) (i + 1)) (g := fun i => gapI L (i + 1)) (q := q - 1) (by omega) (fun i hi hiq => by
      obtain ⟨j, hj, g1, _⟩ := mach_link h (show i + 1 < L.length by omega) (by omega)
      rw [gapI, gapI, hw _ (by omega), hk _ (by omega) (by omega), g1, Int.toNat_natCast, hw j hj])
    simp only [show q - 1 + 1 = q by omega] at h5
    exact h5
  have e2 : gapI (splitL u L a p q) (m + 1) = (u.length : Int) + 1 - ((tW L p ++ [a]).length : Int) := by
    rw [← hm1, gapI, tW, tK, hn0]
    have e3 : (stA [(u ++ [a], ((L.length + 1 : Nat) : Int), []), (tW L p ++ [a], tK L q, tE (L.map (up1 u a L.length)) q)] 0) = (u ++ [a], ((L.length + 1 : Nat) : Int), []) := rfl
    rw [e3]
    simp only [Int.toNat_natCast]
    rw [hwz, List.length_append, List.length_singleton]
    omega
  have e3 : gapI (splitL u L a p q) (m + 1 + 1) = ((tW L p ++ [a]).length : Int) - ((tW L r).length : Int) := by
    rw [← hm1, gapI, hwz, tK, hn1]
    have e4 : (stA [(u ++ [a], ((L.length + 1 : Nat) : Int), []), (tW L p ++ [a], tK L q, tE (L.map (up1 u a L.length)) q)] 1).2.1 = tK L q := rfl
    rw [e4, hr1, Int.toNat_natCast, hw r hr]
  have e4 : gapI (splitL u L a p q) q = ((tW L q).length : Int) - ((tW L p ++ [a]).length : Int) := by
    rw [gapI, hw q hj, hkq, Int.toNat_natCast, hwz]
  have e5 : gapI L q = ((tW L q).length : Int) - ((tW L r).length : Int) := by rw [gapI, hr1, Int.toNat_natCast]
  rw [e1, e2, e3, e4, e5]
  omega
theorem long_ex (u : Wd) (a : UInt8) : ∃ z, LongZ u a z := by
  have key : ∀ w : Wd, w <:+ u ++ [a] → ∃ z, z <:+ w ∧ pcIn u z ∧ ∀ x, x <:+ w → pcIn u x → x <:+ z := by
    intro w
    induction w with
    | nil => intro _; exact ⟨[], List.nil_suffix, pc_nil u, fun x hx _ => hx⟩
    | cons c w ih =>
      intro hw
      by_cases hp : pcIn u (c :: w)
      · exact ⟨_, List.suffix_refl _, hp, fun x hx _ => hx⟩
      · obtain ⟨z, h1, h2, h3⟩ := ih ((List.suffix_cons c w).trans hw)
        refine ⟨z, h1.trans (List.suffix_cons c w), h2, fun x hx hxp => ?_⟩
        rcases List.suffix_cons_iff.1 hx with e | e
        · rw [e] at hxp; exact absurd hxp hp
        · exact h3 x e hxp
  obtain ⟨z, h1, h2, h3⟩ := key (u ++ [a]) (List.suffix_refl _)
  exact ⟨z, h1, h2, h3⟩
theorem LongZ.unique {u : Wd} {a : UInt8} {z y : Wd} (h : LongZ u a z) (k : LongZ u a y) : z = y := by
  have h1 := k.top z h.suf h.pc
  have h2 := h.top y k.suf k.pc
  exact h1.eq_of_length (Nat.le_antisymm h1.length_le h2.length_le)
theorem cnt_step {u : Wd} {L : List Sta} (h : MInv u L) {a : UInt8} {z : Wd} (hz : LongZ u a z) : cntL (stepM u L a) = cntL L + ((u.length : Int) + 1 - (z.length : Int)) := by
  by_cases ht : ∃ p, IsTop u L a p
  · obtain ⟨p, hp⟩ := ht
    obtain ⟨q, hq, h1, h2⟩ := h.inv.yes p hp.lt a hp.pc
    rw [stepM_some h hp h1]
    have e := hz.unique (top_z h hp)
    split
    · rename_i he
      rw [cnt_next h hq, he, e]
    · rename_i he
      rw [cnt_split h hp h1 he, e]
  · have hs : stepM u L a = nextL u L a ((0 : Nat) : Int) := by rw [stepM, dif_neg ht]; rfl
    rw [hs, cnt_next h h.inv.pos]
    obtain ⟨z', hz'⟩ : ∃ z', z' = ([] : Wd) := ⟨_, rfl⟩
    have hno : ∀ i, i < L.length → tW L i <:+ u → ¬ pcIn u (tW L i ++ [a]) := by
      have key : ∀ m i, i < L.length → tW L i <:+ u → pcIn u (tW L i ++ [a]) → u.length - (tW L i).length ≤ m → False := by
        intro m
        induction m with
        | zero =>
          intro i hi h1 h2 hm
          exact ht ⟨i, hi, h1, h2, fun j _ hj _ => by have := hj.length_le; omega⟩
        | succ m ih =>
          intro i hi h1 h2 hm
          refine ht ⟨i, hi, h1, h2, fun j hj k1 k2 => ?_⟩
          rcases Nat.lt_or_ge (tW L i).length (tW L j).length with hl | hl
          · exact (ih j hj k1 k2 (by have := k1.length_le; omega)).elim
          · exact hl
      intro i hi h1 h2
      exact key _ i hi h1 h2 (Nat.le_refl _)
    rw [hz.unique (no_top_z h hno), h.inv.w0]

open Classical in
/-- A piece that ends here, and nowhere before. -/
noncomputable def newP (s : Wd) (i k : Nat) : Int := if pcIn (s.take k) ((s.take (k + 1)).drop i) then 0 else 1
open Classical in
theorem new_row {u : Wd} {a : UInt8} {z : Wd} (hz : LongZ u a z) (m : Nat) (hm : m ≤ u.length + 1) : sumI m (fun i => if pcIn u ((u ++ [a]).drop i) then 0 else 1) = ((min m (u.length + 1 - z.length) : Nat) : Int) := by
  have hzl : z.length ≤ u.length + 1 := by have := hz.suf.length_le; rw [List.length_append, List.length_singleton] at this; exact this
  induction m with
  | zero => simp [sumI]
  | succ m ih =>
    rw [sumI_succ, ih (by omega)]
    have hs : (u ++ [a]).drop m <:+ u ++ [a] := List.drop_suffix _ _
    have hl : ((u ++ [a]).drop m).length = u.length + 1 - m := by rw [List.length_drop, List.length_append, List.length_singleton]
    by_cases hp : pcIn u ((u ++ [a]).drop m)
    · have h1 := (hz.top _ hs hp).length_le
      rw [if_pos hp]
      omega
    · have h1 : ¬ u.length + 1 - m ≤ z.length := fun e => hp (pc_sub (List.suffix_of_suffix_length_le hs hz.suf (by omega)) hz.pc)
      rw [if_neg hp]
      omega
theorem cnt_mach (s : Wd) (k : Nat) (hk : k ≤ s.length) : cntL (machK s k) = sumI k fun e => sumI (e + 1) fun i => newP s i e := by
  induction k with
  | zero => rfl
  | succ k ih =>
    rw [sumI_succ, ← ih (by omega), machK]
    have hM := machK_inv s k (by omega)
    obtain ⟨z, hz⟩ := long_ex (s.take k) (s.getD k 0)
    have hl : (s.take k).length = k := by rw [List.length_take]; omega
    have e : s.take (k + 1) = s.take k ++ [s.getD k 0] := by
      rw [List.take_succ_eq_append_getElem (by omega), List.getD_eq_getElem?_getD, List.getElem?_eq_getElem (by omega)]; rfl
    have h1 := new_row hz (k + 1) (by rw [hl]; exact Nat.le_refl _)
    rw [hl, ← e] at h1
    have h2 : (sumI (k + 1) fun i => newP s i k) = ((min (k + 1) (k + 1 - z.length) : Nat) : Int) := h1
    have hzl : z.length ≤ k + 1 := by have := hz.suf.length_le; rw [List.length_append, List.length_singleton, hl] at this; exact this
    rw [cnt_step hM hz, hl, h2]
    omega

end Go.Proofs.Ytehppjilnacjlaa
