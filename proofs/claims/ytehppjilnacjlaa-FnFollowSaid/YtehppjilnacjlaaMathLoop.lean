/-
  Plain mathematics of how one byte more is laid into a machine, state by state along the links. No conditions.
-/
import Derived.Test.YtehppjilnacjlaaMathMach
namespace Go.Proofs.Ytehppjilnacjlaa

open Classical in
/-- The edges when the states of the path with so many bytes or more have got an edge to the new state. -/
noncomputable def edH (u : Wd) (L : List Sta) (a : UInt8) (h i : Nat) : List (Int × Int) := if tW L i <:+ u ∧ ¬ pcIn u (tW L i ++ [a]) ∧ h ≤ (tW L i).length then setE (tE L i) (a.toNat : Int) (L.length : Int) else tE L i
theorem edH_below {u : Wd} {L : List Sta} {a : UInt8} {h i : Nat} (hl : (tW L i).length < h) : edH u L a h i = tE L i := by rw [edH, if_neg (fun e => by omega)]
theorem edH_start {u : Wd} {L : List Sta} {a : UInt8} {h i : Nat} (hl : u.length < h) : edH u L a h i = tE L i := by rw [edH, if_neg (fun e => by have := e.1.length_le; omega)]
theorem edH_one {u : Wd} {L : List Sta} {a : UInt8} {i : Nat} (h1 : tW L i <:+ u) (h2 : ¬ pcIn u (tW L i ++ [a])) : edH u L a (tW L i).length i = setE (tE L i) (a.toNat : Int) (L.length : Int) := by rw [edH, if_pos ⟨h1, h2, Nat.le_refl _⟩]
theorem edH_other {u : Wd} {L : List Sta} (hM : MInv u L) {a : UInt8} {i e : Nat} (hi : i < L.length) (he : e < L.length) (h1 : tW L i <:+ u) (hne : e ≠ i) : edH u L a (tW L i).length e = edH u L a ((tW L i).length + 1) e := by
  unfold edH
  by_cases hc : tW L e <:+ u ∧ ¬ pcIn u (tW L e ++ [a]) ∧ (tW L i).length ≤ (tW L e).length
  · have h3 : (tW L e).length ≠ (tW L i).length := fun x => hne (hM.same_len he hi hc.1 h1 x)
    rw [if_pos hc, if_pos ⟨hc.1, hc.2.1, by omega⟩]
  · rw [if_neg hc, if_neg (fun x => hc ⟨x.1, x.2.1, by omega⟩)]
theorem edH_link {u : Wd} {L : List Sta} {a : UInt8} {i j e : Nat} (he : e < L.length) (hl : (tW L j).length < (tW L i).length) (hk : ∀ k, k < L.length → tW L k <:+ u → (tW L k).length < (tW L i).length → (tW L k).length ≤ (tW L j).length) : edH u L a ((tW L j).length + 1) e = edH u L a (tW L i).length e := by
  unfold edH
  by_cases hc : tW L e <:+ u ∧ ¬ pcIn u (tW L e ++ [a]) ∧ (tW L i).length ≤ (tW L e).length
  · rw [if_pos hc, if_pos ⟨hc.1, hc.2.1, by omega⟩]
  · rw [if_neg hc, if_neg (fun x => hc ⟨x.1, x.2.1, by
      rcases Nat.lt_or_ge (tW L e).length (tW L i).length with h1 | h1
      · have := hk e he x.1 h1
        omega
      · exact h1⟩)]
theorem edH_zero {u : Wd} {L : List Sta} {a : UInt8} {e : Nat} : edH u L a 0 e = (up1 u a L.length (stA L e)).2.2 := by
  unfold edH
  by_cases hc : tW L e <:+ u ∧ ¬ pcIn u (tW L e ++ [a])
  · rw [if_pos ⟨hc.1, hc.2, Nat.zero_le _⟩, up1_yes hc.1 hc.2]; rfl
  · rw [if_neg (fun x => hc ⟨x.1, x.2.1⟩), up1_no hc]; rfl
theorem edH_done {u : Wd} {L : List Sta} {a : UInt8} {p : Nat} (hp : IsTop u L a p) {e : Nat} : edH u L a ((tW L p).length + 1) e = (up1 u a L.length (stA L e)).2.2 := by
  unfold edH
  by_cases hc : tW L e <:+ u ∧ ¬ pcIn u (tW L e ++ [a])
  · have h1 : (tW L p).length + 1 ≤ (tW L e).length := by
      rcases Nat.lt_or_ge (tW L p).length (tW L e).length with h | h
      · exact h
      · exact absurd (pc_sub (snoc_suffix.2 ⟨rfl, path_cmp hc.1 hp.path h⟩) hp.pc) hc.2
    rw [if_pos ⟨hc.1, hc.2, h1⟩, up1_yes hc.1 hc.2]; rfl
  · rw [if_neg (fun x => hc ⟨x.1, x.2.1⟩), up1_no hc]; rfl

/-- If a state of the path goes on by the byte to the one that is split, each longer one that goes on does, too. -/
theorem path_same {u : Wd} {L : List Sta} (hM : MInv u L) {a : UInt8} {p q : Nat} (hp : IsTop u L a p) (hq : tT L p a = (q : Int)) {i e : Nat} (hi : i < L.length) (he : e < L.length) (h1 : tW L i <:+ u) (h2 : pcIn u (tW L i ++ [a])) (h3 : tW L e <:+ u) (hl : (tW L e).length ≤ (tW L i).length) (h4 : pcIn u (tW L e ++ [a])) (h5 : tT L e a = (q : Int)) : tT L i a = (q : Int) := by
  obtain ⟨j, hj, e1, s1⟩ := hM.inv.yes e he a h4
  obtain rfl : q = j := by omega
  obtain ⟨k, hk, e2, s2⟩ := hM.inv.yes p hp.lt a hp.pc
  obtain rfl : q = k := by omega
  obtain ⟨r, hr, e3, s3⟩ := hM.inv.yes i hi a h2
  have m1 : tW L e ++ [a] <:+ tW L i ++ [a] := snoc_suffix.2 ⟨rfl, path_cmp h3 h1 hl⟩
  have m2 : tW L i ++ [a] <:+ tW L p ++ [a] := snoc_suffix.2 ⟨rfl, path_cmp h1 hp.path (hp.top i hi h1 h2)⟩
  have m3 := same_mid m1 m2 (s1.trans s2.symm)
  have m4 := hM.inv.inj r q hr hj (s3.symm.trans (m3.trans s2))
  rw [e3, m4]

open Classical in
/-- The edges when the states of the path with so many bytes or more lead to the new part. -/
noncomputable def edG (u : Wd) (L : List Sta) (a : UInt8) (q h i : Nat) : List (Int × Int) := if tW L i <:+ u ∧ pcIn u (tW L i ++ [a]) ∧ tT L i a = (q : Int) ∧ h ≤ (tW L i).length then setE (up1 u a L.length (stA L i)).2.2 (a.toNat : Int) ((L.length + 1 : Nat) : Int) else (up1 u a L.length (stA L i)).2.2
theorem edG_start {u : Wd} {L : List Sta} {a : UInt8} {p q : Nat} (hp : IsTop u L a p) {i : Nat} (hi : i < L.length) : edG u L a q ((tW L p).length + 1) i = (up1 u a L.length (stA L i)).2.2 := by
  rw [edG, if_neg (fun e => by have := hp.top i hi e.1 e.2.1; omega)]
theorem edG_below {u : Wd} {L : List Sta} {a : UInt8} {q h i : Nat} (h1 : pcIn u (tW L i ++ [a])) (hl : (tW L i).length < h) : edG u L a q h i = tE L i := by
  rw [edG, if_neg (fun e => by omega), up1_no (fun e => e.2 h1)]; rfl
theorem edG_one {u : Wd} {L : List Sta} {a : UInt8} {q i : Nat} (h1 : tW L i <:+ u) (h2 : pcIn u (tW L i ++ [a])) (h3 : tT L i a = (q : Int)) : edG u L a q (tW L i).length i = setE (tE L i) (a.toNat : Int) ((L.length + 1 : Nat) : Int) := by
  rw [edG, if_pos ⟨h1, h2, h3, Nat.le_refl _⟩, up1_no (fun e => e.2 h2)]; rfl
theorem edG_other {u : Wd} {L : List Sta} (hM : MInv u L) {a : UInt8} {q i e : Nat} (hi : i < L.length) (he : e < L.length) (h1 : tW L i <:+ u) (hne : e ≠ i) : edG u L a q (tW L i).length e = edG u L a q ((tW L i).length + 1) e := by
  unfold edG
  by_cases hc : tW L e <:+ u ∧ pcIn u (tW L e ++ [a]) ∧ tT L e a = (q : Int) ∧ (tW L i).length ≤ (tW L e).length
  · have h3 : (tW L e).length ≠ (tW L i).length := fun x => hne (hM.same_len he hi hc.1 h1 x)
    rw [if_pos hc, if_pos ⟨hc.1, hc.2.1, hc.2.2.1, by omega⟩]
  · rw [if_neg hc, if_neg (fun x => hc ⟨x.1, x.2.1, x.2.2.1, by omega⟩)]
theorem edG_link {u : Wd} {L : List Sta} {a : UInt8} {q i j e : Nat} (he : e < L.length) (hl : (tW L j).length < (tW L i).length) (hk : ∀ k, k < L.length → tW L k <:+ u → (tW L k).length < (tW L i).length → (tW L k).length ≤ (tW L j).length) : edG u L a q ((tW L j).length + 1) e = edG u L a q (tW L i).length e := by
  unfold edG
  by_cases hc : tW L e <:+ u ∧ pcIn u (tW L e ++ [a]) ∧ tT L e a = (q : Int) ∧ (tW L i).length ≤ (tW L e).length
  · rw [if_pos hc, if_pos ⟨hc.1, hc.2.1, hc.2.2.1, by omega⟩]
  · rw [if_neg hc, if_neg (fun x => hc ⟨x.1, x.2.1, x.2.2.1, by
      rcases Nat.lt_or_ge (tW L e).length (tW L i).length with h1 | h1
      · have := hk e he x.1 h1
        omega
      · exact h1⟩)]
/-- All states that lead to the one that is split are done. -/
theorem edG_all {u : Wd} {L : List Sta} {a : UInt8} {q h e : Nat} (he : e < L.length) (hd : ∀ i, i < L.length → tW L i <:+ u → pcIn u (tW L i ++ [a]) → tT L i a = (q : Int) → h ≤ (tW L i).length) : edG u L a q h e = (up2 u a L.length q (L.map (up1 u a L.length)) e).2.2 := by
  have hm : stA (L.map (up1 u a L.length)) e = up1 u a L.length (stA L e) := map_st he
  have hw : tW (L.map (up1 u a L.length)) e = tW L e := by rw [tW, hm, (up1_w _ _ _ _).1]; rfl
  have hE : tE (L.map (up1 u a L.length)) e = (up1 u a L.length (stA L e)).2.2 := by rw [tE, hm]
  by_cases hc : tW L e <:+ u ∧ pcIn u (tW L e ++ [a]) ∧ tT L e a = (q : Int)
  · have ht : tT (L.map (up1 u a L.length)) e a = (q : Int) := by
      rw [tT, hE, up1_no (fun x => x.2 hc.2.1)]; exact hc.2.2
    rw [edG, if_pos ⟨hc.1, hc.2.1, hc.2.2, hd e he hc.1 hc.2.1 hc.2.2⟩, up2_yes ⟨by rw [hw]; exact hc.1, by rw [hw]; exact hc.2.1, ht⟩, hE]
  · rw [edG, if_neg (fun x => hc ⟨x.1, x.2.1, x.2.2.1⟩), up2_no (fun x => hc (by
      rw [hw] at x
      refine ⟨x.1, x.2.1, ?_⟩
      have h3 := x.2.2
      rw [tT, hE, up1_no (fun y => y.2 x.2.1)] at h3
      exact h3)), hE]
theorem edG_zero {u : Wd} {L : List Sta} {a : UInt8} {q e : Nat} (he : e < L.length) : edG u L a q 0 e = (up2 u a L.length q (L.map (up1 u a L.length)) e).2.2 := edG_all he (fun _ _ _ _ _ => Nat.zero_le _)
theorem edG_done {u : Wd} {L : List Sta} (hM : MInv u L) {a : UInt8} {p q : Nat} (hp : IsTop u L a p) (hq : tT L p a = (q : Int)) {i : Nat} (hi : i < L.length) (h1 : tW L i <:+ u) (h2 : pcIn u (tW L i ++ [a])) (h3 : tT L i a ≠ (q : Int)) {e : Nat} (he : e < L.length) : edG u L a q ((tW L i).length + 1) e = (up2 u a L.length q (L.map (up1 u a L.length)) e).2.2 :=
  edG_all he (fun k hk k1 k2 k3 => by
    rcases Nat.lt_or_ge (tW L i).length (tW L k).length with h | h
    · exact h
    · exact absurd (path_same hM hp hq hi hk h1 h2 k1 h k2 k3) h3)
/-- Behind a state of the path that goes on, the shorter ones go on. -/
theorem path_on {u : Wd} {L : List Sta} {a : UInt8} {i e : Nat} (h1 : tW L i <:+ u) (h2 : pcIn u (tW L i ++ [a])) (h3 : tW L e <:+ u) (hl : (tW L e).length ≤ (tW L i).length) : pcIn u (tW L e ++ [a]) := pc_sub (snoc_suffix.2 ⟨rfl, path_cmp h3 h1 hl⟩) h2
theorem edges_few {u : Wd} {L : List Sta} (h : MInv u L) {i : Nat} (hi : i < L.length) : (tE L i).length ≤ 256 := by
  have h1 : ((tE L i).map fun e => e.1.toNat).Pairwise (· < ·) := by
    rw [List.pairwise_map]
    refine List.Pairwise.imp_of_mem ?_ (h.asc i hi)
    intro p q hp hq hpq
    obtain ⟨_, b, hb⟩ := h.key i hi p hp
    obtain ⟨_, c, hc⟩ := h.key i hi q hq
    omega
  have h2 : ∀ x ∈ (tE L i).map fun e => e.1.toNat, x < 256 := by
    intro x hx
    obtain ⟨e, he, rfl⟩ := List.mem_map.1 hx
    obtain ⟨_, b, hb⟩ := h.key i hi e he
    have := b.toNat_lt
    omega
  have key : ∀ (m : Nat) (l : List Nat), l.Pairwise (· < ·) → (∀ x ∈ l, x < m) → l.length ≤ m := by
    intro m
    induction m with
    | zero => intro l _ hl; cases l with
      | nil => simp
      | cons x l => have := hl x (by simp); omega
    | succ m ih =>
      intro l hp hl
      rcases List.eq_nil_or_concat l with rfl | ⟨y, b, rfl⟩
      · simp
      · rw [List.concat_eq_append] at hp hl ⊢
        rw [List.pairwise_append] at hp
        have h3 := ih y hp.1 (fun x hx => by have h4 := hp.2.2 x hx b (by simp); have := hl b (by simp); omega)
        rw [List.length_append, List.length_singleton]
        omega
  have h3 := key 256 _ h1 h2
  rwa [List.length_map] at h3

end Go.Proofs.Ytehppjilnacjlaa
