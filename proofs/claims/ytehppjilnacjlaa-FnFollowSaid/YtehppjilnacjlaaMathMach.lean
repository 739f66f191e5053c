/-
  Plain mathematics of the machine of a text as a row of states: the longest piece of each, its link, its edges by ascending bytes; one step for each byte. No conditions.
-/
import Derived.Test.YtehppjilnacjlaaMathAuto
namespace Go.Proofs.Ytehppjilnacjlaa

/-- Edges: where one leads, and one more laid. -/
def toE : List (Int × Int) → Int → Int
  | [], _ => -1
  | e :: es, a => if e.1 = a then e.2 else toE es a
def setE : List (Int × Int) → Int → Int → List (Int × Int)
  | [], a, t => [(a, t)]
  | e :: es, a, t => if e.1 < a then e :: setE es a t else if e.1 = a then (a, t) :: es else (a, t) :: e :: es
theorem toE_set (es : List (Int × Int)) (a t : Int) : toE (setE es a t) a = t := by
  induction es with
  | nil => simp [setE, toE]
  | cons e es ih =>
    unfold setE
    by_cases h1 : e.1 < a
    · rw [if_pos h1, toE, if_neg (by omega)]; exact ih
    · rw [if_neg h1]
      by_cases h2 : e.1 = a
      · rw [if_pos h2, toE, if_pos rfl]
      · rw [if_neg h2, toE, if_pos rfl]
theorem toE_other (es : List (Int × Int)) (a t b : Int) (hb : b ≠ a) : toE (setE es a t) b = toE es b := by
  induction es with
  | nil => simp [setE, toE, Ne.symm hb]
  | cons e es ih =>
    unfold setE
    by_cases h1 : e.1 < a
    · rw [if_pos h1, toE, toE, ih]
    · rw [if_neg h1]
      by_cases h2 : e.1 = a
      · rw [if_pos h2, toE, if_neg (fun e => hb e.symm), toE, if_neg (by omega)]
      · rw [if_neg h2, toE, if_neg (fun e => hb e.symm)]
theorem setE_mem {es : List (Int × Int)} {a t : Int} {e : Int × Int} (h : e ∈ setE es a t) : e ∈ es ∨ e = (a, t) := by
  induction es with
  | nil => exact .inr (by simpa [setE] using h)
  | cons f es ih =>
    unfold setE at h
    split at h
    · rcases List.mem_cons.1 h with h | h
      · exact .inl (by simp [h])
      · rcases ih h with h | h
        · exact .inl (by simp [h])
        · exact .inr h
    · split at h
      · rcases List.mem_cons.1 h with h | h
        · exact .inr h
        · exact .inl (by simp [h])
      · rcases List.mem_cons.1 h with h | h
        · exact .inr h
        · exact .inl h
theorem setE_asc {es : List (Int × Int)} {a t : Int} (h : es.Pairwise (fun p q => p.1 < q.1)) : (setE es a t).Pairwise (fun p q => p.1 < q.1) := by
  induction es with
  | nil => simp [setE]
  | cons e es ih =>
    rw [List.pairwise_cons] at h
    unfold setE
    split
    · rename_i h1
      rw [List.pairwise_cons]
      refine ⟨fun f hf => ?_, ih h.2⟩
      rcases setE_mem hf with hf | rfl
      · exact h.1 f hf
      · exact h1
    · split
      · rename_i h1 h2
        rw [List.pairwise_cons]
        exact ⟨fun f hf => by have := h.1 f hf; simp only; omega, h.2⟩
      · rename_i h1 h2
        rw [List.pairwise_cons, List.pairwise_cons]
        refine ⟨fun f hf => ?_, h⟩
        rcases List.mem_cons.1 hf with rfl | hf
        · simp only; omega
        · have := h.1 f hf
          simp only; omega
theorem toE_mem {es : List (Int × Int)} (h : es.Pairwise (fun p q => p.1 < q.1)) {e : Int × Int} (he : e ∈ es) : toE es e.1 = e.2 := by
  induction es with
  | nil => cases he
  | cons f es ih =>
    rw [List.pairwise_cons] at h
    rcases List.mem_cons.1 he with rfl | he
    · rw [toE, if_pos rfl]
    · have := h.1 e he
      rw [toE, if_neg (by omega)]
      exact ih h.2 he
theorem toE_none {es : List (Int × Int)} {a : Int} (h : ∀ e ∈ es, 0 ≤ e.2) (ha : toE es a = -1) : ∀ e ∈ es, e.1 ≠ a := by
  induction es with
  | nil => intro e he; cases he
  | cons f es ih =>
    intro e he
    rw [toE] at ha
    split at ha
    · have := h f (by simp); omega
    · rename_i h1
      rcases List.mem_cons.1 he with rfl | he
      · exact h1
      · exact ih (fun e he => h e (by simp [he])) ha e he
theorem setE_len {es : List (Int × Int)} {a t : Int} (h : ∀ e ∈ es, e.1 ≠ a) : (setE es a t).length = es.length + 1 := by
  induction es with
  | nil => rfl
  | cons e es ih =>
    unfold setE
    split
    · rw [List.length_cons, List.length_cons, ih (fun f hf => h f (by simp [hf]))]
    · rw [if_neg (h e (by simp))]; rfl

/-- A state: the longest piece that leads to it, its link, its edges. -/
abbrev Sta := Wd × Int × List (Int × Int)
def stA (L : List Sta) (i : Nat) : Sta := L.getD i ([], -1, [])
def tW (L : List Sta) (i : Nat) : Wd := (stA L i).1
def tK (L : List Sta) (i : Nat) : Int := (stA L i).2.1
def tE (L : List Sta) (i : Nat) : List (Int × Int) := (stA L i).2.2
def tT (L : List Sta) (i : Nat) (b : UInt8) : Int := toE (tE L i) (b.toNat : Int)
theorem stA_get {L : List Sta} {i : Nat} (h : i < L.length) : stA L i = L[i] := by simp [stA, h]
theorem stA_left {L M : List Sta} {i : Nat} (h : i < L.length) : stA (L ++ M) i = stA L i := by
  rw [stA, stA, List.getD_eq_getElem?_getD, List.getD_eq_getElem?_getD, List.getElem?_append_left h]
theorem stA_right {L M : List Sta} {i : Nat} : stA (L ++ M) (L.length + i) = stA M i := by
  rw [stA, stA, List.getD_eq_getElem?_getD, List.getD_eq_getElem?_getD, List.getElem?_append_right (by omega), Nat.add_sub_cancel_left]

structure MInv (u : Wd) (L : List Sta) : Prop where
  inv : AInv u L.length (tW L) (tT L) (tK L)
  asc : ∀ i, i < L.length → (tE L i).Pairwise (fun p q => p.1 < q.1)
  key : ∀ i, i < L.length → ∀ e ∈ tE L i, 0 ≤ e.2 ∧ ∃ b : UInt8, e.1 = (b.toNat : Int)
theorem byte_inj {a b : UInt8} (h : (a.toNat : Int) = (b.toNat : Int)) : a = b := UInt8.toNat_inj.1 (by omega)

/-- The longest end of the text that went on by a byte already, as a state. -/
structure IsTop (u : Wd) (L : List Sta) (a : UInt8) (p : Nat) : Prop where
  lt : p < L.length
  path : tW L p <:+ u
  pc : pcIn u (tW L p ++ [a])
  top : ∀ i, i < L.length → tW L i <:+ u → pcIn u (tW L i ++ [a]) → (tW L i).length ≤ (tW L p).length
theorem path_cmp {u x y : Wd} (hx : x <:+ u) (hy : y <:+ u) (h : x.length ≤ y.length) : x <:+ y := List.suffix_of_suffix_length_le hx hy h
theorem MInv.same_len {u : Wd} {L : List Sta} (h : MInv u L) {i j : Nat} (hi : i < L.length) (hj : j < L.length) (h1 : tW L i <:+ u) (h2 : tW L j <:+ u) (hl : (tW L i).length = (tW L j).length) : i = j := by
  have h3 := (path_cmp h1 h2 (by omega)).eq_of_length hl
  exact h.inv.inj i j hi hj (by rw [h3]; exact sameE.refl _ _)
theorem IsTop.unique {u : Wd} {L : List Sta} (hM : MInv u L) {a : UInt8} {p r : Nat} (h : IsTop u L a p) (k : IsTop u L a r) : p = r := by
  have h1 := h.top r k.lt k.path k.pc
  have h2 := k.top p h.lt h.path h.pc
  exact hM.same_len h.lt k.lt h.path k.path (by omega)
theorem nil_or_snoc (x : Wd) : x = [] ∨ ∃ y b, x = y ++ [b] := by
  rcases List.eq_nil_or_concat x with h | ⟨y, b, h⟩
  · exact .inl h
  · exact .inr ⟨y, b, by rw [h, List.concat_eq_append]⟩
theorem top_z {u : Wd} {L : List Sta} (hM : MInv u L) {a : UInt8} {p : Nat} (h : IsTop u L a p) : LongZ u a (tW L p ++ [a]) := by
  refine ⟨snoc_suffix.2 ⟨rfl, h.path⟩, h.pc, fun x hx hp => ?_⟩
  rcases nil_or_snoc x with rfl | ⟨y, b, rfl⟩
  · exact List.nil_suffix
  · obtain ⟨rfl, hy⟩ := snoc_suffix.1 hx
    obtain ⟨i, hi, hs⟩ := hM.inv.cov y (pc_front hp)
    have h1 := (same_suffix hs).1 hy
    have h2 := h.top i hi h1 (pc_same (same_snoc hs b) hp)
    exact snoc_suffix.2 ⟨rfl, (hM.inv.mx i hi y hs).trans (path_cmp h1 h.path h2)⟩
theorem no_top_z {u : Wd} {L : List Sta} (hM : MInv u L) {a : UInt8} (h : ∀ i, i < L.length → tW L i <:+ u → ¬ pcIn u (tW L i ++ [a])) : LongZ u a [] := by
  refine ⟨List.nil_suffix, pc_nil u, fun x hx hp => ?_⟩
  rcases nil_or_snoc x with rfl | ⟨y, b, rfl⟩
  · exact List.nil_suffix
  · obtain ⟨rfl, hy⟩ := snoc_suffix.1 hx
    obtain ⟨i, hi, hs⟩ := hM.inv.cov y (pc_front hp)
    exact absurd (pc_same (same_snoc hs b) hp) (h i hi ((same_suffix hs).1 hy))
/-- Behind a state of the path its link is the next one of the path. -/
theorem path_link {u : Wd} {L : List Sta} (hM : MInv u L) {i : Nat} (hi : i < L.length) (h0 : 0 < i) (hp : tW L i <:+ u) : ∃ j : Nat, j < L.length ∧ tK L i = j ∧ tW L j <:+ u ∧ (tW L j).length < (tW L i).length ∧ ∀ k, k < L.length → tW L k <:+ u → (tW L k).length < (tW L i).length → (tW L k).length ≤ (tW L j).length := by
  obtain ⟨j, hj, h1, h2, h3, h4⟩ := hM.inv.link i hi h0
  refine ⟨j, hj, h1, h2.trans hp, ?_, fun k hk hkp hl => ?_⟩
  · rcases Nat.lt_or_ge (tW L j).length (tW L i).length with h | h
    · exact h
    · exact absurd (by rw [h2.eq_of_length (Nat.le_antisymm h2.length_le h)]; exact sameE.refl _ _) h3
  · refine (h4 _ (path_cmp hkp hp (by omega)) (fun e => ?_)).length_le
    have := hM.inv.inj k i hk hi e
    subst this
    omega

open Classical in
/-- The states of the path without an edge get one to the new state. -/
noncomputable def up1 (u : Wd) (a : UInt8) (n : Nat) (x : Sta) : Sta := if x.1 <:+ u ∧ ¬ pcIn u (x.1 ++ [a]) then (x.1, x.2.1, setE x.2.2 (a.toNat : Int) (n : Int)) else x
open Classical in
/-- The states of the path that led to the one that is split lead to the new part of it. -/
noncomputable def up2 (u : Wd) (a : UInt8) (n q : Nat) (L : List Sta) (i : Nat) : Sta :=
  (tW L i, if i = q then ((n + 1 : Nat) : Int) else tK L i, if tW L i <:+ u ∧ pcIn u (tW L i ++ [a]) ∧ tT L i a = (q : Int) then setE (tE L i) (a.toNat : Int) ((n + 1 : Nat) : Int) else tE L i)
theorem up2_link (u : Wd) (a : UInt8) (n q : Nat) (L : List Sta) (i : Nat) : (i = q → (up2 u a n q L i).2.1 = ((n + 1 : Nat) : Int)) ∧ (i ≠ q → (up2 u a n q L i).2.1 = tK L i) := ⟨fun h => by unfold up2; exact if_pos h, fun h => by unfold up2; exact if_neg h⟩
theorem up2_yes {u : Wd} {a : UInt8} {n q : Nat} {L : List Sta} {i : Nat} (h : tW L i <:+ u ∧ pcIn u (tW L i ++ [a]) ∧ tT L i a = (q : Int)) : (up2 u a n q L i).2.2 = setE (tE L i) (a.toNat : Int) ((n + 1 : Nat) : Int) := by unfold up2; exact if_pos h
theorem up2_no {u : Wd} {a : UInt8} {n q : Nat} {L : List Sta} {i : Nat} (h : ¬ (tW L i <:+ u ∧ pcIn u (tW L i ++ [a]) ∧ tT L i a = (q : Int))) : (up2 u a n q L i).2.2 = tE L i := by unfold up2; exact if_neg h
noncomputable def nextL (u : Wd) (L : List Sta) (a : UInt8) (k : Int) : List Sta := L.map (up1 u a L.length) ++ [(u ++ [a], k, [])]
noncomputable def splitL (u : Wd) (L : List Sta) (a : UInt8) (p q : Nat) : List Sta :=
  (List.range L.length).map (up2 u a L.length q (L.map (up1 u a L.length))) ++ [(u ++ [a], ((L.length + 1 : Nat) : Int), []), (tW L p ++ [a], tK L q, tE (L.map (up1 u a L.length)) q)]
open Classical in
/-- One byte more. -/
noncomputable def stepM (u : Wd) (L : List Sta) (a : UInt8) : List Sta :=
  if h : ∃ p, IsTop u L a p then
    if tW L (tT L h.choose a).toNat = tW L h.choose ++ [a] then nextL u L a (tT L h.choose a) else splitL u L a h.choose (tT L h.choose a).toNat
  else nextL u L a 0
theorem stepM_none {u : Wd} {L : List Sta} {a : UInt8} (h : ∀ i, i < L.length → tW L i <:+ u → ¬ pcIn u (tW L i ++ [a])) : stepM u L a = nextL u L a 0 := by
  rw [stepM, dif_neg]
  rintro ⟨p, hp⟩
  exact h p hp.lt hp.path hp.pc
theorem stepM_some {u : Wd} {L : List Sta} (hM : MInv u L) {a : UInt8} {p : Nat} (h : IsTop u L a p) {q : Nat} (hq : tT L p a = (q : Int)) : stepM u L a = if tW L q = tW L p ++ [a] then nextL u L a (q : Int) else splitL u L a p q := by
  have he : ∃ p, IsTop u L a p := ⟨p, h⟩
  have e : he.choose = p := he.choose_spec.unique hM h
  rw [stepM, dif_pos he, e, hq, Int.toNat_natCast]

theorem map_st {L : List Sta} {f : Sta → Sta} {i : Nat} (h : i < L.length) : stA (L.map f) i = f (stA L i) := by
  rw [stA_get (by rw [List.length_map]; exact h), List.getElem_map, stA_get h]
theorem range_st {n : Nat} {f : Nat → Sta} {i : Nat} (h : i < n) : stA ((List.range n).map f) i = f i := by
  rw [stA_get (by simpa using h)]; simp
theorem up1_w (u : Wd) (a : UInt8) (n : Nat) (x : Sta) : (up1 u a n x).1 = x.1 ∧ (up1 u a n x).2.1 = x.2.1 := by unfold up1; split <;> exact ⟨rfl, rfl⟩
theorem up1_yes {u : Wd} {a : UInt8} {n : Nat} {x : Sta} (h1 : x.1 <:+ u) (h2 : ¬ pcIn u (x.1 ++ [a])) : (up1 u a n x).2.2 = setE x.2.2 (a.toNat : Int) (n : Int) := by rw [up1, if_pos ⟨h1, h2⟩]
theorem up1_no {u : Wd} {a : UInt8} {n : Nat} {x : Sta} (h : ¬ (x.1 <:+ u ∧ ¬ pcIn u (x.1 ++ [a]))) : up1 u a n x = x := by rw [up1, if_neg h]
theorem up1_to {u : Wd} {a b : UInt8} {n : Nat} {x : Sta} (h : ¬ (b = a ∧ x.1 <:+ u ∧ ¬ pcIn u (x.1 ++ [a]))) : toE (up1 u a n x).2.2 (b.toNat : Int) = toE x.2.2 (b.toNat : Int) := by
  by_cases h1 : x.1 <:+ u ∧ ¬ pcIn u (x.1 ++ [a])
  · rw [up1_yes h1.1 h1.2]
    exact toE_other _ _ _ _ (fun e => h ⟨byte_inj e, h1⟩)
  · rw [up1_no h1]
theorem up1_edges {u : Wd} {a : UInt8} {n : Nat} {x : Sta} (h1 : x.2.2.Pairwise (fun p q => p.1 < q.1)) (h2 : ∀ e ∈ x.2.2, 0 ≤ e.2 ∧ ∃ b : UInt8, e.1 = (b.toNat : Int)) :
    (up1 u a n x).2.2.Pairwise (fun p q => p.1 < q.1) ∧ ∀ e ∈ (up1 u a n x).2.2, 0 ≤ e.2 ∧ ∃ b : UInt8, e.1 = (b.toNat : Int) := by
  unfold up1
  split
  · refine ⟨setE_asc h1, fun e he => ?_⟩
    rcases setE_mem he with he | rfl
    · exact h2 e he
    · exact ⟨by simp only; omega, a, rfl⟩
  · exact ⟨h1, h2⟩

theorem MInv.nextL {u : Wd} {L : List Sta} (h : MInv u L) {a : UInt8} {z : Wd} (hz : LongZ u a z) {q : Nat} (hq : q < L.length) (hqz : tW L q = z) : MInv (u ++ [a]) (nextL u L a (q : Int)) := by
  have hlen : (Go.Proofs.Ytehppjilnacjlaa.nextL u L a (q : Int)).length = L.length + 1 := by simp [Go.Proofs.Ytehppjilnacjlaa.nextL]
  have hl : ∀ i, i < L.length → stA (Go.Proofs.Ytehppjilnacjlaa.nextL u L a (q : Int)) i = up1 u a L.length (stA L i) := fun i hi => by
    rw [Go.Proofs.Ytehppjilnacjlaa.nextL, stA_left (by rw [List.length_map]; exact hi), map_st hi]
  have hn : stA (Go.Proofs.Ytehppjilnacjlaa.nextL u L a (q : Int)) L.length = (u ++ [a], (q : Int), []) := by
    have := stA_right (L := L.map (up1 u a L.length)) (M := [(u ++ [a], (q : Int), [])]) (i := 0)
    rw [List.length_map, Nat.add_zero] at this
    rw [Go.Proofs.Ytehppjilnacjlaa.nextL, this]; rfl
  have cas : ∀ i, i < L.length + 1 → i < L.length ∨ i = L.length := fun i hi => by omega
  refine ⟨?_, fun i hi => ?_, fun i hi => ?_⟩
  · rw [hlen]
    refine h.inv.next hz hq hqz (fun i hi => ?_) ?_ (fun i hi h1 h2 => ?_) (fun i hi b hb => ?_) (fun b => ?_) (fun i hi => ?_) ?_
    · rw [tW, hl i hi, (up1_w _ _ _ _).1]; rfl
    · rw [tW, hn]
    · rw [tT, tE, hl i hi, up1_yes h1 h2, toE_set]
    · rw [tT, tE, hl i hi, up1_to hb]; rfl
    · rw [tT, tE, hn]; rfl
    · rw [tK, hl i hi, (up1_w _ _ _ _).2]; rfl
    · rw [tK, hn]
  · rw [hlen] at hi
    rw [tE]
    rcases cas i hi with hi | rfl
    · rw [hl i hi]; exact (up1_edges (h.asc i hi) (h.key i hi)).1
    · rw [hn]; exact .nil
  · rw [hlen] at hi
    rw [tE]
    rcases cas i hi with hi | rfl
    · rw [hl i hi]; exact (up1_edges (h.asc i hi) (h.key i hi)).2
    · rw [hn]; intro e he; cases he

theorem MInv.splitL {u : Wd} {L : List Sta} (h : MInv u L) {a : UInt8} {p q : Nat} (hp : IsTop u L a p) (hqt : tT L p a = (q : Int)) (hne : tW L q ≠ tW L p ++ [a]) : MInv (u ++ [a]) (splitL u L a p q) := by
  have hz := top_z h hp
  obtain ⟨j, hj, h1, h2⟩ := h.inv.yes p hp.lt a hp.pc
  obtain rfl : q = j := by rw [hqt] at h1; omega
  have hlen : (Go.Proofs.Ytehppjilnacjlaa.splitL u L a p q).length = L.length + 2 := by simp [Go.Proofs.Ytehppjilnacjlaa.splitL]
  have hm : ∀ i, i < L.length → stA (L.map (up1 u a L.length)) i = up1 u a L.length (stA L i) := fun i hi => map_st hi
  have hl : ∀ i, i < L.length → stA (Go.Proofs.Ytehppjilnacjlaa.splitL u L a p q) i = up2 u a L.length q (L.map (up1 u a L.length)) i := fun i hi => by
    rw [Go.Proofs.Ytehppjilnacjlaa.splitL, stA_left (by simpa using hi), range_st hi]
  have hn : ∀ k, stA (Go.Proofs.Ytehppjilnacjlaa.splitL u L a p q) (L.length + k) = stA [(u ++ [a], ((L.length + 1 : Nat) : Int), []), (tW L p ++ [a], tK L q, tE (L.map (up1 u a L.length)) q)] k := fun k => by
    have := stA_right (L := (List.range L.length).map (up2 u a L.length q (L.map (up1 u a L.length)))) (M := [(u ++ [a], ((L.length + 1 : Nat) : Int), []), (tW L p ++ [a], tK L q, tE (L.map (up1 u a L.length)) q)]) (i := k)
    rw [List.length_map, List.length_range] at this
    rw [Go.Proofs.Ytehppjilnacjlaa.splitL, this]
  have hn0 := hn 0
  have hn1 := hn 1
  rw [Nat.add_zero] at hn0
  have hw : ∀ i, i < L.length → tW (L.map (up1 u a L.length)) i = tW L i := fun i hi => by rw [tW, hm i hi, (up1_w _ _ _ _).1]; rfl
  have hk : ∀ i, i < L.length → tK (L.map (up1 u a L.length)) i = tK L i := fun i hi => by rw [tK, hm i hi, (up1_w _ _ _ _).2]; rfl
  have ht : ∀ i, i < L.length → ∀ b, ¬ (b = a ∧ tW L i <:+ u ∧ ¬ pcIn u (tW L i ++ [a])) → tT (L.map (up1 u a L.length)) i b = tT L i b := fun i hi b hb => by rw [tT, tE, hm i hi, up1_to hb]; rfl
  have ht2 : ∀ i, i < L.length → tW L i <:+ u → ¬ pcIn u (tW L i ++ [a]) → tT (L.map (up1 u a L.length)) i a = (L.length : Int) := fun i hi g1 g2 => by rw [tT, tE, hm i hi, up1_yes g1 g2, toE_set]
  have hedge : ∀ i, i < L.length → (tE (L.map (up1 u a L.length)) i).Pairwise (fun p q => p.1 < q.1) ∧ ∀ e ∈ tE (L.map (up1 u a L.length)) i, 0 ≤ e.2 ∧ ∃ b : UInt8, e.1 = (b.toNat : Int) := fun i hi => by
    rw [tE, hm i hi]; exact up1_edges (h.asc i hi) (h.key i hi)
  have cas : ∀ i, i < L.length + 2 → i < L.length ∨ i = L.length ∨ i = L.length + 1 := fun i hi => by omega
  refine ⟨?_, fun i hi => ?_, fun i hi => ?_⟩
  · rw [hlen]
    refine h.inv.split hz hj h2 hne (fun i hi => ?_) ?_ ?_ (fun i hi g1 g2 => ?_) (fun i hi g1 g2 g3 => ?_) (fun i hi g1 g2 g3 => ?_) (fun i hi b hb => ?_) (fun b => ?_) (fun g1 g2 => ?_) (fun b hb => ?_) (fun i hi hiq => ?_) ?_ ?_ ?_
    · rw [tW, hl i hi]; exact hw i hi
    · rw [tW, hn0]; rfl
    · rw [tW, hn1]; rfl
    · rw [tT, tE, hl i hi, up2_no (by rw [hw i hi]; exact fun e => g2 e.2.1)]
      exact ht2 i hi g1 g2
    · rw [tT, tE, hl i hi, up2_yes (by rw [hw i hi, ht i hi a (fun e => e.2.2 g2)]; exact ⟨g1, g2, g3⟩), toE_set]
    · rw [tT, tE, hl i hi, up2_no (by rw [hw i hi, ht i hi a (fun e => e.2.2 g2)]; exact fun e => g3 e.2.2)]
      exact ht i hi a (fun e => e.2.2 g2)
    · rw [tT, tE, hl i hi]
      by_cases g : tW (L.map (up1 u a L.length)) i <:+ u ∧ pcIn u (tW (L.map (up1 u a L.length)) i ++ [a]) ∧ tT (L.map (up1 u a L.length)) i a = (q : Int)
      · rw [up2_yes g]
        rw [hw i hi] at g
        rw [toE_other _ _ _ _ (fun e => hb ⟨byte_inj e, g.1⟩)]
        exact ht i hi b (fun e => hb ⟨e.1, e.2.1⟩)
      · rw [up2_no g]
        exact ht i hi b (fun e => hb ⟨e.1, e.2.1⟩)
    · rw [tT, tE, hn0]; rfl
    · rw [tT, tE, hn1]; exact ht2 q hj g1 g2
    · rw [tT, tE, hn1]; exact ht q hj b hb
    · rw [tK, hl i hi, (up2_link _ _ _ _ _ _).2 hiq]
      exact hk i hi
    · rw [tK, hl q hj, (up2_link _ _ _ _ _ _).1 rfl]
    · rw [tK, hn0]; rfl
    · rw [tK, hn1]; rfl
  · rw [hlen] at hi
    rw [tE]
    rcases cas i hi with hi | rfl | rfl
    · rw [hl i hi]
      by_cases g : tW (L.map (up1 u a L.length)) i <:+ u ∧ pcIn u (tW (L.map (up1 u a L.length)) i ++ [a]) ∧ tT (L.map (up1 u a L.length)) i a = (q : Int)
      · rw [up2_yes g]; exact setE_asc (hedge i hi).1
      · rw [up2_no g]; exact (hedge i hi).1
    · rw [hn0]; exact .nil
    · rw [hn1]; exact (hedge q hj).1
  · rw [hlen] at hi
    rw [tE]
    rcases cas i hi with hi | rfl | rfl
    · rw [hl i hi]
      by_cases g : tW (L.map (up1 u a L.length)) i <:+ u ∧ pcIn u (tW (L.map (up1 u a L.length)) i ++ [a]) ∧ tT (L.map (up1 u a L.length)) i a = (q : Int)
      · rw [up2_yes g]
        intro e he
        rcases setE_mem he with he | rfl
        · exact (hedge i hi).2 e he
        · exact ⟨by simp only; omega, a, rfl⟩
      · rw [up2_no g]; exact (hedge i hi).2
    · rw [hn0]; intro e he; cases he
    · rw [hn1]; exact (hedge q hj).2

theorem MInv.step {u : Wd} {L : List Sta} (h : MInv u L) (a : UInt8) : MInv (u ++ [a]) (stepM u L a) := by
  by_cases ht : ∃ p, IsTop u L a p
  · obtain ⟨p, hp⟩ := ht
    obtain ⟨q, hq, h1, h2⟩ := h.inv.yes p hp.lt a hp.pc
    rw [stepM_some h hp h1]
    split
    · rename_i he
      exact h.nextL (top_z h hp) hq he
    · rename_i he
      exact h.splitL hp h1 he
  · have hno : ∀ i, i < L.length → tW L i <:+ u → ¬ pcIn u (tW L i ++ [a]) := by
      intro i hi h1 h2
      -- the longest one of them is a top one
      have key : ∀ m i, i < L.length → tW L i <:+ u → pcIn u (tW L i ++ [a]) → u.length - (tW L i).length ≤ m → False := by
        intro m
        induction m with
        | zero =>
          intro i hi h1 h2 hm
          exact ht ⟨i, hi, h1, h2, fun j _ hj _ => by have := hj.length_le; omega⟩
        | succ m ih =>
          intro i hi h1 h2 hm
          refine ht ⟨i, hi, h1, h2, fun j hj k1 k2 => ?_⟩
          rcases Nat.lt_or_ge (tW L i).length (tW L j).length with hl | hl
          · exact (ih j hj k1 k2 (by have := k1.length_le; omega)).elim
          · exact hl
      exact key _ i hi h1 h2 (Nat.le_refl _)
    rw [stepM_none hno]
    have h0 := h.nextL (no_top_z h hno) h.inv.pos h.inv.w0
    exact h0

/-- The machine of the first bytes of a text. -/
noncomputable def machK (s : Wd) : Nat → List Sta
  | 0 => [([], -1, [])]
  | k + 1 => stepM (s.take k) (machK s k) (s.getD k 0)
theorem mach_zero : MInv [] [([], -1, [])] := by
  have h1 : ∀ x : Wd, pcIn [] x → x = [] := fun x ⟨e, he⟩ => by
    have := endsAt_len he
    have h2 := he.1
    simp at h2
    exact List.eq_nil_of_length_eq_zero (by omega)
  refine ⟨⟨by simp, rfl, rfl, fun i hi => ?_, fun i hi x hx => ?_, fun i j hi hj _ => ?_, fun x hx => ?_, fun i hi b hp => ?_, fun i hi b _ => ?_, fun i hi h0 => ?_⟩, fun i hi => ?_, fun i hi => ?_⟩
  · obtain rfl : i = 0 := by simpa using hi
    exact pc_nil []
  · obtain rfl : i = 0 := by simpa using hi
    rw [h1 x (pc_same hx.symm (pc_nil []))]
    exact List.nil_suffix
  · have h2 : i = 0 := by simpa using hi
    have h3 : j = 0 := by simpa using hj
    omega
  · rw [h1 x hx]
    exact ⟨0, by simp, sameE.refl _ _⟩
  · have := h1 _ hp
    simp at this
  · obtain rfl : i = 0 := by simpa using hi
    rfl
  · have : i = 0 := by simpa using hi
    omega
  · obtain rfl : i = 0 := by simpa using hi
    exact .nil
  · obtain rfl : i = 0 := by simpa using hi
    intro e he; cases he
theorem machK_inv (s : Wd) (k : Nat) (hk : k ≤ s.length) : MInv (s.take k) (machK s k) := by
  induction k with
  | zero => exact mach_zero
  | succ k ih =>
    have h := (ih (by omega)).step (s.getD k 0)
    have e : s.take (k + 1) = s.take k ++ [s.getD k 0] := by
      rw [List.take_succ_eq_append_getElem (by omega), List.getD_eq_getElem?_getD, List.getElem?_eq_getElem (by omega)]; rfl
    rw [e, machK]
    exact h
noncomputable def machL (s : Wd) : List Sta := machK s s.length
theorem machL_inv (s : Wd) : MInv s (machL s) := by
  have h := machK_inv s s.length (Nat.le_refl _)
  rwa [List.take_length] at h

end Go.Proofs.Ytehppjilnacjlaa
