/-
  Plain mathematics of how great the machine of a text is: its states and its edges. No conditions.
-/
import Derived.Test.YtehppjilnacjlaaMathMach
namespace Go.Proofs.Ytehppjilnacjlaa

/-- So many different numbers within bounds. -/
theorem count_in : ∀ (hi lo : Nat) (l : List Nat), l.Nodup → (∀ x ∈ l, lo ≤ x ∧ x < hi) → l.length ≤ hi - lo := by
  intro hi
  induction hi with
  | zero =>
    intro lo l _ hb
    cases l with
    | nil => simp
    | cons x l => have := hb x (by simp); omega
  | succ hi ih =>
    intro lo l hn hb
    by_cases hm : hi ∈ l
    · have h1 := ih lo (l.erase hi) (hn.erase hi) (fun x hx => by
        have h2 := (hn.mem_erase_iff).1 hx
        have h3 := hb x h2.2
        have := h2.1
        exact ⟨h3.1, by omega⟩)
      rw [List.length_erase_of_mem hm] at h1
      have h4 := hb hi hm
      omega
    · have h1 := ih lo l hn (fun x hx => by
        have h3 := hb x hx
        have h4 : x ≠ hi := fun e => hm (e ▸ hx)
        exact ⟨h3.1, by omega⟩)
      omega
theorem nodup_map {α : Type} {l : List α} {f : α → Nat} (h : l.Nodup) (hf : ∀ x ∈ l, ∀ y ∈ l, f x = f y → x = y) : (l.map f).Nodup := by
  rw [List.Nodup, List.pairwise_map]
  exact List.Pairwise.imp_of_mem (fun hx hy hne e => hne (hf _ hx _ hy e)) h
theorem part_len {α : Type} (P : α → Bool) (l : List α) : l.length = (l.filter P).length + (l.filter fun x => !P x).length := by
  induction l with
  | nil => rfl
  | cons x l ih =>
    cases hp : P x with
    | true => rw [List.filter_cons_of_pos hp, List.filter_cons_of_neg (by simp [hp]), List.length_cons, List.length_cons, ih]; omega
    | false => rw [List.filter_cons_of_neg (by simp [hp]), List.filter_cons_of_pos (by simp [hp]), List.length_cons, List.length_cons, ih]; omega

theorem same_ext {u x y : Wd} (h : sameE u x y) (r : Wd) : sameE u (x ++ r) (y ++ r) := by
  have key : ∀ n (r : Wd), r.length = n → sameE u (x ++ r) (y ++ r) := by
    intro n
    induction n with
    | zero => intro r hr; rw [List.eq_nil_of_length_eq_zero hr, List.append_nil, List.append_nil]; exact h
    | succ n ih =>
      intro r hr
      rcases nil_or_snoc r with rfl | ⟨t, b, rfl⟩
      · simp at hr
      · rw [← List.append_assoc, ← List.append_assoc]
        exact same_snoc (ih t (by simpa using hr)) b
  exact key _ r rfl
theorem ends_cut {u x : Wd} {e : Nat} (h : endsAt u x e) : x = (u.take e).drop (e - x.length) := by
  obtain ⟨t, ht⟩ := h.2
  have h1 := congrArg List.length ht
  rw [List.length_append, List.length_take, Nat.min_eq_left h.1] at h1
  rw [← ht, show e - x.length = t.length by omega, List.drop_left]

/-- All edges, with the states that they leave. -/
def allE (L : List Sta) : List (Nat × Int × Int) := (List.range L.length).flatMap fun i => (tE L i).map fun e => (i, e.1, e.2)
theorem allE_mem {L : List Sta} {x : Nat × Int × Int} : x ∈ allE L ↔ x.1 < L.length ∧ (x.2.1, x.2.2) ∈ tE L x.1 := by
  rw [allE, List.mem_flatMap]
  constructor
  · rintro ⟨i, hi, h⟩
    obtain ⟨e, he, rfl⟩ := List.mem_map.1 h
    exact ⟨List.mem_range.1 hi, he⟩
  · rintro ⟨h1, h2⟩
    exact ⟨x.1, List.mem_range.2 h1, List.mem_map.2 ⟨_, h2, rfl⟩⟩
theorem allE_nodup {u : Wd} {L : List Sta} (h : MInv u L) : (allE L).Nodup := by
  have key : ∀ m, m ≤ L.length → ((List.range m).flatMap fun i => (tE L i).map fun e => (i, e.1, e.2)).Nodup := by
    intro m
    induction m with
    | zero => intro _; exact .nil
    | succ m ih =>
      intro hm
      rw [List.range_succ, List.flatMap_append, List.flatMap_singleton, List.Nodup, List.pairwise_append]
      refine ⟨ih (by omega), ?_, ?_⟩
      · rw [List.pairwise_map]
        refine List.Pairwise.imp ?_ (h.asc m (by omega))
        intro p q hpq e
        simp only [Prod.mk.injEq, true_and] at e
        omega
      · intro x hx y hy e
        obtain ⟨i, hi, h1⟩ := List.mem_flatMap.1 hx
        obtain ⟨_, _, rfl⟩ := List.mem_map.1 h1
        obtain ⟨_, _, rfl⟩ := List.mem_map.1 hy
        simp only [Prod.mk.injEq] at e
        have := List.mem_range.1 hi
        omega
  exact key _ (Nat.le_refl _)
theorem allE_len (L : List Sta) : (allE L).length = ((List.range L.length).map fun i => (tE L i).length).sum := by
  rw [allE, List.length_flatMap]
  simp

/-- What an edge is. -/
theorem edge_is {u : Wd} {L : List Sta} (h : MInv u L) {i : Nat} {k t : Int} (hi : i < L.length) (he : (k, t) ∈ tE L i) : ∃ (b : UInt8) (j : Nat), k = (b.toNat : Int) ∧ t = (j : Int) ∧ j < L.length ∧ 0 < j ∧ pcIn u (tW L i ++ [b]) ∧ sameE u (tW L i ++ [b]) (tW L j) ∧ tW L i ++ [b] <:+ tW L j := by
  obtain ⟨h0, b, hb⟩ := h.key i hi (k, t) he
  simp only at h0 hb
  have ht : tT L i b = t := by
    have h1 := toE_mem (h.asc i hi) he
    simp only [hb] at h1
    exact h1
  have hp : pcIn u (tW L i ++ [b]) := Classical.byContradiction fun e => by
    have := h.inv.no i hi b e
    omega
  obtain ⟨j, hj, h1, h2⟩ := h.inv.yes i hi b hp
  have hsuf := h.inv.mx j hj _ h2
  refine ⟨b, j, hb, by omega, hj, ?_, hp, h2, hsuf⟩
  rcases Nat.eq_zero_or_pos j with e | e
  · rw [e, h.inv.w0] at hsuf
    have := hsuf.length_le
    simp at this
  · exact e
open Classical in
/-- The first end of a state. -/
noncomputable def firstE (u : Wd) (L : List Sta) (j : Nat) : Nat := if h : ∃ e, endsAt u (tW L j) e ∧ ∀ f, endsAt u (tW L j) f → e ≤ f then h.choose else 0
theorem firstE_is {u : Wd} {L : List Sta} {j : Nat} (hp : pcIn u (tW L j)) : endsAt u (tW L j) (firstE u L j) ∧ ∀ f, endsAt u (tW L j) f → firstE u L j ≤ f := by
  have h : ∃ e, endsAt u (tW L j) e ∧ ∀ f, endsAt u (tW L j) f → e ≤ f := by
    have key : ∀ n e, e ≤ n → endsAt u (tW L j) e → ∃ e, endsAt u (tW L j) e ∧ ∀ f, endsAt u (tW L j) f → e ≤ f := by
      intro n
      induction n with
      | zero => intro e he h1; exact ⟨e, h1, fun f _ => by omega⟩
      | succ n ih =>
        intro e he h1
        by_cases h2 : ∃ f, endsAt u (tW L j) f ∧ f < e
        · obtain ⟨f, hf, hlt⟩ := h2
          exact ih f (by omega) hf
        · exact ⟨e, h1, fun f hf => Nat.le_of_not_lt fun hlt => h2 ⟨f, hf, hlt⟩⟩
    obtain ⟨e, he⟩ := hp
    exact key e e (Nat.le_refl _) he
  rw [firstE, dif_pos h]
  exact h.choose_spec

/-- There are fewer edges than states and bytes together. -/
theorem edges_most {u : Wd} {L : List Sta} (h : MInv u L) (m : Nat) (hm : ∀ x ∈ allE L, (tW L x.2.2.toNat).length ≠ (tW L x.1).length + 1 → firstE u L x.2.2.toNat - (tW L x.1).length - 1 < m) : (allE L).length ≤ (L.length - 1) + (m - 1) := by
  have hn := allE_nodup h
  rw [part_len (fun x => decide ((tW L x.2.2.toNat).length = (tW L x.1).length + 1)) (allE L)]
  refine Nat.add_le_add ?_ ?_
  · have h1 := count_in L.length 1 ((allE L).filter (fun x => decide ((tW L x.2.2.toNat).length = (tW L x.1).length + 1)) |>.map fun x => x.2.2.toNat) (nodup_map (hn.filter _) ?_) ?_
    · rwa [List.length_map] at h1
    · intro x hx y hy e
      rw [List.mem_filter, allE_mem] at hx hy
      obtain ⟨⟨hx1, hx2⟩, hx3⟩ := hx
      obtain ⟨⟨hy1, hy2⟩, hy3⟩ := hy
      simp only [decide_eq_true_eq] at hx3 hy3
      obtain ⟨b, j, e1, e2, hj, _, _, _, e3⟩ := edge_is h hx1 hx2
      obtain ⟨c, k, f1, f2, hk, _, _, _, f3⟩ := edge_is h hy1 hy2
      rw [e2, f2, Int.toNat_natCast, Int.toNat_natCast] at e
      subst e
      rw [e2, Int.toNat_natCast] at hx3
      rw [f2, Int.toNat_natCast] at hy3
      have g1 := e3.eq_of_length (by simp [hx3])
      have g2 := f3.eq_of_length (by simp [hy3])
      rw [← g2] at g1
      have g3 := List.append_inj' g1 rfl
      have g4 := h.inv.inj x.1 y.1 hx1 hy1 (by rw [g3.1]; exact sameE.refl _ _)
      have g5 : b = c := by simpa using g3.2
      obtain ⟨x1, x2, x3⟩ := x
      obtain ⟨y1, y2, y3⟩ := y
      simp only at g4 e1 e2 f1 f2
      rw [g4, e1, e2, f1, f2, g5]
    · intro z hz
      obtain ⟨x, hx, rfl⟩ := List.mem_map.1 hz
      rw [List.mem_filter, allE_mem] at hx
      obtain ⟨b, j, e1, e2, hj, h0, _⟩ := edge_is h hx.1.1 hx.1.2
      simp only [e2, Int.toNat_natCast]
      omega
  · have h1 := count_in m 1 ((allE L).filter (fun x => !decide ((tW L x.2.2.toNat).length = (tW L x.1).length + 1)) |>.map fun x => firstE u L x.2.2.toNat - (tW L x.1).length - 1) (nodup_map (hn.filter _) ?_) ?_
    · rwa [List.length_map] at h1
    · have main : ∀ x ∈ (allE L).filter (fun x => !decide ((tW L x.2.2.toNat).length = (tW L x.1).length + 1)), ∀ y ∈ (allE L).filter (fun x => !decide ((tW L x.2.2.toNat).length = (tW L x.1).length + 1)),
          firstE u L x.2.2.toNat - (tW L x.1).length - 1 = firstE u L y.2.2.toNat - (tW L y.1).length - 1 → firstE u L x.2.2.toNat ≤ firstE u L y.2.2.toNat → x = y := by
        intro x hx y hy e hle
        rw [List.mem_filter, allE_mem] at hx hy
        obtain ⟨⟨hx1, hx2⟩, hx3⟩ := hx
        obtain ⟨⟨hy1, hy2⟩, hy3⟩ := hy
        simp only [Bool.not_eq_true', decide_eq_false_iff_not] at hx3 hy3
        obtain ⟨b, j, e1, e2, hj, _, hpx, hsx, e3⟩ := edge_is h hx1 hx2
        obtain ⟨c, k, f1, f2, hk, _, hpy, hsy, f3⟩ := edge_is h hy1 hy2
        rw [e2, Int.toNat_natCast] at hx3 e hle
        rw [f2, Int.toNat_natCast] at hy3 e hle
        have ex := (hsx _).2 (firstE_is (h.inv.pc j hj)).1
        have ey := (hsy _).2 (firstE_is (h.inv.pc k hk)).1
        have lx := endsAt_len (firstE_is (h.inv.pc j hj)).1
        have ly := endsAt_len (firstE_is (h.inv.pc k hk)).1
        have mx := e3.length_le
        have my := f3.length_le
        rw [List.length_append, List.length_singleton] at mx my
        obtain ⟨E, hE⟩ : ∃ E, firstE u L j = E := ⟨_, rfl⟩
        obtain ⟨F, hF⟩ : ∃ E, firstE u L k = E := ⟨_, rfl⟩
        rw [hE] at e hle ex lx
        rw [hF] at e hle ey ly
        have cx := ends_cut ex
        have cy := ends_cut ey
        rw [List.length_append, List.length_singleton] at cx cy
        rcases Nat.lt_or_ge E F with hlt | hge
        · exfalso
          -- the shorter one begins the other state
          obtain ⟨F', rfl⟩ : ∃ F', F = F' + 1 := ⟨F - 1, by omega⟩
          obtain ⟨f, hf1, hf2, _⟩ := endsAt_snoc.1 ey
          obtain rfl : F' = f := by omega
          have cy2 := ends_cut hf2
          obtain ⟨r, hr⟩ : ∃ r, tW L y.1 = (tW L x.1 ++ [b]) ++ r := by
            refine ⟨(u.take F').drop E, ?_⟩
            rw [cx, cy2]
            rw [show F' - (tW L y.1).length = E - ((tW L x.1).length + 1) by omega]
            have hu : u.take F' = u.take E ++ (u.take F').drop E := by
              have h5 := List.take_append_drop E (u.take F')
              rw [List.take_take, Nat.min_eq_left (by omega)] at h5
              exact h5.symm
            have hle2 : E - ((tW L x.1).length + 1) ≤ (u.take E).length := by rw [List.length_take]; have := ex.1; omega
            conv => lhs; rw [hu]
            rw [List.drop_append_of_le_length hle2]
          have h6 := same_ext hsx r
          rw [← hr] at h6
          have h7 := (h.inv.mx y.1 hy1 _ h6.symm).length_le
          rw [hr, List.length_append, List.length_append, List.length_append, List.length_singleton] at h7
          omega
        · obtain rfl : E = F := by omega
          have h5 : tW L x.1 ++ [b] = tW L y.1 ++ [c] := by
            rw [cx, cy, show E - ((tW L x.1).length + 1) = E - ((tW L y.1).length + 1) by omega]
          have g3 := List.append_inj' h5 rfl
          have g4 := h.inv.inj x.1 y.1 hx1 hy1 (by rw [g3.1]; exact sameE.refl _ _)
          have g5 : b = c := by simpa using g3.2
          have g6 : j = k := h.inv.inj j k hj hk (hsx.symm.trans (by rw [h5]; exact hsy))
          obtain ⟨x1, x2, x3⟩ := x
          obtain ⟨y1, y2, y3⟩ := y
          simp only at g4 e1 e2 f1 f2
          rw [g4, e1, e2, f1, f2, g5, g6]
      intro x hx y hy e
      rcases Nat.le_total (firstE u L x.2.2.toNat) (firstE u L y.2.2.toNat) with hl | hl
      · exact main x hx y hy e hl
      · exact (main y hy x hx e.symm hl).symm
    · intro z hz
      obtain ⟨x, hx, rfl⟩ := List.mem_map.1 hz
      rw [List.mem_filter] at hx
      have hx1 := allE_mem.1 hx.1
      have hx3 := hx.2
      simp only [Bool.not_eq_true', decide_eq_false_iff_not] at hx3
      refine ⟨?_, hm x hx.1 hx3⟩
      obtain ⟨b, j, e1, e2, hj, _, _, hsx, e3⟩ := edge_is h hx1.1 hx1.2
      rw [e2, Int.toNat_natCast] at hx3 ⊢
      have l1 := endsAt_len (firstE_is (h.inv.pc j hj)).1
      have l2 := e3.length_le
      rw [List.length_append, List.length_singleton] at l2
      omega
theorem edges_len {u : Wd} {L : List Sta} (h : MInv u L) : (allE L).length ≤ (L.length - 1) + (u.length - 1) := by
  refine edges_most h u.length fun x hx hne => ?_
  obtain ⟨h1, h2⟩ := allE_mem.1 hx
  obtain ⟨b, j, e1, e2, hj, _, _, hsx, e3⟩ := edge_is h h1 h2
  rw [e2, Int.toNat_natCast] at hne ⊢
  have l0 := (firstE_is (h.inv.pc j hj)).1.1
  have l1 := endsAt_len (firstE_is (h.inv.pc j hj)).1
  have l2 := e3.length_le
  rw [List.length_append, List.length_singleton] at l2
  omega
/-- If the last byte was there before, one fewer. -/
theorem edges_less {v : Wd} {a : UInt8} {L : List Sta} (h : MInv (v ++ [a]) L) (ha : pcIn v [a]) : (allE L).length ≤ (L.length - 1) + (v.length - 1) := by
  refine edges_most h v.length fun x hx hne => ?_
  obtain ⟨h1, h2⟩ := allE_mem.1 hx
  obtain ⟨b, j, e1, e2, hj, _, _, hsx, e3⟩ := edge_is h h1 h2
  rw [e2, Int.toNat_natCast] at hne ⊢
  have f1 := firstE_is (h.inv.pc j hj)
  have l0 := f1.1.1
  have l1 := endsAt_len f1.1
  have l2 := e3.length_le
  rw [List.length_append, List.length_singleton] at l2 l0
  by_cases hc : firstE (v ++ [a]) L j = v.length + 1 ∧ tW L x.1 = []
  · exfalso
    obtain ⟨hc1, hc2⟩ := hc
    rw [hc2, List.nil_append] at hsx
    have h3 := (hsx _).2 f1.1
    rw [hc1] at h3
    have h4 : [b] <:+ v ++ [a] := by
      have h5 := h3.2
      rwa [List.take_of_length_le (by rw [List.length_append, List.length_singleton]; omega)] at h5
    have h6 : b = a := by
      have := snoc_suffix (x := []) (l := v) (b := b) (c := a)
      rw [List.nil_append] at this
      exact (this.1 h4).1
    subst h6
    obtain ⟨e, he⟩ := ha
    have h7 := f1.2 e ((hsx e).1 (endsAt_new.2 (.inl he)))
    have := he.1
    omega
  · by_cases hw : (tW L x.1).length = 0
    · have hw2 := List.eq_nil_of_length_eq_zero hw
      have : firstE (v ++ [a]) L j ≠ v.length + 1 := fun e => hc ⟨e, hw2⟩
      omega
    · omega

/-- How many states one byte more makes. -/
theorem stepM_len {u : Wd} {L : List Sta} (h : MInv u L) (a : UInt8) : (stepM u L a).length = L.length + 1 ∨ (stepM u L a).length = L.length + 2 ∧ 2 ≤ u.length ∧ pcIn u [a] := by
  by_cases ht : ∃ p, IsTop u L a p
  · obtain ⟨p, hp⟩ := ht
    obtain ⟨q, hq, h1, h2⟩ := h.inv.yes p hp.lt a hp.pc
    rw [stepM_some h hp h1]
    split
    · exact .inl (by simp [nextL])
    · rename_i hne
      refine .inr ⟨by simp [splitL], ?_, pc_sub ⟨tW L p, rfl⟩ hp.pc⟩
      have h3 := h.inv.mx q hq _ h2
      have h4 : (tW L p ++ [a]).length ≠ (tW L q).length := fun e => hne (h3.eq_of_length e).symm
      have h5 := h3.length_le
      obtain ⟨e, he⟩ := h.inv.pc q hq
      have h6 := endsAt_len he
      have h7 := he.1
      rw [List.length_append, List.length_singleton] at h4 h5
      omega
  · left
    have hs : stepM u L a = nextL u L a 0 := by rw [stepM, dif_neg ht]
    rw [hs]
    simp [nextL]
theorem machK_len (s : Wd) (k : Nat) (hk : k ≤ s.length) : (k ≤ 2 → (machK s k).length = k + 1) ∧ (2 ≤ k → (machK s k).length + 1 ≤ 2 * k) := by
  induction k with
  | zero => exact ⟨fun _ => rfl, fun h => absurd h (by omega)⟩
  | succ k ih =>
    have hi := ih (by omega)
    have hM := machK_inv s k (by omega)
    have hl : (s.take k).length = k := by rw [List.length_take]; omega
    have h1 := stepM_len hM (s.getD k 0)
    rw [hl] at h1
    refine ⟨fun h => ?_, fun h => ?_⟩
    · have := hi.1 (by omega)
      rw [machK]
      omega
    · rw [machK]
      rcases Nat.lt_or_ge k 2 with h2 | h2
      · have := hi.1 (by omega)
        omega
      · have := hi.2 h2
        omega
/-- A machine is small. -/
theorem mach_small (s : Wd) (h3 : 3 ≤ s.length) : (machL s).length + 1 ≤ 2 * s.length ∧ (allE (machL s)).length + 4 ≤ 3 * s.length := by
  have h1 := (machK_len s s.length (Nat.le_refl _)).2 (by omega)
  refine ⟨h1, ?_⟩
  obtain ⟨k, hk⟩ : ∃ k, s.length = k + 1 := ⟨s.length - 1, by omega⟩
  have hM := machK_inv s k (by omega)
  have hl : (s.take k).length = k := by rw [List.length_take]; omega
  have h2 := stepM_len hM (s.getD k 0)
  have h4 := (machK_len s k (by omega)).2 (by omega)
  have e : s.take k ++ [s.getD k 0] = s := by
    have e1 : s.take (k + 1) = s.take k ++ [s.getD k 0] := by
      rw [List.take_succ_eq_append_getElem (by omega), List.getD_eq_getElem?_getD, List.getElem?_eq_getElem (by omega)]; rfl
    rw [← e1, List.take_of_length_le (by omega)]
  have hm : machL s = stepM (s.take k) (machK s k) (s.getD k 0) := by rw [machL, hk, machK]
  have hI : MInv (s.take k ++ [s.getD k 0]) (machL s) := by rw [e]; exact machL_inv s
  rcases h2 with h2 | ⟨h2, _, h5⟩
  · have h6 := edges_len (machL_inv s)
    rw [hm] at h6 ⊢
    omega
  · have h6 := edges_less hI h5
    rw [hl] at h6
    rw [hm] at h6 ⊢
    omega

end Go.Proofs.Ytehppjilnacjlaa
