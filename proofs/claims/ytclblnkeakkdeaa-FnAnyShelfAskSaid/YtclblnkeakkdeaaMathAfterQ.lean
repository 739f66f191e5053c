/-
  Plain mathematics of marks that grow with a text: each fresh mark is put behind the last unless it is that one. No conditions.
-/
import Derived.Test.YtclblnkeakkdeaaMathAfter
namespace Go.Proofs.Ytclblnkeakkdeaa

/-- Places behind others: each one that is not the last. -/
def putNew (old : List Nat) : List Nat → List Nat
  | [] => old
  | x :: xs => putNew (if old = [] ∨ old.getLastD 0 ≠ x then old ++ [x] else old) xs

theorem putNew_snoc (old xs : List Nat) (x : Nat) : putNew old (xs ++ [x]) = if putNew old xs = [] ∨ (putNew old xs).getLastD 0 ≠ x then putNew old xs ++ [x] else putNew old xs := by
  induction xs generalizing old with
  | nil => rfl
  | cons y ys ih => exact ih _

theorem putNew_chN (B C : List Int) (w f n : Nat) (hw : 0 < w) (he : ∀ i, i < n → leastTo B (f + i) w = f + leastTo C i w) :
    putNew (chN B w f) ((chN C w n).map (f + ·)) = chN B w (f + n) := by
  induction n with
  | zero => simp [chN, putNew]
  | succ n ih =>
    have hn := he n (by omega)
    have ih' := ih (fun i hi => he i (by omega))
    rw [show f + (n + 1) = f + n + 1 from rfl]
    by_cases hc : (chN C w n).getLast? = some (leastTo C n w)
    · rw [chN_same hc, ih']
      cases n with
      | zero => simp [chN] at hc
      | succ m =>
        rw [chN_last] at hc
        have hm := he m (by omega)
        injection hc with hc
        have hb : (chN B w (f + (m + 1))).getLast? = some (leastTo B (f + (m + 1)) w) := by
          rw [show f + (m + 1) = f + m + 1 from rfl, chN_last, hm, show f + m + 1 = f + (m + 1) from rfl, hn, hc]
        exact (chN_same hb).symm
    · rw [chN_new hc, List.map_append, List.map_singleton, putNew_snoc, ih', ← hn]
      by_cases hb : (chN B w (f + n)).getLast? = some (leastTo B (f + n) w)
      · rw [chN_same hb, if_neg]
        rintro (h | h)
        · exact ne_nil_of hb h
        · rw [getLastD_of hb] at h; exact h rfl
      · rw [chN_new hb, if_pos]
        by_cases h0 : f + n = 0
        · left; rw [h0]; rfl
        · right
          obtain ⟨m, hm⟩ : ∃ m, f + n = m + 1 := ⟨f + n - 1, by omega⟩
          rw [hm] at hb ⊢
          rw [getLastD_of (chN_last B w m)]
          rw [chN_last] at hb
          have := leastTo_mono B m w hw
          have hne : leastTo B m w ≠ leastTo B (m + 1) w := fun e => hb (by rw [e])
          omega

theorem marksAt_afterQ (s t : List UInt8) (k w f : Nat) (hk : 0 < k) (hw : 0 < w) (hf : f = s.length + 1 - (k + w - 1)) :
    putNew (marksAt s k w) ((marksAt ((s ++ t).drop f) k w).map (f + ·)) = marksAt (s ++ t) k w ∧ ∃ r, marksAt (s ++ t) k w = marksAt s k w ++ r := by
  have la := printsN_len s k hk
  have lb := printsN_len (s ++ t) k hk
  have lc := printsN_len ((s ++ t).drop f) k hk
  rw [List.length_append] at lb
  rw [List.length_drop, List.length_append] at lc
  have fa : (printsL s (k : Int)).length + 1 - w = f := by omega
  obtain ⟨n, hn⟩ : ∃ n, (printsL (s ++ t) (k : Int)).length + 1 - w = f + n := ⟨(printsL (s ++ t) (k : Int)).length + 1 - w - f, by omega⟩
  have fc : (printsL ((s ++ t).drop f) (k : Int)).length + 1 - w = n := by omega
  have e1 : marksAt s k w = chN (printsL (s ++ t) k) w f := by
    unfold marksAt
    rw [chosenN_ok hw, fa]
    refine (chN_same_rows _ _ w f fun i hi => ?_).symm
    have := leastTo_shift (L := printsL s k) (M := printsL (s ++ t) k) (f := i) (g := i) hw (fun d hd => by
      rw [printsN_get _ _ _ hk (by rw [List.length_append]; omega), printsN_get _ _ _ hk (by omega), pieceL_append _ _ _ _ (by omega)])
    have := (leastTo_is (printsL s k) i w hw).lo
    omega
  have e2 : marksAt (s ++ t) k w = chN (printsL (s ++ t) k) w (f + n) := by
    unfold marksAt
    rw [chosenN_ok hw, hn]
  have e3 : marksAt ((s ++ t).drop f) k w = chN (printsL ((s ++ t).drop f) k) w n := by
    unfold marksAt
    rw [chosenN_ok hw, fc]
  rw [e1, e2, e3]
  refine ⟨putNew_chN _ _ w f n hw fun i hi => ?_, chN_prefix _ w f n⟩
  have h := leastTo_shift (L := printsL ((s ++ t).drop f) k) (M := printsL (s ++ t) k) (f := i) (g := f + i) hw (fun d hd => by
    have := List.length_append (as := s) (bs := t)
    rw [printsN_get _ _ _ hk (by omega), printsN_get _ _ _ hk (by rw [List.length_drop]; omega), pieceL_drop, Nat.add_assoc])
  have := (leastTo_is (printsL ((s ++ t).drop f) k) i w hw).lo
  omega

/-- One mark behind others, unless it is the last of them. -/
def stepQ (f : Int) (out : List (Int × Int)) (x : Int × Int) : List (Int × Int) := if out = [] ∨ (out.getLastD (0, 0)).2 ≠ x.2 + f then out ++ [(x.1, x.2 + f)] else out

theorem putNew_pairs (g h : Nat → Int) (f : Nat) (old xs : List Nat) (he : ∀ x ∈ xs, h x = g (f + x)) :
    (xs.map fun x => (h x, (x : Int))).foldl (stepQ f) (old.map fun x => (g x, (x : Int))) = (putNew old (xs.map (f + ·))).map fun x => (g x, (x : Int)) := by
  induction xs generalizing old with
  | nil => rfl
  | cons x xs ih =>
    have hx := he x (by simp)
    have e : stepQ f (old.map fun x => (g x, (x : Int))) (h x, (x : Int)) = (if old = [] ∨ old.getLastD 0 ≠ f + x then old ++ [f + x] else old).map fun x => (g x, (x : Int)) := by
      unfold stepQ
      by_cases h0 : old = []
      · subst h0; simp [hx]; omega
      · have hl : ((old.map fun x => (g x, (x : Int))).getLastD (0, 0)).2 = ((old.getLastD 0 : Nat) : Int) := by
          rw [List.getLastD_eq_getLast?, List.getLastD_eq_getLast?, List.getLast?_map, List.getLast?_eq_some_getLast h0]
          rfl
        simp only [hl, List.map_eq_nil_iff, h0, false_or]
        by_cases hc : old.getLastD 0 ≠ f + x
        · rw [if_pos (by omega), if_pos hc, List.map_append, hx]
          simp; omega
        · rw [if_neg (by omega), if_neg hc]
    rw [List.map_cons, List.foldl_cons, e, List.map_cons]
    exact ih _ (fun y hy => he y (by simp [hy]))

theorem marksL_afterQ (s t : List UInt8) (k w f : Nat) (hk : 0 < k) (hw : 0 < w) (hf : f = s.length + 1 - (k + w - 1)) :
    (marksL ((s ++ t).drop f) k w).foldl (stepQ f) (marksL s k w) = marksL (s ++ t) k w ∧ ∃ r, marksL (s ++ t) k w = marksL s k w ++ r := by
  obtain ⟨h1, r, h2⟩ := marksAt_afterQ s t k w f hk hw hf
  have eold : marksL s k w = (marksAt s k w).map fun x => ((printsL (s ++ t) k).getD x 0, (x : Int)) := by
    refine List.map_congr_left fun x hx => ?_
    have := marksAt_lt s k w hk x hx
    rw [printsN_get _ _ _ hk this, printsN_get _ _ _ hk (by rw [List.length_append]; omega), pieceL_append _ _ _ _ this]
  constructor
  · rw [eold]
    unfold marksL
    rw [putNew_pairs, h1]
    intro x hx
    have := marksAt_lt _ k w hk x hx
    rw [List.length_drop] at this
    rw [printsN_get _ _ _ hk (by rw [List.length_drop]; omega), printsN_get _ _ _ hk (by omega), pieceL_drop]
  · refine ⟨r.map fun x => ((printsL (s ++ t) k).getD x 0, (x : Int)), ?_⟩
    rw [eold]
    unfold marksL
    rw [h2, List.map_append]

theorem stepQ_len (f : Int) (out : List (Int × Int)) (x : Int × Int) : (stepQ f out x).length ≤ out.length + 1 := by
  unfold stepQ; split
  · simp
  · omega
theorem foldQ_next (f : Int) (old fresh : List (Int × Int)) (i : Nat) (hi : i < fresh.length) : (fresh.take (i + 1)).foldl (stepQ f) old = stepQ f ((fresh.take i).foldl (stepQ f) old) fresh[i] := by
  rw [List.take_succ_eq_append_getElem hi, List.foldl_append]; rfl
theorem foldQ_len (f : Int) (old fresh : List (Int × Int)) (i : Nat) (hi : i ≤ fresh.length) : ((fresh.take i).foldl (stepQ f) old).length ≤ old.length + i := by
  induction i with
  | zero => simp
  | succ i ih =>
    rw [foldQ_next f old fresh i (by omega)]
    have h1 := ih (by omega)
    have h2 := stepQ_len f ((fresh.take i).foldl (stepQ f) old) fresh[i]
    omega

end Go.Proofs.Ytclblnkeakkdeaa
