/-
  Plain mathematics of marks that grow with a text. No conditions.
-/
import Derived.Test.YtclblnkeakkdeaaMathChosen
namespace Go.Proofs.Ytclblnkeakkdeaa

/-- One mark behind others, if it lies behind the last of them. -/
def stepP (f : Int) (out : List (Int × Int)) (x : Int × Int) : List (Int × Int) := if out = [] ∨ (out.getLastD (0, 0)).2 < x.2 + f then out ++ [(x.1, x.2 + f)] else out

theorem putAfter_pairs (g h : Nat → Int) (f : Nat) (old xs : List Nat) (he : ∀ x ∈ xs, h x = g (f + x)) :
    (xs.map fun x => (h x, (x : Int))).foldl (stepP f) (old.map fun x => (g x, (x : Int))) = (putAfter old (xs.map (f + ·))).map fun x => (g x, (x : Int)) := by
  induction xs generalizing old with
  | nil => rfl
  | cons x xs ih =>
    have hx := he x (by simp)
    have e : stepP f (old.map fun x => (g x, (x : Int))) (h x, (x : Int)) = (if old = [] ∨ old.getLastD 0 < f + x then old ++ [f + x] else old).map fun x => (g x, (x : Int)) := by
      unfold stepP
      by_cases h0 : old = []
      · subst h0; simp [hx]; omega
      · have hl : ((old.map fun x => (g x, (x : Int))).getLastD (0, 0)).2 = ((old.getLastD 0 : Nat) : Int) := by
          rw [List.getLastD_eq_getLast?, List.getLastD_eq_getLast?, List.getLast?_map, List.getLast?_eq_some_getLast h0]
          rfl
        simp only [hl, List.map_eq_nil_iff, h0, false_or]
        by_cases hc : old.getLastD 0 < f + x
        · rw [if_pos (by omega), if_pos hc, List.map_append, hx]
          simp; omega
        · rw [if_neg (by omega), if_neg hc]
    rw [List.map_cons, List.foldl_cons, e, List.map_cons]
    exact ih _ (fun y hy => he y (by simp [hy]))

/-- The marks of a text. -/
def marksL (s : List UInt8) (k w : Int) : List (Int × Int) := (marksAt s k w).map fun x => ((printsL s k).getD x 0, (x : Int))

theorem marksAt_lt (s : List UInt8) (k : Nat) (w : Int) (hk : 0 < k) (x : Nat) (hx : x ∈ marksAt s k w) : x + k ≤ s.length := by
  have h := chosenN_lt _ _ _ hx
  rw [printsN_len s k hk] at h
  omega

/-- Marks grow with the text. -/
theorem marksL_after (s t : List UInt8) (k w f : Nat) (hk : 0 < k) (hw : 0 < w) (hf : f = s.length + 1 - (k + w - 1)) :
    (marksL ((s ++ t).drop f) k w).foldl (stepP f) (marksL s k w) = marksL (s ++ t) k w ∧ ∃ r, marksL (s ++ t) k w = marksL s k w ++ r := by
  obtain ⟨h1, r, h2⟩ := marksAt_after s t k w f hk hw hf
  have eold : marksL s k w = (marksAt s k w).map fun x => ((printsL (s ++ t) k).getD x 0, (x : Int)) := by
    refine List.map_congr_left fun x hx => ?_
    have := marksAt_lt s k w hk x hx
    rw [printsN_get _ _ _ hk this, printsN_get _ _ _ hk (by rw [List.length_append]; omega), pieceL_append _ _ _ _ this]
  constructor
  · rw [eold]
    unfold marksL
    rw [putAfter_pairs, h1]
    intro x hx
    have := marksAt_lt _ k w hk x hx
    rw [List.length_drop] at this
    rw [printsN_get _ _ _ hk (by rw [List.length_drop]; omega), printsN_get _ _ _ hk (by omega), pieceL_drop]
  · refine ⟨r.map fun x => ((printsL (s ++ t) k).getD x 0, (x : Int)), ?_⟩
    rw [eold]
    unfold marksL
    rw [h2, List.map_append]

theorem marksL_bounds (s : List UInt8) (k w : Int) (x : Int × Int) (hx : x ∈ marksL s k w) : 0 ≤ x.2 ∧ x.2 ≤ s.length := by
  obtain ⟨n, hn, rfl⟩ := List.mem_map.1 hx
  have h1 := chosenN_lt _ _ _ hn
  have h2 := printsN_room s k
  show 0 ≤ (n : Int) ∧ (n : Int) ≤ _
  omega

theorem stepP_len (f : Int) (out : List (Int × Int)) (x : Int × Int) : (stepP f out x).length ≤ out.length + 1 := by
  unfold stepP; split
  · simp
  · omega
theorem foldP_next (f : Int) (old fresh : List (Int × Int)) (i : Nat) (hi : i < fresh.length) : (fresh.take (i + 1)).foldl (stepP f) old = stepP f ((fresh.take i).foldl (stepP f) old) fresh[i] := by
  rw [List.take_succ_eq_append_getElem hi, List.foldl_append]; rfl
theorem foldP_len (f : Int) (old fresh : List (Int × Int)) (i : Nat) (hi : i ≤ fresh.length) : ((fresh.take i).foldl (stepP f) old).length ≤ old.length + i := by
  induction i with
  | zero => simp
  | succ i ih =>
    rw [foldP_next f old fresh i (by omega)]
    have h1 := ih (by omega)
    have h2 := stepP_len f ((fresh.take i).foldl (stepP f) old) fresh[i]
    omega

end Go.Proofs.Ytclblnkeakkdeaa
