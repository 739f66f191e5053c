/-
  Rows of states that the call itself made: each state has its own row of edges. No program is read but for its types. No conditions.
-/
import Derived.Test.YtehppjilnacjlaaSide
import Derived.Test.YtehppjilnacjlaaPair
namespace Go.Proofs.Ytehppjilnacjlaa
open Go.RowKit

abbrev Sm := Option Addr × Nat × Nat
def smV (x : Sm) : Value := .slice x.1 x.2.1 x.2.2
def stR (d : Int × Int) (x : Sm) : List Value := [.int .i64 d.1, .int .i64 d.2, smV x]
def stC (n : Nat) (D : Nat → Int × Int) (A : Nat → Sm) : List Value := (List.range n).flatMap fun i => stR (D i) (A i)
theorem stC_len (n : Nat) (D : Nat → Int × Int) (A : Nat → Sm) : (stC n D A).length = n * 3 := by
  have h := flat_len (fun i => stR (D i) (A i)) 3 (fun _ => rfl) (List.range n)
  rwa [List.length_range] at h
theorem stC_get {n : Nat} {D : Nat → Int × Int} {A : Nat → Sm} {i j : Nat} (hi : i < n) (hj : j < 3) : (stC n D A)[i * 3 + j]? = (stR (D i) (A i))[j]? := by
  have h := flat_get (fun i => stR (D i) (A i)) 3 (fun _ => rfl) (List.range n) i j (by simpa using hi) hj
  rw [List.getElem_range] at h
  exact h
theorem stC_succ (n : Nat) (D : Nat → Int × Int) (A : Nat → Sm) : stC (n + 1) D A = stC n D A ++ stR (D n) (A n) := by
  rw [stC, List.range_succ, List.flatMap_append]; simp [stC]
theorem stC_same {n : Nat} {D D' : Nat → Int × Int} {A A' : Nat → Sm} (h1 : ∀ i, i < n → D' i = D i) (h2 : ∀ i, i < n → A' i = A i) : stC n D' A' = stC n D A := by
  induction n with
  | zero => rfl
  | succ n ih => rw [stC_succ, stC_succ, ih (fun i hi => h1 i (by omega)) (fun i hi => h2 i (by omega)), h1 n (by omega), h2 n (by omega)]
theorem stC_set {n : Nat} {D D' : Nat → Int × Int} {A A' : Nat → Sm} {i j : Nat} {v : Value} (hi : i < n) (hj : j < 3) (h1 : ∀ e, e < n → e ≠ i → D' e = D e ∧ A' e = A e) (h2 : (stR (D i) (A i)).set j v = stR (D' i) (A' i)) : (stC n D A).set (i * 3 + j) v = stC n D' A' := by
  apply List.ext_getElem?
  intro k
  by_cases hk : k < n * 3
  · obtain ⟨e, f, he, hf, rfl⟩ : ∃ e f, e < n ∧ f < 3 ∧ k = e * 3 + f := ⟨k / 3, k % 3, by omega, by omega, by omega⟩
    rw [stC_get he hf]
    by_cases hei : e = i
    · subst hei
      rw [← h2]
      by_cases hfj : f = j
      · subst hfj
        rw [List.getElem?_set_self (by rw [stC_len]; omega), List.getElem?_set_self (by simpa [stR] using hf)]
      · rw [List.getElem?_set_ne (by omega), List.getElem?_set_ne (fun e => hfj e.symm), stC_get he hf]
    · rw [List.getElem?_set_ne (by omega), stC_get he hf, (h1 e he hei).1, (h1 e he hei).2]
  · rw [List.getElem?_eq_none (by rw [List.length_set, stC_len]; omega), List.getElem?_eq_none (by rw [stC_len]; omega)]

structure StRows (W : World) (B : Nat) (w : World) (a : Option Addr) (n c : Nat) (D : Nat → Int × Int) (A : Nat → Sm) (F : Nat → List (Int × Int)) : Prop where
  outer : One W B w 29 3 a n c (stC n D A)
  inner : ∀ d, d < n → w.ownsRow B 31 2 (smV (A d)) (A d).2.1 (pairsC (F d))
  apart : ∀ d e, d < n → e < n → d ≠ e → ∀ b, (smV (A d)).ownBlock = some b → (smV (A e)).ownBlock ≠ some b
  apart0 : ∀ d, d < n → ∀ b, (smV (A d)).ownBlock = some b → (Value.slice a n c).ownBlock ≠ some b

theorem StRows.later {W : World} {B : Nat} {w w' : World} {a : Option Addr} {n c : Nat} {D : Nat → Int × Int} {A : Nat → Sm} {F : Nat → List (Int × Int)} (h : StRows W B w a n c D A F) (hb : Below w.heap.size w w') : StRows W B w' a n c D A F :=
  ⟨h.outer.later hb, fun d hd => ownsRow_below (h.inner d hd) hb, h.apart, h.apart0⟩
theorem StRows.one {W : World} {B : Nat} {w : World} {a : Option Addr} {n c : Nat} {D : Nat → Int × Int} {A : Nat → Sm} {F : Nat → List (Int × Int)} (h : StRows W B w a n c D A F) {d : Nat} (hd : d < n) : One W B w 31 2 (A d).1 (A d).2.1 (A d).2.2 (pairsC (F d)) := ⟨h.inner d hd, h.outer.base, h.outer.below⟩
theorem StRows.cells {W : World} {B : Nat} {w : World} {g n c : Nat} {D : Nat → Int × Int} {A : Nat → Sm} {F : Nat → List (Int × Int)} (h : StRows W B w (some ⟨g, 0, none⟩) n c D A F) {i : Nat} (hi : i < n) : w.cell? ⟨g, i * 3, none⟩ = some (.int .i64 (D i).1) ∧ w.cell? ⟨g, i * 3 + 1, none⟩ = some (.int .i64 (D i).2) ∧ w.cell? ⟨g, i * 3 + 2, none⟩ = some (smV (A i)) := by
  refine ⟨?_, ?_, ?_⟩
  · rw [h.outer.own.cellAt (i * 3) (by omega)]
    have := stC_get (D := D) (A := A) hi (show 0 < 3 by omega)
    rw [Nat.add_zero] at this
    rw [this]; rfl
  · rw [h.outer.own.cellAt (i * 3 + 1) (by omega), stC_get hi (by omega)]; rfl
  · rw [h.outer.own.cellAt (i * 3 + 2) (by omega), stC_get hi (by omega)]; rfl
theorem StRows.frozen {W : World} {B : Nat} {w : World} {g n c : Nat} {D : Nat → Int × Int} {A : Nat → Sm} {F : Nat → List (Int × Int)} (h : StRows W B w (some ⟨g, 0, none⟩) n c D A F) (j : Nat) : w.frozen? ⟨g, j, none⟩ = false := h.outer.frozen j
theorem StRows.congr {W : World} {B : Nat} {w : World} {a : Option Addr} {n c : Nat} {D D' : Nat → Int × Int} {A : Nat → Sm} {F F' : Nat → List (Int × Int)} (h : StRows W B w a n c D A F) (hD : ∀ i, i < n → D' i = D i) (hF : ∀ i, i < n → F' i = F i) : StRows W B w a n c D' A F' :=
  ⟨by rw [stC_same hD (fun _ _ => rfl)]; exact h.outer, fun d hd => by rw [hF d hd]; exact h.inner d hd, h.apart, h.apart0⟩
/-- A number of a state is written. -/
theorem StRows.setN {W : World} {B : Nat} {w : World} {g n c : Nat} {D D' : Nat → Int × Int} {A : Nat → Sm} {F : Nat → List (Int × Int)} (h : StRows W B w (some ⟨g, 0, none⟩) n c D A F) {i j : Nat} {v : Int} (hi : i < n) (hj : j < 2) (h1 : ∀ e, e < n → e ≠ i → D' e = D e) (h2 : (stR (D i) (A i)).set j (.int .i64 v) = stR (D' i) (A i)) :
    StRows W B (w.setCell ⟨g, i * 3 + j, none⟩ (.int .i64 v)) (some ⟨g, 0, none⟩) n c D' A F := by
  have ho := h.outer.stored (i * 3 + j) (.int .i64 v)
  rw [stC_set hi (by omega) (fun e he hne => ⟨h1 e he hne, rfl⟩) h2] at ho
  have hG : w.grownBy (w.setCell ⟨g, i * 3 + j, none⟩ (.int .i64 v)) (some g) := ⟨rfl, rfl, rfl, by simp [World.setCell], fun k _ hk => Below.heap_setCell _ _ _ _ (fun e => hk (by simp [e]))⟩
  refine ⟨ho, fun d hd => (h.inner d hd).kept hG ?_, h.apart, h.apart0⟩
  cases hb : (smV (A d)).ownBlock with
  | none => exact .inl rfl
  | some b => exact .inr (fun e => by
      have h3 := h.apart0 d hd b hb
      injection e with e
      subst e
      exact h3 rfl)
/-- A new row of edges is put into a state. -/
theorem StRows.put {W : World} {B : Nat} {w0 w : World} {g n c : Nat} {D : Nat → Int × Int} {A A' : Nat → Sm} {F F' : Nat → List (Int × Int)} (h : StRows W B w0 (some ⟨g, 0, none⟩) n c D A F) {i : Nat} (hi : i < n) {a' : Option Addr} {n' c' : Nat} (o : One w0 w0.heap.size w 31 2 a' n' c' (pairsC (F' i))) (hA : A' i = (a', n', c')) (h1 : ∀ e, e < n → e ≠ i → A' e = A e ∧ F' e = F e) :
    StRows W B (w.setCell ⟨g, i * 3 + 2, none⟩ (.slice a' n' c')) (some ⟨g, 0, none⟩) n c D A' F' := by
  have hl := h.later o.below
  have hsm : smV (A' i) = .slice a' n' c' := by rw [hA]; rfl
  have ho := hl.outer.stored (i * 3 + 2) (.slice a' n' c')
  rw [stC_set (D' := D) (A' := A') hi (by omega) (fun e he hne => ⟨rfl, (h1 e he hne).1⟩) (by rw [← hsm]; rfl)] at ho
  have hG : w.grownBy (w.setCell ⟨g, i * 3 + 2, none⟩ (.slice a' n' c')) (some g) := ⟨rfl, rfl, rfl, by simp [World.setCell], fun k _ hk => Below.heap_setCell _ _ _ _ (fun e => hk (by simp [e]))⟩
  have hgw : g < w0.heap.size := (h.outer.own.lt g (by simp [Value.ownBlock])).2
  have hnew : ∀ b, (smV (A' i)).ownBlock = some b → w0.heap.size ≤ b := fun b hb => by rw [hsm] at hb; exact (o.own.lt b hb).1
  have hold : ∀ e, e < n → ∀ b, (smV (A e)).ownBlock = some b → b < w0.heap.size := fun e he b hb => ((h.inner e he).lt b hb).2
  refine ⟨ho, fun d hd => ?_, fun d e hd he hde b hb => ?_, fun d hd b hb => ?_⟩
  · by_cases hdi : d = i
    · subst hdi
      have h3 : w.ownsRow B 31 2 (smV (A' d)) (A' d).2.1 (pairsC (F' d)) := by
        rw [hsm, hA]
        refine ⟨o.own.1, ?_⟩
        rcases o.own.2 with h4 | ⟨g4, cap, cur, h5, h6, h7⟩
        · exact .inl h4
        · exact .inr ⟨g4, cap, cur, h5, Nat.le_trans h.outer.base h6, h7⟩
      refine h3.kept hG ?_
      cases hb : (smV (A' d)).ownBlock with
      | none => exact .inl rfl
      | some b => exact .inr (fun e => by
          have := hnew b hb
          injection e with e
          omega)
    · rw [(h1 d hd hdi).1, (h1 d hd hdi).2]
      refine (hl.inner d hd).kept hG ?_
      cases hb : (smV (A d)).ownBlock with
      | none => exact .inl rfl
      | some b => exact .inr (fun e => by
          have h3 := h.apart0 d hd b hb
          injection e with e
          subst e
          exact h3 rfl)
  · by_cases hdi : d = i
    · subst hdi
      have hed : e ≠ d := fun x => hde x.symm
      rw [(h1 e he hed).1]
      intro hb2
      have := hnew b hb
      have := hold e he b hb2
      omega
    · rw [(h1 d hd hdi).1] at hb
      by_cases hei : e = i
      · subst hei
        intro hb2
        have := hnew b hb2
        have := hold d hd b hb
        omega
      · rw [(h1 e he hei).1]
        exact h.apart d e hd he hde b hb
  · by_cases hdi : d = i
    · subst hdi
      have := hnew b hb
      intro e
      simp [Value.ownBlock] at e
      omega
    · rw [(h1 d hd hdi).1] at hb
      exact h.apart0 d hd b hb
/-- One state more, with no edges or a new row of them. -/
theorem StRows.more {W : World} {B : Nat} {w0 w w' : World} {a a2 : Option Addr} {n c c2 : Nat} {D D' : Nat → Int × Int} {A A' : Nat → Sm} {F F' : Nat → List (Int × Int)} (h : StRows W B w0 a n c D A F) {a' : Option Addr} {n' c' : Nat} (o : One w0 w0.heap.size w 31 2 a' n' c' (pairsC (F' n)))
    (hA : A' n = (a', n', c')) (h1 : ∀ e, e < n → D' e = D e ∧ A' e = A e ∧ F' e = F e) (o2 : One W B w' 29 3 a2 (n + 1) c2 (stC n D A ++ stR (D' n) (A' n))) (hg : w.grownBy w' (Value.ownBlock (.slice a n c))) (hs : Spared w (.slice a n c) (.slice a2 (n + 1) c2)) :
    StRows W B w' a2 (n + 1) c2 D' A' F' := by
  have hl := h.later o.below
  have hsm : smV (A' n) = .slice a' n' c' := by rw [hA]; rfl
  have hnew : ∀ b, (smV (A' n)).ownBlock = some b → w0.heap.size ≤ b ∧ b < w.heap.size := fun b hb => by rw [hsm] at hb; exact o.own.lt b hb
  have hold : ∀ e, e < n → ∀ b, (smV (A e)).ownBlock = some b → b < w0.heap.size := fun e he b hb => ((h.inner e he).lt b hb).2
  have hout : ∀ b, (Value.slice a n c).ownBlock = some b → b < w0.heap.size := h.outer.block_lt
  have cas : ∀ d, d < n + 1 → d < n ∨ d = n := fun d hd => by omega
  have hw0 : w0.heap.size ≤ w.heap.size := o.below.size
  refine ⟨?_, fun d hd => ?_, fun d e hd he hde b hb => ?_, fun d hd b hb => ?_⟩
  · rw [stC_succ, stC_same (fun i hi => (h1 i hi).1) (fun i hi => (h1 i hi).2.1)]
    exact o2
  · rcases cas d hd with hd | rfl
    · rw [(h1 d hd).2.1, (h1 d hd).2.2]
      refine (hl.inner d hd).kept hg ?_
      cases hb : (smV (A d)).ownBlock with
      | none => exact .inl rfl
      | some b => exact .inr (fun e => h.apart0 d hd b hb e.symm)
    · have h3 : w.ownsRow B 31 2 (smV (A' d)) (A' d).2.1 (pairsC (F' d)) := by
        rw [hsm, hA]
        refine ⟨o.own.1, ?_⟩
        rcases o.own.2 with h4 | ⟨g4, cap, cur, h5, h6, h7⟩
        · exact .inl h4
        · exact .inr ⟨g4, cap, cur, h5, Nat.le_trans h.outer.base h6, h7⟩
      refine h3.kept hg ?_
      cases hb : (smV (A' d)).ownBlock with
      | none => exact .inl rfl
      | some b => exact .inr (fun e => by
          have h4 := (hnew b hb).1
          have h5 := hout b e.symm
          omega)
  · rcases cas d hd with hd | rfl
    · rw [(h1 d hd).2.1] at hb
      rcases cas e he with he | rfl
      · rw [(h1 e he).2.1]
        exact h.apart d e hd he hde b hb
      · intro hb2
        have := (hnew b hb2).1
        have := hold d hd b hb
        omega
    · rcases cas e he with he | rfl
      · rw [(h1 e he).2.1]
        intro hb2
        have := (hnew b hb).1
        have := hold e he b hb2
        omega
      · exact absurd rfl hde
  · rcases cas d hd with hd | rfl
    · rw [(h1 d hd).2.1] at hb
      exact hs b (by have := hold d hd b hb; omega) (h.apart0 d hd b hb)
    · exact hs b (hnew b hb).2 (fun e => by have := hout b e; have := (hnew b hb).1; omega)

end Go.Proofs.Ytehppjilnacjlaa
