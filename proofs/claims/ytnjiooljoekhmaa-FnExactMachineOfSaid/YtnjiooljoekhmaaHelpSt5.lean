/-
  The contracts of the laws' own helpers markStateS and heldStateS: numbers are written through all of the states, and read back. Conditions: at most 2^23 states with at most 2^20 edges each.
-/
import Derived.Test.YtnjiooljoekhmaaHelpSt2
namespace Go.Proofs.Ytnjiooljoekhmaa
open Go.RowKit

/-- A row of edges is written in place. -/
theorem StRows.setF {W : World} {B : Nat} {w w' : World} {a : Option Addr} {n c : Nat} {D : Nat → Int × Int} {A : Nat → Sm} {F F' : Nat → List (Int × Int)} (h : StRows W B w a n c D A F) {i : Nat} (hi : i < n) (ho : w'.ownsRow B 57 2 (smV (A i)) (A i).2.1 (pairsC (F' i))) (hg : w.grownBy w' (smV (A i)).ownBlock) (h1 : ∀ e, e < n → e ≠ i → F' e = F e) :
    StRows W B w' a n c D A F' := by
  refine ⟨⟨h.outer.own.kept hg ?_, Nat.le_trans h.outer.base hg.size, h.outer.below.grown hg h.outer.base (fun k hk => ((h.inner i hi).lt k hk).1)⟩, fun d hd => ?_, h.apart, h.apart0⟩
  · cases hb : (Value.slice a n c).ownBlock with
    | none => exact .inl rfl
    | some b => exact .inr (fun e => h.apart0 i hi b e.symm hb)
  · by_cases hdi : d = i
    · subst hdi; exact ho
    · rw [h1 d hd hdi]
      refine (h.inner d hd).kept hg ?_
      cases hb : (smV (A d)).ownBlock with
      | none => exact .inl rfl
      | some b => exact .inr (fun e => h.apart d i hd hi hdi b hb e.symm)

def sumE (F : Nat → List (Int × Int)) (k : Nat) : Nat := ((List.range k).map fun i => (F i).length).sum
theorem sumE_next (F : Nat → List (Int × Int)) (k : Nat) : sumE F (k + 1) = sumE F k + (F k).length := by
  rw [sumE, List.range_succ, List.map_append, List.sum_append]; simp [sumE]
theorem sumE_mono (F : Nat → List (Int × Int)) {k n : Nat} (h : k ≤ n) : sumE F k ≤ sumE F n := by
  induction h with
  | refl => exact Nat.le_refl _
  | step _ ih => rw [sumE_next]; omega
/-- The number at which the marks of a state begin. -/
def stM (m : Nat) (F : Nat → List (Int × Int)) (i : Nat) : Nat := m + i * 2 + sumE F i * 2
theorem stM_next (m : Nat) (F : Nat → List (Int × Int)) (i : Nat) : stM m F (i + 1) = stM m F i + 2 + (F i).length * 2 := by
  unfold stM; rw [sumE_next]; omega
theorem stM_mono (m : Nat) (F : Nat → List (Int × Int)) {k n : Nat} (h : k ≤ n) : stM m F k ≤ stM m F n := by
  have := sumE_mono F h
  unfold stM; omega
def mkD (m : Nat) (F : Nat → List (Int × Int)) (i : Nat) : Int × Int := ((stM m F i : Int), (stM m F i : Int) + 1)
def mkF (m : Nat) (F : Nat → List (Int × Int)) (i : Nat) : List (Int × Int) := marksEdge (stM m F i + 2) (F i).length
def upD (m : Nat) (F : Nat → List (Int × Int)) (D : Nat → Int × Int) (k i : Nat) : Int × Int := if i < k then mkD m F i else D i
def upF (m : Nat) (F : Nat → List (Int × Int)) (k i : Nat) : List (Int × Int) := if i < k then mkF m F i else F i

set_option maxHeartbeats 8000000 in
theorem markStateS_any (W : World) (B g n c m : Nat) (D : Nat → Int × Int) (A : Nat → Sm) (F : Nat → List (Int × Int)) (w : World) (h : StRows W B w (some ⟨g, 0, none⟩) n c D A F) (hn : n ≤ 8388608) (few : ∀ i, i < n → (F i).length ≤ 1048576) (hm : stM m F n < 274877906944) :
    Calls Try.prog 12 #[.slice (some ⟨g, 0, none⟩) n c, .int .i64 m] w fun e w' => e = .returned (.int .i64 (stM m F n : Int)) ∧ StRows W B w' (some ⟨g, 0, none⟩) n c (mkD m F) A (mkF m F) := by
  have HF := Lib.hid few
  have HM := Lib.hid hm
  have H0 := Lib.hid (show StRows W B w (some ⟨g, 0, none⟩) n c (upD m F D 0) A (upF m F 0) from h.congr (fun i _ => by rw [upD, if_neg (Nat.not_lt_zero _)]) (fun i _ => by rw [upF, if_neg (Nat.not_lt_zero _)]))
  have HZ0 := Lib.hid (show m = stM m F 0 by unfold stM sumE; simp)
  clear h few hm
  go_enter Try.func12, Try.ntmps12
  go_wp2
  go_loopw [1, 5] (fun q_ i_ wr => ∃ k z : Nat, k ≤ n ∧ i_ = .int .i64 (k : Int) ∧ q_ = .int .i64 (z : Int) ∧ Hid (z = stM m F k) ∧ Hid (StRows W B wr (some ⟨g, 0, none⟩) n c (upD m F D k) A (upF m F k))) (fun _ i_ _ => n - (intOf i_).toNat)
  case atStart => exact ⟨0, m, Nat.zero_le _, rfl, rfl, HZ0, H0⟩
  case round =>
    clear H0 HZ0
    obtain ⟨k, z, hk, rfl, rfl, HZ, HS⟩ := hrel
    by_cases hlt : k < n
    · have hz9 : z + 2 < 274877906944 := by
        have h1 := stM_mono m F (show k + 1 ≤ n by omega)
        have h2 := stM_next m F k
        have := HM.out
        have := HZ.out
        omega
      obtain ⟨ai, ni, ci, hAi⟩ : ∃ a n c, A k = (a, n, c) := ⟨_, _, _, rfl⟩
      have hs0 := HS.out
      have x1 := (hs0.cells hlt).1
      have y1 := hs0.frozen (k * 3)
      obtain ⟨D1, hD1⟩ : ∃ D1 : Nat → Int × Int, D1 = fun e => if e = k then ((z : Int), (upD m F D k k).2) else upD m F D k e := ⟨_, rfl⟩
      have hs1 := hs0.setN (i := k) (j := 0) (v := (z : Int)) (D' := D1) hlt (by omega) (fun e he hne => by rw [hD1]; exact if_neg hne) (by rw [hD1]; simp only [if_pos]; rfl)
      rw [Nat.add_zero] at hs1
      have x2 := (hs1.cells hlt).2.1
      have y2 := hs1.frozen (k * 3 + 1)
      obtain ⟨D2, hD2⟩ : ∃ D2 : Nat → Int × Int, D2 = upD m F D (k + 1) := ⟨_, rfl⟩
      have hd2 : D2 k = ((z : Int), (z : Int) + 1) := by rw [hD2, upD, if_pos (by omega), mkD, ← HZ.out]
      have hd1 : D1 k = ((z : Int), (upD m F D k k).2) := by rw [hD1]; exact if_pos rfl
      have hs2 := hs1.setN (i := k) (j := 1) (v := (z : Int) + 1) (D' := D2) hlt (by omega) (fun e he hne => by rw [hD1, hD2, upD]; simp only; rw [if_neg hne, upD]; by_cases h : e < k; rw [if_pos (by omega), if_pos h]; rw [if_neg (by omega), if_neg h]) (by rw [hd1, hd2]; rfl)
      clear hd1 hd2
      have x3 := (hs2.cells hlt).2.2
      rw [hAi] at x3
      have hin := hs2.inner k hlt
      rw [hAi] at hin
      have hin2 : ((wr.setCell ⟨g, k * 3, none⟩ (.int .i64 (z : Int))).setCell ⟨g, k * 3 + 1, none⟩ (.int .i64 ((z : Int) + 1))).ownsRow B 57 2 (.slice ai ni ci) ni (pairsC (upF m F k k)) := hin
      have hni : ni = (F k).length := by
        have h1 := pairs_len hin2
        rw [upF, if_neg (Nat.lt_irrefl _)] at h1
        exact h1
      have hfk := HF.out k hlt
      have cE := fun (m2 : Nat) (hm0 : 0 < m2) (hm2 : m2 < 274877906944) => markEdgeS_any B ai ni ci (upF m F k k) m2 _ hin2 (by omega) hm0 hm2
      have HS2 := Lib.hid hs2
      have hni9 : ni ≤ 1048576 := by omega
      have HNI := Lib.hid hni
      have HAI := Lib.hid hAi
      have HD2 := Lib.hid hD2
      have z0 : (0 : Int) ≤ (k : Int) := by omega
      have z1 : (k : Int) < (n : Int) := by omega
      have v1 : IntKind.i64.wrap ((z : Int) + 1) = (z : Int) + 1 := IntWalk.i64_in _ (by omega)
      have v2 : IntKind.i64.wrap ((z : Int) + 1 + 1) = (z : Int) + 1 + 1 := IntWalk.i64_in _ (by omega)
      replace x3 : ((wr.setCell ⟨g, k * 3, none⟩ (.int .i64 (z : Int))).setCell ⟨g, k * 3 + 1, none⟩ (.int .i64 ((z : Int) + 1))).cell? ⟨g, k * 3 + 2, none⟩ = some (.slice ai ni ci) := x3
      have cE2 := cE (z + 2) (by omega) (by omega)
      rw [show ((z + 2 : Nat) : Int) = (z : Int) + 1 + 1 by omega] at cE2
      clear hs0 hs1 hs2 hD1 hD2 hin hin2 hni hfk hAi cE HS
      go_wp2_with fail
      refine cE2.mono ?_
      rintro e w5 ⟨rfl, o5, g5⟩
      have hs5 := HS2.out.setF (i := k) (F' := upF m F (k + 1)) hlt (by
        rw [HAI.out, upF, if_pos (Nat.lt_succ_self _), mkF, ← HZ.out, ← HNI.out]; exact o5) (by rw [HAI.out]; exact g5) (fun e he hne => by unfold upF; by_cases h : e < k; rw [if_pos (by omega), if_pos h]; rw [if_neg (by omega), if_neg h])
      rw [HD2.out] at hs5
      have HS5 := Lib.hid hs5
      have HZ5 := Lib.hid (show z + 2 + ni * 2 = stM m F (k + 1) by rw [stM_next, ← HZ.out, ← HNI.out])
      clear cE2 o5 g5 hs5 x1 x2 x3 y1 y2
      go_wp2
      go_roundw
      case rel => exact ⟨k + 1, z + 2 + ni * 2, by omega, by go_num, rfl, HZ5, HS5⟩
      case measure => simp [intOf]; omega
    · obtain rfl : k = n := by omega
      have HR := Lib.hid (show StRows W B wr (some ⟨g, 0, none⟩) k c (mkD m F) A (mkF m F) from HS.out.congr (fun i hi => by rw [upD, if_pos hi]) (fun i hi => by rw [upF, if_pos hi]))
      clear HS
      go_wp2
      go_ret
      exact ⟨by rw [← HZ.out]; rfl, HR.out⟩

set_option maxHeartbeats 8000000 in
theorem heldStateS_any (W : World) (B g n c m : Nat) (A : Nat → Sm) (F : Nat → List (Int × Int)) (w : World) (h : StRows W B w (some ⟨g, 0, none⟩) n c (mkD m F) A (mkF m F)) (hn : n ≤ 8388608) (few : ∀ i, i < n → (F i).length ≤ 1048576) (hm : stM m F n < 274877906944) :
    Calls Try.prog 13 #[.slice (some ⟨g, 0, none⟩) n c, .int .i64 m] w fun e w' => e = .returned (.int .i64 (stM m F n : Int)) ∧ Below w.heap.size w w' := by
  have HF := Lib.hid few
  have HM := Lib.hid hm
  have HS := Lib.hid h
  have HZ0 := Lib.hid (show m = stM m F 0 by unfold stM sumE; simp)
  clear h few hm
  go_enter Try.func13, Try.ntmps13
  go_wp2
  go_loopw [1, 5] (fun q_ i_ wr => ∃ k z : Nat, k ≤ n ∧ i_ = .int .i64 (k : Int) ∧ q_ = .int .i64 (z : Int) ∧ Hid (z = stM m F k) ∧ Hid (Below w.heap.size w wr)) (fun _ i_ _ => n - (intOf i_).toNat)
  case atStart => exact ⟨0, m, Nat.zero_le _, rfl, rfl, HZ0, Lib.hid (Below.refl _ _)⟩
  case round =>
    clear HZ0
    obtain ⟨k, z, hk, rfl, rfl, HZ, HB⟩ := hrel
    by_cases hlt : k < n
    · have hz9 : z + 2 < 274877906944 := by
        have h1 := stM_mono m F (show k + 1 ≤ n by omega)
        have h2 := stM_next m F k
        have := HM.out
        have := HZ.out
        omega
      obtain ⟨ai, ni, ci, hAi⟩ : ∃ a n c, A k = (a, n, c) := ⟨_, _, _, rfl⟩
      have hs := HS.out.later HB.out
      obtain ⟨x1, x2, x3⟩ := hs.cells hlt
      rw [mkD, ← HZ.out] at x1 x2
      rw [hAi] at x3
      replace x1 : wr.cell? ⟨g, k * 3, none⟩ = some (.int .i64 (z : Int)) := x1
      replace x2 : wr.cell? ⟨g, k * 3 + 1, none⟩ = some (.int .i64 ((z : Int) + 1)) := x2
      replace x3 : wr.cell? ⟨g, k * 3 + 2, none⟩ = some (.slice ai ni ci) := x3
      have hone := hs.one hlt
      rw [hAi] at hone
      have hni : ni = (F k).length := by
        have h1 := pairs_len hone.own
        rw [mkF, marksEdge_len] at h1
        exact h1
      have hfk := HF.out k hlt
      have hat : CellsAt wr ai (pairsC (marksEdge (z + 2) ni)) := by
        have h1 := hone.at_
        rw [mkF, ← HZ.out, ← hni] at h1
        exact h1
      have cE2 := heldEdgeS_any ai ni ci (z + 2) wr hat (by omega) (by omega) (by omega)
      rw [show ((z + 2 : Nat) : Int) = (z : Int) + 1 + 1 by omega] at cE2
      have hni9 : ni ≤ 1048576 := by omega
      have HNI := Lib.hid hni
      have z0 : (0 : Int) ≤ (k : Int) := by omega
      have z1 : (k : Int) < (n : Int) := by omega
      have v1 : IntKind.i64.wrap ((z : Int) + 1) = (z : Int) + 1 := IntWalk.i64_in _ (by omega)
      have v2 : IntKind.i64.wrap ((z : Int) + 1 + 1) = (z : Int) + 1 + 1 := IntWalk.i64_in _ (by omega)
      have t1 : ((z : Int) == (z : Int)) = true := beq_self_eq_true _
      have t1' : ((z : Int) != (z : Int)) = false := by rw [bne, t1]; rfl
      have t2 : ((z : Int) + 1 == (z : Int) + 1) = true := beq_self_eq_true _
      have t2' : ((z : Int) + 1 != (z : Int) + 1) = false := by rw [bne, t2]; rfl
      have t3 : ¬ (((z + 2 + ni * 2 : Nat) : Int) < 0) := by omega
      clear hs hone hni hfk hat hAi
      go_wp2_with fail
      refine cE2.mono ?_
      rintro e w5 ⟨rfl, b5⟩
      have HB5 := Lib.hid (HB.out.trans (b5.mono HB.out.size))
      have HZ5 := Lib.hid (show z + 2 + ni * 2 = stM m F (k + 1) by rw [stM_next, ← HZ.out, ← HNI.out])
      clear cE2 b5 x1 x2 x3
      go_wp2
      go_roundw
      case rel => exact ⟨k + 1, z + 2 + ni * 2, by omega, by go_num, rfl, HZ5, HB5⟩
      case measure => simp [intOf]; omega
    · obtain rfl : k = n := by omega
      go_wp2
      go_ret
      exact ⟨by rw [← HZ.out]; rfl, HB.out⟩

end Go.Proofs.Ytnjiooljoekhmaa
