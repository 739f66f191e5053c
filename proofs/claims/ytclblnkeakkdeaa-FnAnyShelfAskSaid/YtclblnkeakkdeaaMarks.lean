/-
  The contracts of the model's functions MarksOf, TwinsOf and MarksAfter. Condition: texts have at most 2^22 bytes.
-/
import Derived.Test.YtclblnkeakkdeaaChosen
import Derived.Test.YtclblnkeakkdeaaMathAfter
import Derived.Test.YtclblnkeakkdeaaPair
import Derived.Deep.RegionHeld3
namespace Go.Proofs.Ytclblnkeakkdeaa
open Go.RowKit

theorem Try.ulM4 : Try.prog.underlying 39 = some (.slice 46) := by kernel_rfl
theorem Try.infoM4 : (Try.prog.info? 46).map (fun i => (i.zero, i.size, i.bytes)) = some (some (.agg #[.int .i64 0, .int .i64 0]), 2, 16) := by kernel_rfl

theorem cellsAt_lit (w : World) (e : TypeId) (cs : Array Value) (g : Nat) (hg : g = w.heap.size) : CellsAt (w.alloc (.cells cs e)) (some ⟨g, 0, none⟩) cs.toList := by
  subst hg
  refine ⟨fun _ => ⟨w.heap.size, 0, rfl, by simp, fun j u hj => ?_⟩⟩
  rw [cell_of_row _ w.heap.size (0 + j) _ e (0, 0) (heap_alloc_new w _)]
  simpa using hj

theorem natC_len (l : List Nat) : (natC l).length = l.length := by simp [natC, intCells]
theorem natC_get (l : List Nat) (i : Nat) (hi : i < l.length) : (natC l)[i]? = some (.int .i64 (l[i] : Nat)) := by simp [natC, intCells, hi]
theorem intC_get (l : List Int) (i : Nat) (x : Int) (hi : i < l.length) (hx : l.getD i 0 = x) : (intCells l)[i]? = some (.int .i64 x) := by
  subst hx; simp [intCells, List.getD, hi]
theorem pairs_take {l : List (Int × Int)} {i : Nat} {p x : Int} (hi : i < l.length) (h : l[i] = (p, x)) : pairsC (l.take (i + 1)) = pairsC (l.take i) ++ [.int .i64 p, .int .i64 x] := by
  rw [List.take_succ_eq_append_getElem hi, pairsC_append, h]; rfl

set_option maxHeartbeats 4000000 in
theorem specMarks_any (s : ByteArray) (k v : Int) (M : List (Int × Int)) (w : World) (hM : marksL s.data.toList k v = M) (hs : s.size ≤ 4194304) (hv9 : v ≤ 9223372036854775807) :
    Calls Try.prog 75 #[.string s, .int .i64 k, .int .i64 v] w fun e w' => ∃ a n c, e = .returned (.slice a n c) ∧ One w w.heap.size w' 46 2 a n c (pairsC M) := by
  obtain ⟨P, hP⟩ : ∃ P, printsL s.data.toList k = P := ⟨_, rfl⟩
  have hPl : P.length ≤ 4194304 := by
    have h := printsN_room s.data.toList k
    rw [hP] at h
    have : s.data.toList.length = s.size := rfl
    omega
  obtain ⟨C, hC⟩ : ∃ C, chosenN P v = C := ⟨_, rfl⟩
  have hCl : C.length ≤ P.length := by rw [← hC]; exact chosenN_len P v
  have HCx := Lib.hid (show ∀ i (h : i < C.length), C[i] < P.length from fun i h => by subst hC; exact chosenN_lt P v _ (List.getElem_mem h))
  have hML : M = C.map fun x => (P.getD x 0, (x : Int)) := by rw [← hM, marksL, marksAt, hP, hC]
  have HM := Lib.hid hML
  have hMl : M.length = C.length := by rw [hML, List.length_map]
  have HMl := Lib.hid hMl
  have c1 := fun w => specPrintsOf_is s k P w hs hP
  have HCe := Lib.hid hC
  have HPl := Lib.hid hPl
  have HCl := Lib.hid hCl
  clear hM hML hMl hC hP hPl hCl
  go_enter Try.func75, Try.ntmps75
  go_wp2_with fail
  refine (c1 _).mono ?_
  rintro e w2 ⟨la, ln, lc, rfl, h2⟩
  have hln : ln = P.length := by have h := h2.own.1; simp only [intCells, List.length_map] at h; omega
  have HLN := Lib.hid hln
  have hln9 : ln ≤ 4194304 := by have := HPl.out; omega
  clear hln
  go_wp2_with fail
  refine (specChosen_any P la ln lc v w2 HLN.out hln9 hv9 (cellsAt_own h2.own)).mono ?_
  rintro e w3 ⟨ca, cn, cc, rfl, h3⟩
  rw [HCe.out] at h3
  have hcn : cn = C.length := by have h := h3.own.1; rw [natC_len] at h; omega
  have HCN := Lib.hid hcn
  have hcn9 : cn ≤ 4194304 := by have := HCl.out; have := HPl.out; omega
  have hone0 : One w w.heap.size w3 46 2 (some ⟨w.heap.size, 0, none⟩) 0 0 (pairsC (M.take 0)) := ((One.empty w 46 2).later h2.below).later h3.below
  have hl0 : w3.ownsRow w.heap.size 3 1 (.slice la ln lc) ln (intCells P) := own_under (ownsRow_below h2.own h3.below) (by simp)
  have hc0 : w3.ownsRow w.heap.size 3 1 (.slice ca cn cc) cn (natC C) := own_under h3.own (by have := h2.base; simp at this; omega)
  clear h2 h3 hcn c1
  go_wp2
  go_loopw [7, 10] (fun o_ i_ wr => ∃ i : Nat, i ≤ cn ∧ i_ = .int .i64 i ∧ ∃ a c, o_ = .slice a i c ∧ One w w.heap.size wr 46 2 a i c (pairsC (M.take i)) ∧ wr.ownsRow w.heap.size 3 1 (.slice la ln lc) ln (intCells P) ∧ wr.ownsRow w.heap.size 3 1 (.slice ca cn cc) cn (natC C)) (fun _ i_ _ => cn - (intOf i_).toNat)
  case atStart => exact ⟨0, Nat.zero_le _, rfl, _, _, rfl, hone0, hl0, hc0⟩
  case round =>
    clear hone0 hl0 hc0
    obtain ⟨i, hi, rfl, a, c, rfl, hone, hlr, hcr⟩ := hrel
    by_cases hlt : i < cn
    · have hic : i < C.length := by have := HCN.out; omega
      have hx := HCx.out i hic
      have hcg := natC_get C i hic
      have hmi : M[i]'(by rw [HMl.out]; exact hic) = (P.getD C[i] 0, (C[i] : Int)) := by simp [HM.out]
      obtain ⟨x, hxe⟩ : ∃ x, C[i] = x := ⟨_, rfl⟩
      rw [hxe] at hx hcg hmi
      obtain ⟨p, hp⟩ : ∃ p, P.getD x 0 = p := ⟨_, rfl⟩
      rw [hp] at hmi
      have hlg := intC_get P x p hx hp
      have hxl : x < ln := by have := HLN.out; omega
      obtain ⟨lg, rfl⟩ := own_addr hlr (by omega)
      obtain ⟨cg, rfl⟩ := own_addr hcr (by omega)
      have k1 : wr.cell? ⟨cg, i, none⟩ = some (.int .i64 (x : Int)) := by rw [hcr.cellAt i (by omega)]; exact hcg
      have k2 : wr.cell? ⟨lg, x, none⟩ = some (.int .i64 p) := by rw [hlr.cellAt x (by omega)]; exact hlg
      have hb1 : cg < wr.heap.size := (hcr.lt cg rfl).2
      have hb2 : lg < wr.heap.size := (hlr.lt lg rfl).2
      have HS := Lib.hid (pairs_take (by rw [HMl.out]; exact hic) hmi)
      have HK := Lib.hid (show ∀ w0 w', Below wr.heap.size wr w0 → w0.grownBy w' (Value.ownBlock (.slice a i c)) →
          (w'.cell? ⟨cg, i, none⟩ = some (.int .i64 (x : Int)) ∧ w'.cell? ⟨lg, x, none⟩ = some (.int .i64 p)) ∧ w'.ownsRow w.heap.size 3 1 (.slice (some ⟨lg, 0, none⟩) ln lc) ln (intCells P) ∧ w'.ownsRow w.heap.size 3 1 (.slice (some ⟨cg, 0, none⟩) cn cc) cn (natC C) from fun w0 w' hb hg => by
        have q1 := ownsRow_kept_apart (ownsRow_below hlr hb) (ownsRow_below hone.own hb) (by decide) hg
        have q2 := ownsRow_kept_apart (ownsRow_below hcr hb) (ownsRow_below hone.own hb) (by decide) hg
        exact ⟨⟨by rw [q2.cellAt i (by omega)]; exact hcg, by rw [q1.cellAt x (by omega)]; exact hlg⟩, q1, q2⟩)
      have z1 : (0 : Int) ≤ (x : Int) := by omega
      have z2 : (x : Int) < (ln : Int) := by omega
      have z3 : (i : Int) < (cn : Int) := by omega
      clear hlr hcr hcg hmi hlg hxe hp hx
      go_wp2
      go_region_held3 (fun w' => w'.cell? ⟨cg, i, none⟩ = some (.int .i64 (x : Int)) ∧ w'.cell? ⟨lg, x, none⟩ = some (.int .i64 p)) (first | go_keep | exact (HK.out _ _ (by repeat (first | exact Below.refl _ _ | exact below_drewN' (Below.refl _ _) _ | refine Below.drew ?_ | refine Below.alloc ?_ (by first | exact Nat.le_refl _ | simp) _)) g3).1)
        ((refine step_append_to w w.heap.size a i c (pairsC (M.take i)) (some ⟨wr.heap.size, 0, none⟩) 1 1 [.int .i64 p, .int .i64 (x : Int)] (i + 1) (pairsC (M.take (i + 1))) (by rfl) (by exact HS.out.symm) (by rfl) (.tmp 24) (.tmp 37) 39 (by rfl) (by rfl) (by rfl) Try.ulM4 Try.infoM4 rfl (by decide) (by rfl) (by simp [Value.oneCell']) (by unfold maxLen; omega) (by omega) (by repeat (first | exact hone | refine One.drew ?_ | exact One.drewN hone _ | refine One.alloc ?_ _)) (by repeat (first | exact cellsAt_lit _ _ _ _ rfl | refine CellsAt.drewW ?_)) ?_; intro a3 c3 w3 h3 g3))
      go_wp2
      go_roundw
      case rel =>
        have q := HK.out _ _ (by repeat (first | exact Below.refl _ _ | exact below_drewN' (Below.refl _ _) _ | refine Below.drew ?_ | refine Below.alloc ?_ (by first | exact Nat.le_refl _ | simp) _)) g3
        exact ⟨i + 1, by omega, by go_num, a3, c3, rfl, h3, q.2.1, q.2.2⟩
      case measure => simp [intOf]; omega
    · have hie : i = M.length := by have := HMl.out; have := HCN.out; omega
      have HO := Lib.hid (show One w w.heap.size wr 46 2 a i c (pairsC M) by
        have h := hone
        rw [List.take_of_length_le (by omega)] at h
        exact h)
      clear hone hlr hcr hie
      go_wp2
      go_ret
      exact ⟨_, _, _, rfl, HO.out⟩

end Go.Proofs.Ytclblnkeakkdeaa
