/-
  Words for rows of records of two numbers. No conditions.
  The contracts of the model's functions MarksOf, TwinsOf and MarksAfter. Condition: texts have at most 2^22 bytes.
  The contract of the model's function TwinsOf. Condition: rows have at most 2^20 marks.
  Plain mathematics of a row of places that can still be chosen: its numbers rise, so its first place is the last one of the least. No conditions.
-/
import Derived.Test.YtclblnkeakkdeaaMg9
import Derived.Test.YtclblnkeakkdeaaMg17
import Derived.Test.YtclblnkeakkdeaaMg4
import Derived.Deep.RegionHeld3
import Derived.Test.YtclblnkeakkdeaaMg3
namespace Go.Proofs.Ytclblnkeakkdeaa
open Go.RowKit

/-- The cells of a record of two numbers, and of a row of them. -/
def pairC (x : Int × Int) : List Value := [.int .i64 x.1, .int .i64 x.2]
def pairsC (l : List (Int × Int)) : List Value := l.flatMap pairC
theorem pairC_len (x : Int × Int) : (pairC x).length = 2 := rfl
theorem pairsC_len (l : List (Int × Int)) : (pairsC l).length = l.length * 2 := flat_len pairC 2 pairC_len l
theorem pairsC_append (l m : List (Int × Int)) : pairsC (l ++ m) = pairsC l ++ pairsC m := by simp [pairsC]
theorem pairsC_one (l : List (Int × Int)) : ∀ u ∈ pairsC l, u.oneCell' = true := by
  intro u hu
  simp only [pairsC, List.mem_flatMap, pairC] at hu
  obtain ⟨x, _, hx⟩ := hu
  simp only [List.mem_cons, List.not_mem_nil, or_false] at hx
  rcases hx with rfl | rfl <;> simp [Value.oneCell']
theorem CellsAt.pair {w : World} {a : Option Addr} {l : List (Int × Int)} (h : CellsAt w a (pairsC l)) (hne : l ≠ []) : ∃ b o, a = some ⟨b, o, none⟩ ∧ b < w.heap.size ∧
    ∀ k (hk : k < l.length), w.cell? ⟨b, o + k * 2, none⟩ = some (.int .i64 l[k].1) ∧ w.cell? ⟨b, o + k * 2 + 1, none⟩ = some (.int .i64 l[k].2) := by
  obtain ⟨b, o, ha, hb, hc⟩ := h.spot (fun e => by have := congrArg List.length e; rw [pairsC_len] at this; simp at this; exact hne (List.length_eq_zero_iff.1 (by omega)))
  refine ⟨b, o, ha, hb, fun k hk => ⟨?_, ?_⟩⟩
  · have := hc (k * 2 + 0) (.int .i64 l[k].1) (by rw [pairsC, flat_get pairC 2 pairC_len l k 0 hk (by omega)]; rfl)
    simpa using this
  · have := hc (k * 2 + 1) (.int .i64 l[k].2) (by rw [pairsC, flat_get pairC 2 pairC_len l k 1 hk (by omega)]; rfl)
    rwa [← Nat.add_assoc] at this
theorem pairs_len {w : World} {B : Nat} {e : TypeId} {a : Option Addr} {n c : Nat} {l : List (Int × Int)} (h : w.ownsRow B e 2 (.slice a n c) n (pairsC l)) : n = l.length := by
  have := h.1
  rw [pairsC_len] at this; omega

end Go.Proofs.Ytclblnkeakkdeaa

namespace Go.Proofs.Ytclblnkeakkdeaa
open Go.RowKit

theorem Try.ulM4 : Try.prog.underlying 39 = some (.slice 46) := by kernel_rfl
theorem Try.infoM4 : (Try.prog.info? 46).map (fun i => (i.zero, i.size, i.bytes)) = some (some (.agg #[.int .i64 0, .int .i64 0]), 2, 16) := by kernel_rfl

theorem cellsAt_lit (w : World) (e : TypeId) (cs : Array Value) (g : Nat) (hg : g = w.heap.size) : CellsAt (w.alloc (.cells cs e)) (some ⟨g, 0, none⟩) cs.toList := by
  subst hg
  refine ⟨fun _ => ⟨w.heap.size, 0, rfl, by simp, fun j u hj => ?_⟩⟩
  rw [cell_of_row _ w.heap.size (0 + j) _ e (0, 0) (heap_alloc_new w _)]
  simpa using hj

theorem natC_len (l : List Nat) : (natC l).length = l.length := by simp [natC, intCells]
theorem natC_get (l : List Nat) (i : Nat) (hi : i < l.length) : (natC l)[i]? = some (.int .i64 (l[i] : Nat)) := by simp [natC, intCells, hi]
theorem intC_get (l : List Int) (i : Nat) (x : Int) (hi : i < l.length) (hx : l.getD i 0 = x) : (intCells l)[i]? = some (.int .i64 x) := by
  subst hx; simp [intCells, List.getD, hi]
theorem pairs_take {l : List (Int × Int)} {i : Nat} {p x : Int} (hi : i < l.length) (h : l[i] = (p, x)) : pairsC (l.take (i + 1)) = pairsC (l.take i) ++ [.int .i64 p, .int .i64 x] := by
  rw [List.take_succ_eq_append_getElem hi, pairsC_append, h]; rfl

set_option maxHeartbeats 4000000 in
theorem specMarks_any (s : ByteArray) (k v : Int) (M : List (Int × Int)) (w : World) (hM : marksL s.data.toList k v = M) (hs : s.size ≤ 4194304) (hv9 : v ≤ 9223372036854775807) :
    Calls Try.prog 75 #[.string s, .int .i64 k, .int .i64 v] w fun e w' => ∃ a n c, e = .returned (.slice a n c) ∧ One w w.heap.size w' 46 2 a n c (pairsC M) := by
  obtain ⟨P, hP⟩ : ∃ P, printsL s.data.toList k = P := ⟨_, rfl⟩
  have hPl : P.length ≤ 4194304 := by
    have h := printsN_room s.data.toList k
    rw [hP] at h
    have : s.data.toList.length = s.size := rfl
    omega
  obtain ⟨C, hC⟩ : ∃ C, chosenN P v = C := ⟨_, rfl⟩
  have hCl : C.length ≤ P.length := by rw [← hC]; exact chosenN_len P v
  have HCx := Lib.hid (show ∀ i (h : i < C.length), C[i] < P.length from fun i h => by subst hC; exact chosenN_lt P v _ (List.getElem_mem h))
  have hML : M = C.map fun x => (P.getD x 0, (x : Int)) := by rw [← hM, marksL, marksAt, hP, hC]
  have HM := Lib.hid hML
  have hMl : M.length = C.length := by rw [hML, List.length_map]
  have HMl := Lib.hid hMl
  have c1 := fun w => specPrintsOf_is s k P w hs hP
  have HCe := Lib.hid hC
  have HPl := Lib.hid hPl
  have HCl := Lib.hid hCl
  clear hM hML hMl hC hP hPl hCl
  go_enter Try.func75, Try.ntmps75
  go_wp2_with fail
  refine (c1 _).mono ?_
  rintro e w2 ⟨la, ln, lc, rfl, h2⟩
  have hln : ln = P.length := by have h := h2.own.1; simp only [intCells, List.length_map] at h; omega
  have HLN := Lib.hid hln
  have hln9 : ln ≤ 4194304 := by have := HPl.out; omega
  clear hln
  go_wp2_with fail
  refine (specChosen_any P la ln lc v w2 HLN.out hln9 hv9 (cellsAt_own h2.own)).mono ?_
  rintro e w3 ⟨ca, cn, cc, rfl, h3⟩
  rw [HCe.out] at h3
  have hcn : cn = C.length := by have h := h3.own.1; rw [natC_len] at h; omega
  have HCN := Lib.hid hcn
  have hcn9 : cn ≤ 4194304 := by have := HCl.out; have := HPl.out; omega
  have hone0 : One w w.heap.size w3 46 2 (some ⟨w.heap.size, 0, none⟩) 0 0 (pairsC (M.take 0)) := ((One.empty w 46 2).later h2.below).later h3.below
  have hl0 : w3.ownsRow w.heap.size 3 1 (.slice la ln lc) ln (intCells P) := own_under (ownsRow_below h2.own h3.below) (by simp)
  have hc0 : w3.ownsRow w.heap.size 3 1 (.slice ca cn cc) cn (natC C) := own_under h3.own (by have := h2.base; simp at this; omega)
  clear h2 h3 hcn c1
  go_wp2
  go_loopw [7, 10] (fun o_ i_ wr => ∃ i : Nat, i ≤ cn ∧ i_ = .int .i64 i ∧ ∃ a c, o_ = .slice a i c ∧ One w w.heap.size wr 46 2 a i c (pairsC (M.take i)) ∧ wr.ownsRow w.heap.size 3 1 (.slice la ln lc) ln (intCells P) ∧ wr.ownsRow w.heap.size 3 1 (.slice ca cn cc) cn (natC C)) (fun _ i_ _ => cn - (intOf i_).toNat)
  case atStart => exact ⟨0, Nat.zero_le _, rfl, _, _, rfl, hone0, hl0, hc0⟩
  case round =>
    clear hone0 hl0 hc0
    obtain ⟨i, hi, rfl, a, c, rfl, hone, hlr, hcr⟩ := hrel
    by_cases hlt : i < cn
    · have hic : i < C.length := by have := HCN.out; omega
      have hx := HCx.out i hic
      have hcg := natC_get C i hic
      have hmi : M[i]'(by rw [HMl.out]; exact hic) = (P.getD C[i] 0, (C[i] : Int)) := by simp [HM.out]
      obtain ⟨x, hxe⟩ : ∃ x, C[i] = x := ⟨_, rfl⟩
      rw [hxe] at hx hcg hmi
      obtain ⟨p, hp⟩ : ∃ p, P.getD x 0 = p := ⟨_, rfl⟩
      rw [hp] at hmi
      have hlg := intC_get P x p hx hp
      have hxl : x < ln := by have := HLN.out; omega
      obtain ⟨lg, rfl⟩ := own_addr hlr (by omega)
      obtain ⟨cg, rfl⟩ := own_addr hcr (by omega)
      have k1 : wr.cell? ⟨cg, i, none⟩ = some (.int .i64 (x : Int)) := by rw [hcr.cellAt i (by omega)]; exact hcg
      have k2 : wr.cell? ⟨lg, x, none⟩ = some (.int .i64 p) := by rw [hlr.cellAt x (by omega)]; exact hlg
      have hb1 : cg < wr.heap.size := (hcr.lt cg rfl).2
      have hb2 : lg < wr.heap.size := (hlr.lt lg rfl).2
      have HS := Lib.hid (pairs_take (by rw [HMl.out]; exact hic) hmi)
      have HK := Lib.hid (show ∀ w0 w', Below wr.heap.size wr w0 → w0.grownBy w' (Value.ownBlock (.slice a i c)) →
          (w'.cell? ⟨cg, i, none⟩ = some (.int .i64 (x : Int)) ∧ w'.cell? ⟨lg, x, none⟩ = some (.int .i64 p)) ∧ w'.ownsRow w.heap.size 3 1 (.slice (some ⟨lg, 0, none⟩) ln lc) ln (intCells P) ∧ w'.ownsRow w.heap.size 3 1 (.slice (some ⟨cg, 0, none⟩) cn cc) cn (natC C) from fun w0 w' hb hg => by
        have q1 := ownsRow_kept_apart (ownsRow_below hlr hb) (ownsRow_below hone.own hb) (by decide) hg
        have q2 := ownsRow_kept_apart (ownsRow_below hcr hb) (ownsRow_below hone.own hb) (by decide) hg
        exact ⟨⟨by rw [q2.cellAt i (by omega)]; exact hcg, by rw [q1.cellAt x (by omega)]; exact hlg⟩, q1, q2⟩)
      have z1 : (0 : Int) ≤ (x : Int) := by omega
      have z2 : (x : Int) < (ln : Int) := by omega
      have z3 : (i : Int) < (cn : Int) := by omega
      clear hlr hcr hcg hmi hlg hxe hp hx
      go_wp2
      go_region_held3 (fun w' => w'.cell? ⟨cg, i, none⟩ = some (.int .i64 (x : Int)) ∧ w'.cell? ⟨lg, x, none⟩ = some (.int .i64 p)) (first | go_keep | exact (HK.out _ _ (by repeat (first | exact Below.refl _ _ | exact below_drewN' (Below.refl _ _) _ | refine Below.drew ?_ | refine Below.alloc ?_ (by first | exact Nat.le_refl _ | simp) _)) g3).1)
        ((refine step_append_to w w.heap.size a i c (pairsC (M.take i)) (some ⟨wr.heap.size, 0, none⟩) 1 1 [.int .i64 p, .int .i64 (x : Int)] (i + 1) (pairsC (M.take (i + 1))) (by rfl) (by exact HS.out.symm) (by rfl) (.tmp 24) (.tmp 37) 39 (by rfl) (by rfl) (by rfl) Try.ulM4 Try.infoM4 rfl (by decide) (by rfl) (by simp [Value.oneCell']) (by unfold maxLen; omega) (by omega) (by repeat (first | exact hone | refine One.drew ?_ | exact One.drewN hone _ | refine One.alloc ?_ _)) (by repeat (first | exact cellsAt_lit _ _ _ _ rfl | refine CellsAt.drewW ?_)) ?_; intro a3 c3 w3 h3 g3))
      go_wp2
      go_roundw
      case rel =>
        have q := HK.out _ _ (by repeat (first | exact Below.refl _ _ | exact below_drewN' (Below.refl _ _) _ | refine Below.drew ?_ | refine Below.alloc ?_ (by first | exact Nat.le_refl _ | simp) _)) g3
        exact ⟨i + 1, by omega, by go_num, a3, c3, rfl, h3, q.2.1, q.2.2⟩
      case measure => simp [intOf]; omega
    · have hie : i = M.length := by have := HMl.out; have := HCN.out; omega
      have HO := Lib.hid (show One w w.heap.size wr 46 2 a i c (pairsC M) by
        have h := hone
        rw [List.take_of_length_le (by omega)] at h
        exact h)
      clear hone hlr hcr hie
      go_wp2
      go_ret
      exact ⟨_, _, _, rfl, HO.out⟩

end Go.Proofs.Ytclblnkeakkdeaa

namespace Go.Proofs.Ytclblnkeakkdeaa
open Go.RowKit

theorem Try.ulT4 : Try.prog.underlying 47 = some (.slice 101) := by kernel_rfl
theorem Try.infoT4 : (Try.prog.info? 101).map (fun i => (i.zero, i.size, i.bytes)) = some (some (.agg #[.int .i64 0, .int .i64 0]), 2, 16) := by kernel_rfl

set_option maxHeartbeats 4000000 in
theorem specTwins_any (A B : List (Int × Int)) (a : Option Addr) (n c : Nat) (b : Option Addr) (m d : Nat) (w : World) (hn : n = A.length) (hm : m = B.length) (hn9 : n ≤ 1048576) (hm9 : m ≤ 1048576) (hA : CellsAt w a (pairsC A)) (hB : CellsAt w b (pairsC B)) :
    Calls Try.prog 81 #[.slice a n c, .slice b m d] w fun e w' => ∃ a' n' c', e = .returned (.slice a' n' c') ∧ One w w.heap.size w' 101 2 a' n' c' (pairsC (twinsL A B)) := by
  have HN := Lib.hid hn
  have HM := Lib.hid hm
  clear hn hm
  go_enter Try.func81, Try.ntmps81
  go_wp2
  go_loopw [5, 6] (fun o_ i_ wr => ∃ i : Nat, i ≤ n ∧ i_ = .int .i64 i ∧ ∃ a' n' c', o_ = .slice a' n' c' ∧ n' ≤ i * 1048576 ∧ One w w.heap.size wr 101 2 a' n' c' (pairsC (twinsL (A.take i) B))) (fun _ i_ _ => n - (intOf i_).toNat)
  case atStart => exact ⟨0, Nat.zero_le _, rfl, _, 0, _, rfl, by omega, One.empty _ _ _⟩
  case round =>
    obtain ⟨i, hi, rfl, a1, n1, c1, rfl, hn1, hone⟩ := hrel
    by_cases hlt : i < n
    · have hiA : i < A.length := by have := HN.out; omega
      obtain ⟨ab, ao, rfl, hab, hac⟩ := hA.pair (fun e => by rw [e] at hiA; simp at hiA)
      have hai := hac i hiA
      obtain ⟨p, hp⟩ : ∃ p, A[i].1 = p := ⟨_, rfl⟩
      obtain ⟨x, hx⟩ : ∃ x, A[i].2 = x := ⟨_, rfl⟩
      rw [hp, hx] at hai
      have HA := Lib.hid (show ∀ w', Below w.heap.size w w' → w'.cell? ⟨ab, ao + i * 2, none⟩ = some (.int .i64 p) ∧ w'.cell? ⟨ab, ao + i * 2 + 1, none⟩ = some (.int .i64 x) from fun w' h => ⟨(h.cell (p := ⟨ab, ao + i * 2, none⟩) hab).trans hai.1, (h.cell (p := ⟨ab, ao + i * 2 + 1, none⟩) hab).trans hai.2⟩)
      have HE := Lib.hid (show A[i] = (p, x) by rw [← hp, ← hx])
      have H0 := Lib.hid (show One w w.heap.size wr 101 2 a1 n1 c1 (pairsC (twinsL (A.take i) B ++ rowT (p, x) (B.take 0))) by simpa [rowT] using hone)
      clear hac hai hp hx hone
      go_wp2
      go_loopw [5, 7] (fun o_ k_ wr => ∃ k : Nat, k ≤ m ∧ k_ = .int .i64 k ∧ ∃ a' n' c', o_ = .slice a' n' c' ∧ n' ≤ i * 1048576 + k ∧ One w w.heap.size wr 101 2 a' n' c' (pairsC (twinsL (A.take i) B ++ rowT (p, x) (B.take k)))) (fun _ k_ _ => m - (intOf k_).toNat)
      case atStart => exact ⟨0, Nat.zero_le _, rfl, _, _, _, rfl, Nat.le_trans hn1 (Nat.le_add_right _ _), H0.out⟩
      case round =>
        clear H0
        obtain ⟨k, hk, rfl, a2, n2, c2, rfl, hn2, hone⟩ := hrel
        by_cases hlk : k < m
        · have hkB : k < B.length := by have := HM.out; omega
          obtain ⟨bb, bo, rfl, hbb, hbc⟩ := hB.pair (fun e => by rw [e] at hkB; simp at hkB)
          have hbk := hbc k hkB
          obtain ⟨q, hq⟩ : ∃ q, B[k].1 = q := ⟨_, rfl⟩
          obtain ⟨y, hy⟩ : ∃ y, B[k].2 = y := ⟨_, rfl⟩
          have hyes := rowT_yes (p, x) B k hkB
          have hno := rowT_no (p, x) B k hkB
          rw [hq, hy] at hbk
          rw [hq] at hyes hno
          rw [hy] at hyes
          have HB := Lib.hid (show ∀ w', Below w.heap.size w w' → w'.cell? ⟨bb, bo + k * 2, none⟩ = some (.int .i64 q) ∧ w'.cell? ⟨bb, bo + k * 2 + 1, none⟩ = some (.int .i64 y) from fun w' h => ⟨(h.cell (p := ⟨bb, bo + k * 2, none⟩) hbb).trans hbk.1, (h.cell (p := ⟨bb, bo + k * 2 + 1, none⟩) hbb).trans hbk.2⟩)
          obtain ⟨r1, r2⟩ := HA.out _ hone.below
          obtain ⟨r3, r4⟩ := HB.out _ hone.below
          clear hbc hbk hq hy
          by_cases hpq : p = q
          · have t1 : (p == q) = true := by rw [hpq]; exact beq_self_eq_true _
            have HS := Lib.hid (show pairsC (twinsL (A.take i) B ++ rowT (p, x) (B.take (k + 1))) = pairsC (twinsL (A.take i) B ++ rowT (p, x) (B.take k)) ++ [.int .i64 x, .int .i64 y] by rw [hyes hpq, ← List.append_assoc, pairsC_append]; rfl)
            clear hpq hyes hno
            go_wp2
            go_quiet (fail)
            go_wp2
            go_region_held3 (fun w' => w'.cell? ⟨ab, ao + i * 2 + 1, none⟩ = some (.int .i64 x) ∧ w'.cell? ⟨bb, bo + k * 2 + 1, none⟩ = some (.int .i64 y)) (first | go_keep | exact ⟨(HA.out _ h3.below).2, (HB.out _ h3.below).2⟩)
              ((refine step_append_to w w.heap.size a2 n2 c2 (pairsC (twinsL (A.take i) B ++ rowT (p, x) (B.take k))) (some ⟨wr.heap.size, 0, none⟩) 1 1 [.int .i64 x, .int .i64 y] (n2 + 1) (pairsC (twinsL (A.take i) B ++ rowT (p, x) (B.take (k + 1)))) (by rfl) (by exact HS.out.symm) (by rfl) (.tmp 32) (.tmp 44) 47 (by rfl) (by rfl) (by rfl) Try.ulT4 Try.infoT4 rfl (by decide) (by rfl) (by simp [Value.oneCell']) (by unfold maxLen; omega) (by omega) (by repeat (first | exact hone | refine One.drew ?_ | exact One.drewN hone _ | refine One.alloc ?_ _)) (by repeat (first | exact cellsAt_lit _ _ _ _ rfl | refine CellsAt.drewW ?_)) ?_; intro a3 c3 w3 h3 g3))
            go_wp2
            go_roundw
            case rel => exact ⟨k + 1, by omega, by go_num, a3, n2 + 1, c3, rfl, by omega, h3⟩
            case measure => simp [intOf]; omega
          · have t1 : (p == q) = false := by simpa using hpq
            have HS := Lib.hid (show pairsC (twinsL (A.take i) B ++ rowT (p, x) (B.take (k + 1))) = pairsC (twinsL (A.take i) B ++ rowT (p, x) (B.take k)) by rw [hno hpq])
            clear hpq hyes hno
            go_wp2
            go_quiet (fail)
            go_wp2
            go_roundw
            case rel => exact ⟨k + 1, by omega, by go_num, a2, n2, c2, rfl, by omega, by rw [HS.out]; exact hone.drewN _⟩
            case measure => simp [intOf]; omega
        · have HO := Lib.hid (show One w w.heap.size wr 101 2 a2 n2 c2 (pairsC (twinsL (A.take (i + 1)) B)) by
            rw [twinsL_next A B i hiA, HE.out]
            rw [show B.take k = B from List.take_of_length_le (by have := HM.out; omega)] at hone
            exact hone)
          clear hone
          go_wp2
          go_roundw
          case rel => exact ⟨i + 1, by omega, by go_num, a2, n2, c2, rfl, by omega, HO.out⟩
          case measure => simp [intOf]; omega
    · have HO := Lib.hid (show One w w.heap.size wr 101 2 a1 n1 c1 (pairsC (twinsL A B)) by
        rw [show A.take i = A from List.take_of_length_le (by have := HN.out; omega)] at hone
        exact hone)
      clear hone
      go_wp2
      go_ret
      exact ⟨_, _, _, rfl, HO.out⟩

end Go.Proofs.Ytclblnkeakkdeaa

namespace Go.Proofs.Ytclblnkeakkdeaa

/-- How many places of a row are left when those with numbers not below x are taken from its end. -/
def cutN (L : List Int) (x : Int) (P : List Nat) : Nat → Nat
  | 0 => 0
  | m + 1 => if x ≤ L.getD (P.getD m 0) 0 then cutN L x P m else m + 1

theorem cutN_le (L : List Int) (x : Int) (P : List Nat) (m : Nat) : cutN L x P m ≤ m := by
  induction m with
  | zero => exact Nat.le_refl _
  | succ m ih =>
    unfold cutN
    split
    · omega
    · omega
theorem cutN_behind (L : List Int) (x : Int) (P : List Nat) (m i : Nat) (h1 : cutN L x P m ≤ i) (h2 : i < m) : x ≤ L.getD (P.getD i 0) 0 := by
  induction m with
  | zero => omega
  | succ m ih =>
    unfold cutN at h1
    split at h1
    · rename_i h
      by_cases e : i = m
      · subst e; exact h
      · exact ih h1 (by omega)
    · omega
theorem cutN_ahead (L : List Int) (x : Int) (P : List Nat) (m p : Nat) (h : cutN L x P m = p + 1) : L.getD (P.getD p 0) 0 < x := by
  induction m with
  | zero => simp [cutN] at h
  | succ m ih =>
    unfold cutN at h
    split at h
    · exact ih h
    · rename_i h2
      obtain rfl : m = p := by omega
      omega
theorem cutN_step {L : List Int} {x : Int} {P : List Nat} {m : Nat} (h : x ≤ L.getD (P.getD m 0) 0) : cutN L x P (m + 1) = cutN L x P m := by rw [cutN, if_pos h]
theorem cutN_stop {L : List Int} {x : Int} {P : List Nat} {m : Nat} (h : ¬ x ≤ L.getD (P.getD m 0) 0) : cutN L x P (m + 1) = m + 1 := by rw [cutN, if_neg h]

/-- The places, among the last w of the first k, behind which all numbers are greater. -/
structure IsQ (L : List Int) (w k : Nat) (P : List Nat) : Prop where
  up : P.Pairwise (· < ·)
  mem : ∀ p, p ∈ P ↔ p < k ∧ k ≤ p + w ∧ ∀ q, p < q → q < k → L.getD p 0 < L.getD q 0

theorem IsQ.nil (L : List Int) (w : Nat) : IsQ L w 0 [] := ⟨.nil, by intro p; simp⟩

theorem up_get {P : List Nat} (h : P.Pairwise (· < ·)) {i j : Nat} (hij : i < j) (hj : j < P.length) : P.getD i 0 < P.getD j 0 := by
  have hi : i < P.length := by omega
  have := List.pairwise_iff_getElem.1 h i j hi hj hij
  simpa [List.getD_eq_getElem?_getD, List.getElem?_eq_getElem hi, List.getElem?_eq_getElem hj] using this

theorem getD_mem {P : List Nat} {i : Nat} (h : i < P.length) : P.getD i 0 ∈ P := by
  rw [List.getD_eq_getElem?_getD, List.getElem?_eq_getElem h]
  simp

theorem IsQ.len {L : List Int} {w k : Nat} {P : List Nat} (h : IsQ L w k P) : P.length ≤ k := by
  have hi : ∀ i, i < P.length → i ≤ P.getD i 0 := by
    intro i
    induction i with
    | zero => intro _; omega
    | succ i ih =>
      intro hl
      have h1 := ih (by omega)
      have h2 := up_get h.up (show i < i + 1 by omega) hl
      omega
  by_cases h0 : P.length = 0
  · omega
  · have h1 := hi (P.length - 1) (by omega)
    have h2 := ((h.mem _).1 (getD_mem (i := P.length - 1) (by omega))).1
    omega

/-- Numbers rise along the row. -/
theorem IsQ.rise {L : List Int} {w k : Nat} {P : List Nat} (h : IsQ L w k P) {i j : Nat} (hij : i < j) (hj : j < P.length) : L.getD (P.getD i 0) 0 < L.getD (P.getD j 0) 0 :=
  ((h.mem _).1 (getD_mem (i := i) (by omega))).2.2 _ (up_get h.up hij hj) ((h.mem _).1 (getD_mem hj)).1

/-- The row with the next place, the first place not yet left out. -/
def pushQ (L : List Int) (k : Nat) (P : List Nat) : List Nat := P.take (cutN L (L.getD k 0) P P.length) ++ [k]

theorem pushQ_mem {L : List Int} {w k : Nat} {P : List Nat} (h : IsQ L w k P) (p : Nat) : p ∈ pushQ L k P ↔ p = k ∨ (p < k ∧ k ≤ p + w ∧ ∀ q, p < q → q < k + 1 → L.getD p 0 < L.getD q 0) := by
  have hP : p ∈ P.take (cutN L (L.getD k 0) P P.length) ↔ p ∈ P ∧ L.getD p 0 < L.getD k 0 := by
    constructor
    · intro hp
      refine ⟨List.mem_of_mem_take hp, ?_⟩
      obtain ⟨i, hi, rfl⟩ := List.getElem_of_mem hp
      simp only [List.length_take] at hi
      have hil : i < P.length := by omega
      rw [List.getElem_take]
      have hg : P[i] = P.getD i 0 := by simp [List.getD_eq_getElem?_getD, hil]
      rw [hg]
      obtain ⟨m, hm⟩ : ∃ m, cutN L (L.getD k 0) P P.length = m + 1 := ⟨cutN L (L.getD k 0) P P.length - 1, by omega⟩
      have h1 := cutN_ahead L _ P _ m hm
      have h2 := cutN_le L (L.getD k 0) P P.length
      by_cases e : i = m
      · subst e; exact h1
      · have h3 := h.rise (show i < m by omega) (by omega)
        omega
    · rintro ⟨hp, hlt⟩
      obtain ⟨i, hi, rfl⟩ := List.getElem_of_mem hp
      have hg : P[i] = P.getD i 0 := by simp [List.getD_eq_getElem?_getD, hi]
      by_cases e : cutN L (L.getD k 0) P P.length ≤ i
      · have h1 := cutN_behind L _ P P.length i e hi
        rw [hg] at hlt
        omega
      · rw [List.mem_iff_getElem]
        exact ⟨i, by rw [List.length_take]; omega, by rw [List.getElem_take]⟩
  unfold pushQ
  rw [List.mem_append, hP, h.mem, List.mem_singleton]
  constructor
  · rintro (⟨⟨h1, h2, h3⟩, h4⟩ | rfl)
    · refine .inr ⟨h1, h2, fun q hq hk => ?_⟩
      by_cases e : q = k
      · subst e; exact h4
      · exact h3 q hq (by omega)
    · exact .inl rfl
  · rintro (rfl | ⟨h1, h2, h3⟩)
    · exact .inr rfl
    · exact .inl ⟨⟨h1, h2, fun q hq hk => h3 q hq (by omega)⟩, h3 k h1 (by omega)⟩

theorem pushQ_up {L : List Int} {w k : Nat} {P : List Nat} (h : IsQ L w k P) : (pushQ L k P).Pairwise (· < ·) := by
  unfold pushQ
  rw [List.pairwise_append]
  refine ⟨h.up.take, List.pairwise_singleton _ _, fun a ha b hb => ?_⟩
  obtain rfl := List.mem_singleton.1 hb
  exact ((h.mem a).1 (List.mem_of_mem_take ha)).1

theorem pushQ_len {L : List Int} {k : Nat} {P : List Nat} : (pushQ L k P).length = cutN L (L.getD k 0) P P.length + 1 := by
  have h2 := cutN_le L (L.getD k 0) P P.length
  simp only [pushQ, List.length_append, List.length_take, List.length_singleton]
  omega
theorem pushQ_ne {L : List Int} {k : Nat} {P : List Nat} : pushQ L k P ≠ [] := by simp [pushQ]

/-- The first place is not too far back: all stay. -/
theorem IsQ.stay {L : List Int} {w k : Nat} {P : List Nat} (hw : 0 < w) (h : IsQ L w k P) (hd : k < (pushQ L k P).getD 0 0 + w) : IsQ L w (k + 1) (pushQ L k P) := by
  refine ⟨pushQ_up h, fun p => ?_⟩
  rw [pushQ_mem h]
  constructor
  · rintro (rfl | ⟨h1, h2, h3⟩)
    · exact ⟨by omega, by omega, fun q h4 h5 => by omega⟩
    · have hm : p ∈ pushQ L k P := (pushQ_mem h p).2 (.inr ⟨h1, h2, h3⟩)
      obtain ⟨i, hi, hpi⟩ := List.getElem_of_mem hm
      have hg : (pushQ L k P).getD i 0 = p := by simp [List.getD_eq_getElem?_getD, hi, hpi]
      refine ⟨by omega, ?_, h3⟩
      by_cases e : i = 0
      · subst e; omega
      · have := up_get (pushQ_up h) (show 0 < i by omega) hi
        omega
  · rintro ⟨h1, h2, h3⟩
    by_cases e : p = k
    · exact .inl e
    · exact .inr ⟨by omega, by omega, h3⟩

/-- The first place is too far back: it alone goes. -/
theorem IsQ.leave {L : List Int} {w k : Nat} {P : List Nat} (hw : 0 < w) (h : IsQ L w k P) (hd : (pushQ L k P).getD 0 0 + w ≤ k) : IsQ L w (k + 1) ((pushQ L k P).drop 1) ∧ 2 ≤ (pushQ L k P).length := by
  have hup := pushQ_up h
  have hm := pushQ_mem h
  revert hd hup hm
  generalize pushQ L k P = R
  intro hd hup hm
  cases R with
  | nil => exact absurd ((hm k).2 (.inl rfl)) (by simp)
  | cons a R =>
    simp only [List.getD_cons_zero] at hd
    rw [List.pairwise_cons] at hup
    have hk : k ∈ a :: R := (hm k).2 (.inl rfl)
    have ha := (hm a).1 (List.mem_cons_self ..)
    have hkR : k ∈ R := by
      rcases List.mem_cons.1 hk with e | e
      · subst e; omega
      · exact e
    refine ⟨⟨by simpa using hup.2, fun p => ?_⟩, by have := List.length_pos_of_mem hkR; simp only [List.length_cons]; omega⟩
    simp only [List.drop_succ_cons, List.drop_zero]
    constructor
    · intro hp
      have hap := hup.1 p hp
      rcases (hm p).1 (List.mem_cons_of_mem _ hp) with rfl | ⟨h1, h2, h3⟩
      · exact ⟨by omega, by omega, fun q h4 h5 => by omega⟩
      · refine ⟨by omega, ?_, h3⟩
        rcases ha with rfl | ⟨h4, h5, _⟩ <;> omega
    · rintro ⟨h1, h2, h3⟩
      have hp : p ∈ a :: R := (hm p).2 (by
        by_cases e : p = k
        · exact .inl e
        · exact .inr ⟨by omega, by omega, h3⟩)
      rcases List.mem_cons.1 hp with e | e
      · subst e; omega
      · exact e

/-- The first place is that of the least number of the window. -/
theorem IsQ.first {L : List Int} {w k : Nat} {P : List Nat} (hw : 0 < w) (hk : w ≤ k) (h : IsQ L w k P) : 0 < P.length ∧ P.getD 0 0 = leastTo L (k - w) w := by
  have hl := leastTo_is L (k - w) w hw
  have hx : leastTo L (k - w) w ∈ P := (h.mem _).2 ⟨by have := hl.hi; omega, by have := hl.lo; omega, fun q h1 h2 => hl.last q h1 (by omega)⟩
  have h0 := List.length_pos_of_mem hx
  refine ⟨h0, ?_⟩
  have hh := (h.mem _).1 (getD_mem (i := 0) h0)
  obtain ⟨i, hi, hpi⟩ := List.getElem_of_mem hx
  have hg : P.getD i 0 = leastTo L (k - w) w := by simp [List.getD_eq_getElem?_getD, hi, hpi]
  by_cases e : i = 0
  · subst e; exact hg
  · have h1 := h.rise (show 0 < i by omega) hi
    have h2 := hl.least (P.getD 0 0) (by omega) (by omega)
    rw [hg] at h1
    omega

end Go.Proofs.Ytclblnkeakkdeaa
