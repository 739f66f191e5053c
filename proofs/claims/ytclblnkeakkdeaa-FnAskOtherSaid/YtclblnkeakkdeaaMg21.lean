/-
  Plain mathematics of marks that grow with a text: each fresh mark is put behind the last unless it is that one. No conditions.
  The contracts of the program's functions isSize, SureLength and MarksOf. Condition: texts have at most 2^22 bytes.
  The contract of the program's function TwinsOf. Condition: rows have at most 2^20 marks.
-/
import Derived.Test.YtclblnkeakkdeaaMg4
import Derived.Test.YtclblnkeakkdeaaMg20
import Derived.Test.YtclblnkeakkdeaaMg18
namespace Go.Proofs.Ytclblnkeakkdeaa

/-- Places behind others: each one that is not the last. -/
def putNew (old : List Nat) : List Nat → List Nat
  | [] => old
  | x :: xs => putNew (if old = [] ∨ old.getLastD 0 ≠ x then old ++ [x] else old) xs

theorem putNew_snoc (old xs : List Nat) (x : Nat) : putNew old (xs ++ [x]) = if putNew old xs = [] ∨ (putNew old xs).getLastD 0 ≠ x then putNew old xs ++ [x] else putNew old xs := by
  induction xs generalizing old with
  | nil => rfl
  | cons y ys ih => exact ih _

theorem putNew_chN (B C : List Int) (w f n : Nat) (hw : 0 < w) (he : ∀ i, i < n → leastTo B (f + i) w = f + leastTo C i w) :
    putNew (chN B w f) ((chN C w n).map (f + ·)) = chN B w (f + n) := by
  induction n with
  | zero => simp [chN, putNew]
  | succ n ih =>
    have hn := he n (by omega)
    have ih' := ih (fun i hi => he i (by omega))
    rw [show f + (n + 1) = f + n + 1 from rfl]
    by_cases hc : (chN C w n).getLast? = some (leastTo C n w)
    · rw [chN_same hc, ih']
      cases n with
      | zero => simp [chN] at hc
      | succ m =>
        rw [chN_last] at hc
        have hm := he m (by omega)
        injection hc with hc
        have hb : (chN B w (f + (m + 1))).getLast? = some (leastTo B (f + (m + 1)) w) := by
          rw [show f + (m + 1) = f + m + 1 from rfl, chN_last, hm, show f + m + 1 = f + (m + 1) from rfl, hn, hc]
        exact (chN_same hb).symm
    · rw [chN_new hc, List.map_append, List.map_singleton, putNew_snoc, ih', ← hn]
      by_cases hb : (chN B w (f + n)).getLast? = some (leastTo B (f + n) w)
      · rw [chN_same hb, if_neg]
        rintro (h | h)
        · exact ne_nil_of hb h
        · rw [getLastD_of hb] at h; exact h rfl
      · rw [chN_new hb, if_pos]
        by_cases h0 : f + n = 0
        · left; rw [h0]; rfl
        · right
          obtain ⟨m, hm⟩ : ∃ m, f + n = m + 1 := ⟨f + n - 1, by omega⟩
          rw [hm] at hb ⊢
          rw [getLastD_of (chN_last B w m)]
          rw [chN_last] at hb
          have := leastTo_mono B m w hw
          have hne : leastTo B m w ≠ leastTo B (m + 1) w := fun e => hb (by rw [e])
          omega

theorem marksAt_afterQ (s t : List UInt8) (k w f : Nat) (hk : 0 < k) (hw : 0 < w) (hf : f = s.length + 1 - (k + w - 1)) :
    putNew (marksAt s k w) ((marksAt ((s ++ t).drop f) k w).map (f + ·)) = marksAt (s ++ t) k w ∧ ∃ r, marksAt (s ++ t) k w = marksAt s k w ++ r := by
  have la := printsN_len s k hk
  have lb := printsN_len (s ++ t) k hk
  have lc := printsN_len ((s ++ t).drop f) k hk
  rw [List.length_append] at lb
  rw [List.length_drop, List.length_append] at lc
  have fa : (printsL s (k : Int)).length + 1 - w = f := by omega
  obtain ⟨n, hn⟩ : ∃ n, (printsL (s ++ t) (k : Int)).length + 1 - w = f + n := ⟨(printsL (s ++ t) (k : Int)).length + 1 - w - f, by omega⟩
  have fc : (printsL ((s ++ t).drop f) (k : Int)).length + 1 - w = n := by omega
  have e1 : marksAt s k w = chN (printsL (s ++ t) k) w f := by
    unfold marksAt
    rw [chosenN_ok hw, fa]
    refine (chN_same_rows _ _ w f fun i hi => ?_).symm
    have := leastTo_shift (L := printsL s k) (M := printsL (s ++ t) k) (f := i) (g := i) hw (fun d hd => by
      rw [printsN_get _ _ _ hk (by rw [List.length_append]; omega), printsN_get _ _ _ hk (by omega), pieceL_append _ _ _ _ (by omega)])
    have := (leastTo_is (printsL s k) i w hw).lo
    omega
  have e2 : marksAt (s ++ t) k w = chN (printsL (s ++ t) k) w (f + n) := by
    unfold marksAt
    rw [chosenN_ok hw, hn]
  have e3 : marksAt ((s ++ t).drop f) k w = chN (printsL ((s ++ t).drop f) k) w n := by
    unfold marksAt
    rw [chosenN_ok hw, fc]
  rw [e1, e2, e3]
  refine ⟨putNew_chN _ _ w f n hw fun i hi => ?_, chN_prefix _ w f n⟩
  have h := leastTo_shift (L := printsL ((s ++ t).drop f) k) (M := printsL (s ++ t) k) (f := i) (g := f + i) hw (fun d hd => by
    have := @List.length_append _ s t
    rw [printsN_get _ _ _ hk (by omega), printsN_get _ _ _ hk (by rw [List.length_drop]; omega), pieceL_drop, Nat.add_assoc])
  have := (leastTo_is (printsL ((s ++ t).drop f) k) i w hw).lo
  omega

/-- One mark behind others, unless it is the last of them. -/
def stepQ (f : Int) (out : List (Int × Int)) (x : Int × Int) : List (Int × Int) := if out = [] ∨ (out.getLastD (0, 0)).2 ≠ x.2 + f then out ++ [(x.1, x.2 + f)] else out

theorem putNew_pairs (g h : Nat → Int) (f : Nat) (old xs : List Nat) (he : ∀ x ∈ xs, h x = g (f + x)) :
    (xs.map fun x => (h x, (x : Int))).foldl (stepQ f) (old.map fun x => (g x, (x : Int))) = (putNew old (xs.map (f + ·))).map fun x => (g x, (x : Int)) := by
  induction xs generalizing old with
  | nil => rfl
  | cons x xs ih =>
    have hx := he x (by simp)
    have e : stepQ f (old.map fun x => (g x, (x : Int))) (h x, (x : Int)) = (if old = [] ∨ old.getLastD 0 ≠ f + x then old ++ [f + x] else old).map fun x => (g x, (x : Int)) := by
      unfold stepQ
      by_cases h0 : old = []
      · subst h0; simp [hx]; omega
      · have hl : ((old.map fun x => (g x, (x : Int))).getLastD (0, 0)).2 = ((old.getLastD 0 : Nat) : Int) := by
          rw [List.getLastD_eq_getLast?, List.getLastD_eq_getLast?, List.getLast?_map, List.getLast?_eq_some_getLast h0]
          rfl
        simp only [hl, List.map_eq_nil_iff, h0, false_or]
        by_cases hc : old.getLastD 0 ≠ f + x
        · rw [if_pos (by omega), if_pos hc, List.map_append, hx]
          simp; omega
        · rw [if_neg (by omega), if_neg hc]
    rw [List.map_cons, List.foldl_cons, e, List.map_cons]
    exact ih _ (fun y hy => he y (by simp [hy]))

theorem marksL_afterQ (s t : List UInt8) (k w f : Nat) (hk : 0 < k) (hw : 0 < w) (hf : f = s.length + 1 - (k + w - 1)) :
    (marksL ((s ++ t).drop f) k w).foldl (stepQ f) (marksL s k w) = marksL (s ++ t) k w ∧ ∃ r, marksL (s ++ t) k w = marksL s k w ++ r := by
  obtain ⟨h1, r, h2⟩ := marksAt_afterQ s t k w f hk hw hf
  have eold : marksL s k w = (marksAt s k w).map fun x => ((printsL (s ++ t) k).getD x 0, (x : Int)) := by
    refine List.map_congr_left fun x hx => ?_
    have := marksAt_lt s k w hk x hx
    rw [printsN_get _ _ _ hk this, printsN_get _ _ _ hk (by rw [List.length_append]; omega), pieceL_append _ _ _ _ this]
  constructor
  · rw [eold]
    unfold marksL
    rw [putNew_pairs, h1]
    intro x hx
    have := marksAt_lt _ k w hk x hx
    rw [List.length_drop] at this
    rw [printsN_get _ _ _ hk (by rw [List.length_drop]; omega), printsN_get _ _ _ hk (by omega), pieceL_drop]
  · refine ⟨r.map fun x => ((printsL (s ++ t) k).getD x 0, (x : Int)), ?_⟩
    rw [eold]
    unfold marksL
    rw [h2, List.map_append]

theorem stepQ_len (f : Int) (out : List (Int × Int)) (x : Int × Int) : (stepQ f out x).length ≤ out.length + 1 := by
  unfold stepQ; split
  · simp
  · omega
theorem foldQ_next (f : Int) (old fresh : List (Int × Int)) (i : Nat) (hi : i < fresh.length) : (fresh.take (i + 1)).foldl (stepQ f) old = stepQ f ((fresh.take i).foldl (stepQ f) old) fresh[i] := by
  rw [List.take_succ_eq_append_getElem hi, List.foldl_append]; rfl
theorem foldQ_len (f : Int) (old fresh : List (Int × Int)) (i : Nat) (hi : i ≤ fresh.length) : ((fresh.take i).foldl (stepQ f) old).length ≤ old.length + i := by
  induction i with
  | zero => simp
  | succ i ih =>
    rw [foldQ_next f old fresh i (by omega)]
    have h1 := ih (by omega)
    have h2 := stepQ_len f ((fresh.take i).foldl (stepQ f) old) fresh[i]
    omega

end Go.Proofs.Ytclblnkeakkdeaa

namespace Go.Proofs.Ytclblnkeakkdeaa
open Go.RowKit

theorem implSize_no (k : Int) (w : World) (h : k < 1 ∨ 1000000 < k) :
    Calls Try.prog 85 #[.int .i64 k] w fun e w' => e = .returned (.bool false) ∧ w = w' := by
  by_cases h1 : k < 1
  · clear h
    go_enter Try.func85, Try.ntmps85
    go_wp2
    go_ret
    exact ⟨rfl, rfl⟩
  · have h2 : 1000000 < k := by omega
    have t : decide (k ≤ 1000000) = false := decide_eq_false (by omega)
    clear h
    go_enter Try.func85, Try.ntmps85
    go_wp2
    go_ret
    exact ⟨by first | rfl | (show Ending.returned (.bool (decide (k ≤ 1000000))) = _; rw [t]), rfl⟩
theorem implSize_yes (k : Int) (w : World) (h1 : 1 ≤ k) (h2 : k ≤ 1000000) :
    Calls Try.prog 85 #[.int .i64 k] w fun e w' => e = .returned (.bool true) ∧ w = w' := by
  go_enter Try.func85, Try.ntmps85
  go_wp2
  go_ret
  exact ⟨rfl, rfl⟩

theorem implSure_no (k v : Int) (w : World) (h : k < 1 ∨ v < 1 ∨ 1000000 < k ∨ 1000000 < v) :
    Calls Try.prog 43 #[.int .i64 k, .int .i64 v] w fun e w' => e = .returned (.int .i64 0) ∧ w = w' := by
  by_cases h1 : k < 1 ∨ 1000000 < k
  · clear h
    go_enter Try.func43, Try.ntmps43
    go_wp2_with fail
    refine (implSize_no k _ h1).mono ?_
    rintro e w1 ⟨rfl, rfl⟩
    clear h1
    go_wp2
    go_ret
    exact ⟨rfl, rfl⟩
  · have h2 : v < 1 ∨ 1000000 < v := by omega
    have h3 : 1 ≤ k := by omega
    have h4 : k ≤ 1000000 := by omega
    clear h h1
    go_enter Try.func43, Try.ntmps43
    go_wp2_with fail
    refine (implSize_yes k _ h3 h4).mono ?_
    rintro e w1 ⟨rfl, rfl⟩
    go_wp2_with fail
    refine (implSize_no v _ h2).mono ?_
    rintro e w1 ⟨rfl, rfl⟩
    clear h2
    go_wp2
    go_ret
    exact ⟨rfl, rfl⟩
theorem implSure_yes (k v : Int) (w : World) (h1 : 1 ≤ k) (h2 : 1 ≤ v) (h3 : k ≤ 1000000) (h4 : v ≤ 1000000) :
    Calls Try.prog 43 #[.int .i64 k, .int .i64 v] w fun e w' => e = .returned (.int .i64 (k + v - 1)) ∧ w = w' := by
  go_enter Try.func43, Try.ntmps43
  go_wp2_with fail
  refine (implSize_yes k _ h1 h3).mono ?_
  rintro e w1 ⟨rfl, rfl⟩
  go_wp2_with fail
  refine (implSize_yes v _ h2 h4).mono ?_
  rintro e w1 ⟨rfl, rfl⟩
  go_wp2
  go_ret
  exact ⟨rfl, rfl⟩

set_option maxHeartbeats 4000000 in
theorem implMarks_any (s : ByteArray) (k v : Int) (M : List (Int × Int)) (w : World) (hM : marksL s.data.toList k v = M) (hs : s.size ≤ 4194304) (hv9 : v ≤ 9223372036854775807) :
    Calls Try.prog 48 #[.string s, .int .i64 k, .int .i64 v] w fun e w' => ∃ a n c, e = .returned (.slice a n c) ∧ One w w.heap.size w' 46 2 a n c (pairsC M) := by
  obtain ⟨P, hP⟩ : ∃ P, printsL s.data.toList k = P := ⟨_, rfl⟩
  have hPl : P.length ≤ 4194304 := by
    have h := printsN_room s.data.toList k
    rw [hP] at h
    have : s.data.toList.length = s.size := rfl
    omega
  obtain ⟨C, hC⟩ : ∃ C, chosenN P v = C := ⟨_, rfl⟩
  have hCl : C.length ≤ P.length := by rw [← hC]; exact chosenN_len P v
  have HCx := Lib.hid (show ∀ i (h : i < C.length), C[i] < P.length from fun i h => by subst hC; exact chosenN_lt P v _ (List.getElem_mem h))
  have hML : M = C.map fun x => (P.getD x 0, (x : Int)) := by rw [← hM, marksL, marksAt, hP, hC]
  have HM := Lib.hid hML
  have hMl : M.length = C.length := by rw [hML, List.length_map]
  have HMl := Lib.hid hMl
  have c1 := fun w => implPrintsOf_is s k P w hs hP
  have HCe := Lib.hid hC
  have HPl := Lib.hid hPl
  have HCl := Lib.hid hCl
  clear hM hML hMl hC hP hPl hCl
  go_enter Try.func48, Try.ntmps48
  go_wp2_with fail
  refine (c1 _).mono ?_
  rintro e w2 ⟨la, ln, lc, rfl, h2⟩
  have hln : ln = P.length := by have h := h2.own.1; simp only [intCells, List.length_map] at h; omega
  have HLN := Lib.hid hln
  have hln9 : ln ≤ 4194304 := by have := HPl.out; omega
  clear hln
  go_wp2_with fail
  refine (implChosen_any P la ln lc v w2 HLN.out hln9 hv9 (cellsAt_own h2.own)).mono ?_
  rintro e w3 ⟨ca, cn, cc, rfl, h3⟩
  rw [HCe.out] at h3
  have hcn : cn = C.length := by have h := h3.own.1; rw [natC_len] at h; omega
  have HCN := Lib.hid hcn
  have hcn9 : cn ≤ 4194304 := by have := HCl.out; have := HPl.out; omega
  have hone0 : One w w.heap.size w3 46 2 none 0 0 (pairsC (M.take 0)) := ((One.nil w 46 2).later h2.below).later h3.below
  have hl0 : w3.ownsRow w.heap.size 3 1 (.slice la ln lc) ln (intCells P) := ownsRow_below h2.own h3.below
  have hc0 : w3.ownsRow w.heap.size 3 1 (.slice ca cn cc) cn (natC C) := own_under h3.own h2.base
  clear h2 h3 hcn c1
  go_wp2
  go_loopw [8, 18] (fun o_ i_ wr => ∃ i : Nat, i ≤ cn ∧ i_ = .int .i64 i ∧ ∃ a c, o_ = .slice a i c ∧ One w w.heap.size wr 46 2 a i c (pairsC (M.take i)) ∧ wr.ownsRow w.heap.size 3 1 (.slice la ln lc) ln (intCells P) ∧ wr.ownsRow w.heap.size 3 1 (.slice ca cn cc) cn (natC C)) (fun _ i_ _ => cn - (intOf i_).toNat)
  case atStart => exact ⟨0, Nat.zero_le _, rfl, _, _, rfl, hone0, hl0, hc0⟩
  case round =>
    clear hone0 hl0 hc0
    obtain ⟨i, hi, rfl, a, c, rfl, hone, hlr, hcr⟩ := hrel
    by_cases hlt : i < cn
    · have hic : i < C.length := by have := HCN.out; omega
      have hx := HCx.out i hic
      have hcg := natC_get C i hic
      have hmi : M[i]'(by rw [HMl.out]; exact hic) = (P.getD C[i] 0, (C[i] : Int)) := by simp [HM.out]
      obtain ⟨x, hxe⟩ : ∃ x, C[i] = x := ⟨_, rfl⟩
      rw [hxe] at hx hcg hmi
      obtain ⟨p, hp⟩ : ∃ p, P.getD x 0 = p := ⟨_, rfl⟩
      rw [hp] at hmi
      have hlg := intC_get P x p hx hp
      have hxl : x < ln := by have := HLN.out; omega
      obtain ⟨lg, rfl⟩ := own_addr hlr (by omega)
      obtain ⟨cg, rfl⟩ := own_addr hcr (by omega)
      have k1 : wr.cell? ⟨cg, i, none⟩ = some (.int .i64 (x : Int)) := by rw [hcr.cellAt i (by omega)]; exact hcg
      have k2 : wr.cell? ⟨lg, x, none⟩ = some (.int .i64 p) := by rw [hlr.cellAt x (by omega)]; exact hlg
      have HS := Lib.hid (pairs_take (by rw [HMl.out]; exact hic) hmi)
      have z1 : (0 : Int) ≤ (x : Int) := by omega
      have z2 : (x : Int) < (ln : Int) := by omega
      have z3 : (i : Int) < (cn : Int) := by omega
      clear hcg hmi hlg hxe hp hx
      go_wp2_with (at_builtin; refine wpList_append_apart rfl (.tmp 22) (.tmp 29) 39 rfl Try.ulM4 Try.infoM4 rfl (by decide) hone rfl #[.int .i64 p, .int .i64 (x : Int)] rfl rfl (by simp [Value.oneCell']) (by unfold maxLen; omega) (by omega) ?_; intro a5 c5 w5 h5 g5 p5)
      go_roundw
      case rel => exact ⟨i + 1, by omega, by go_num, a5, c5, rfl, by rw [HS.out]; exact h5, ownsRow_kept_apart hlr hone.own (by decide) g5, ownsRow_kept_apart hcr hone.own (by decide) g5⟩
      case measure => simp [intOf]; omega
    · have hie : i = M.length := by have := HMl.out; have := HCN.out; omega
      have HO := Lib.hid (show One w w.heap.size wr 46 2 a i c (pairsC M) by
        have h := hone
        rw [List.take_of_length_le (by omega)] at h
        exact h)
      clear hone hlr hcr hie
      go_wp2
      go_ret
      exact ⟨_, _, _, rfl, HO.out⟩

end Go.Proofs.Ytclblnkeakkdeaa

namespace Go.Proofs.Ytclblnkeakkdeaa
open Go.RowKit

set_option maxHeartbeats 4000000 in
theorem implTwins_any (A B : List (Int × Int)) (a : Option Addr) (n c : Nat) (b : Option Addr) (m d : Nat) (w : World) (hn : n = A.length) (hm : m = B.length) (hn9 : n ≤ 1048576) (hm9 : m ≤ 1048576) (hA : CellsAt w a (pairsC A)) (hB : CellsAt w b (pairsC B)) :
    Calls Try.prog 35 #[.slice a n c, .slice b m d] w fun e w' => ∃ a' n' c', e = .returned (.slice a' n' c') ∧ One w w.heap.size w' 101 2 a' n' c' (pairsC (twinsL A B)) := by
  have HN := Lib.hid hn
  have HM := Lib.hid hm
  clear hn hm
  go_enter Try.func35, Try.ntmps35
  go_wp2
  go_loopw [5, 10] (fun o_ i_ wr => ∃ i : Nat, i ≤ n ∧ i_ = .int .i64 i ∧ ∃ a' n' c', o_ = .slice a' n' c' ∧ n' ≤ i * 1048576 ∧ One w w.heap.size wr 101 2 a' n' c' (pairsC (twinsL (A.take i) B))) (fun _ i_ _ => n - (intOf i_).toNat)
  case atStart => exact ⟨0, Nat.zero_le _, rfl, _, 0, _, rfl, by omega, One.nil _ _ _⟩
  case round =>
    obtain ⟨i, hi, rfl, a1, n1, c1, rfl, hn1, hone⟩ := hrel
    by_cases hlt : i < n
    · have hiA : i < A.length := by have := HN.out; omega
      obtain ⟨ab, ao, rfl, hab, hac⟩ := hA.pair (fun e => by rw [e] at hiA; simp at hiA)
      have hai := hac i hiA
      obtain ⟨p, hp⟩ : ∃ p, A[i].1 = p := ⟨_, rfl⟩
      obtain ⟨x, hx⟩ : ∃ x, A[i].2 = x := ⟨_, rfl⟩
      rw [hp, hx] at hai
      have HA := Lib.hid (show ∀ w', Below w.heap.size w w' → w'.cell? ⟨ab, ao + i * 2, none⟩ = some (.int .i64 p) ∧ w'.cell? ⟨ab, ao + i * 2 + 1, none⟩ = some (.int .i64 x) from fun w' h => ⟨(h.cell (p := ⟨ab, ao + i * 2, none⟩) hab).trans hai.1, (h.cell (p := ⟨ab, ao + i * 2 + 1, none⟩) hab).trans hai.2⟩)
      have HE := Lib.hid (show A[i] = (p, x) by rw [← hp, ← hx])
      have H0 := Lib.hid (show One w w.heap.size wr 101 2 a1 n1 c1 (pairsC (twinsL (A.take i) B ++ rowT (p, x) (B.take 0))) by simpa [rowT] using hone)
      clear hac hai hp hx hone
      go_wp2
      go_loopw [5, 15] (fun o_ k_ wr => ∃ k : Nat, k ≤ m ∧ k_ = .int .i64 k ∧ ∃ a' n' c', o_ = .slice a' n' c' ∧ n' ≤ i * 1048576 + k ∧ One w w.heap.size wr 101 2 a' n' c' (pairsC (twinsL (A.take i) B ++ rowT (p, x) (B.take k)))) (fun _ k_ _ => m - (intOf k_).toNat)
      case atStart => exact ⟨0, Nat.zero_le _, rfl, _, _, _, rfl, Nat.le_trans hn1 (Nat.le_add_right _ _), H0.out⟩
      case round =>
        clear H0
        obtain ⟨k, hk, rfl, a2, n2, c2, rfl, hn2, hone⟩ := hrel
        by_cases hlk : k < m
        · have hkB : k < B.length := by have := HM.out; omega
          obtain ⟨bb, bo, rfl, hbb, hbc⟩ := hB.pair (fun e => by rw [e] at hkB; simp at hkB)
          have hbk := hbc k hkB
          obtain ⟨q, hq⟩ : ∃ q, B[k].1 = q := ⟨_, rfl⟩
          obtain ⟨y, hy⟩ : ∃ y, B[k].2 = y := ⟨_, rfl⟩
          have hyes := rowT_yes (p, x) B k hkB
          have hno := rowT_no (p, x) B k hkB
          rw [hq, hy] at hbk
          rw [hq] at hyes hno
          rw [hy] at hyes
          have HB := Lib.hid (show ∀ w', Below w.heap.size w w' → w'.cell? ⟨bb, bo + k * 2, none⟩ = some (.int .i64 q) ∧ w'.cell? ⟨bb, bo + k * 2 + 1, none⟩ = some (.int .i64 y) from fun w' h => ⟨(h.cell (p := ⟨bb, bo + k * 2, none⟩) hbb).trans hbk.1, (h.cell (p := ⟨bb, bo + k * 2 + 1, none⟩) hbb).trans hbk.2⟩)
          obtain ⟨r1, r2⟩ := HA.out _ hone.below
          obtain ⟨r3, r4⟩ := HB.out _ hone.below
          clear hbc hbk hq hy
          by_cases hpq : p = q
          · have t1 : (p == q) = true := by rw [hpq]; exact beq_self_eq_true _
            have HS := Lib.hid (show pairsC (twinsL (A.take i) B ++ rowT (p, x) (B.take (k + 1))) = pairsC (twinsL (A.take i) B ++ rowT (p, x) (B.take k)) ++ [.int .i64 x, .int .i64 y] by rw [hyes hpq, ← List.append_assoc, pairsC_append]; rfl)
            clear hpq hyes hno
            go_wp2
            go_quiet (fail)
            go_wp2
            go_region_held3 (fun w' => w'.cell? ⟨ab, ao + i * 2 + 1, none⟩ = some (.int .i64 x) ∧ w'.cell? ⟨bb, bo + k * 2 + 1, none⟩ = some (.int .i64 y)) (first | go_keep | exact ⟨(HA.out _ h3.below).2, (HB.out _ h3.below).2⟩)
              ((refine step_append_to w w.heap.size a2 n2 c2 (pairsC (twinsL (A.take i) B ++ rowT (p, x) (B.take k))) (some ⟨wr.heap.size, 0, none⟩) 1 1 [.int .i64 x, .int .i64 y] (n2 + 1) (pairsC (twinsL (A.take i) B ++ rowT (p, x) (B.take (k + 1)))) (by rfl) (by exact HS.out.symm) (by rfl) (.tmp 29) (.tmp 41) 47 (by rfl) (by rfl) (by rfl) Try.ulT4 Try.infoT4 rfl (by decide) (by rfl) (by simp [Value.oneCell']) (by unfold maxLen; omega) (by omega) (by repeat (first | exact hone | refine One.drew ?_ | exact One.drewN hone _ | refine One.alloc ?_ _)) (by repeat (first | exact cellsAt_lit _ _ _ _ rfl | refine CellsAt.drewW ?_)) ?_; intro a3 c3 w3 h3 g3))
            go_wp2
            go_roundw
            case rel => exact ⟨k + 1, by omega, by go_num, a3, n2 + 1, c3, rfl, by omega, h3⟩
            case measure => simp [intOf]; omega
          · have t1 : (p == q) = false := by simpa using hpq
            have HS := Lib.hid (show pairsC (twinsL (A.take i) B ++ rowT (p, x) (B.take (k + 1))) = pairsC (twinsL (A.take i) B ++ rowT (p, x) (B.take k)) by rw [hno hpq])
            clear hpq hyes hno
            go_wp2
            go_quiet (fail)
            go_wp2
            go_roundw
            case rel => exact ⟨k + 1, by omega, by go_num, a2, n2, c2, rfl, by omega, by rw [HS.out]; exact hone.drewN _⟩
            case measure => simp [intOf]; omega
        · have HO := Lib.hid (show One w w.heap.size wr 101 2 a2 n2 c2 (pairsC (twinsL (A.take (i + 1)) B)) by
            rw [twinsL_next A B i hiA, HE.out]
            rw [show B.take k = B from List.take_of_length_le (by have := HM.out; omega)] at hone
            exact hone)
          clear hone
          go_wp2
          go_roundw
          case rel => exact ⟨i + 1, by omega, by go_num, a2, n2, c2, rfl, by omega, HO.out⟩
          case measure => simp [intOf]; omega
    · have HO := Lib.hid (show One w w.heap.size wr 101 2 a1 n1 c1 (pairsC (twinsL A B)) by
        rw [show A.take i = A from List.take_of_length_le (by have := HN.out; omega)] at hone
        exact hone)
      clear hone
      go_wp2
      go_ret
      exact ⟨_, _, _, rfl, HO.out⟩

end Go.Proofs.Ytclblnkeakkdeaa
