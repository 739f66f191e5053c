/-
  The contract of the model's function MachineOf. Condition: texts have at most 2^20 bytes.
-/
import Derived.Test.YtehppjilnacjlaaMachE
import Derived.Test.YtehppjilnacjlaaMathLoop
import Derived.Test.YtehppjilnacjlaaMathSize
import Derived.Deep.RegionHeld3
namespace Go.Proofs.Ytehppjilnacjlaa
open Go.RowKit

theorem Try.ulS9 : Try.prog.underlying 24 = some (.slice 29) := by kernel_rfl
theorem Try.infoS9 : (Try.prog.info? 29).map (fun i => (i.zero, i.size, i.bytes)) = some (some (.agg #[.int .i64 0, .int .i64 0, .slice none 0 0]), 3, 40) := by kernel_rfl

/-- The numbers of the states, and of a new one. -/
def dOf (L : List Sta) (i : Nat) : Int × Int := (((tW L i).length : Int), tK L i)
def dM (L : List Sta) (x : Int × Int) (i : Nat) : Int × Int := if i < L.length then dOf L i else x
def fM (L : List Sta) (G : Nat → List (Int × Int)) (i : Nat) : List (Int × Int) := if i < L.length then G i else []
theorem dM_lt {L : List Sta} {x : Int × Int} {i : Nat} (h : i < L.length) : dM L x i = dOf L i := if_pos h
theorem dM_at (L : List Sta) (x : Int × Int) : dM L x L.length = x := if_neg (Nat.lt_irrefl _)
theorem fM_lt {L : List Sta} {G : Nat → List (Int × Int)} {i : Nat} (h : i < L.length) : fM L G i = G i := if_pos h
theorem fM_at (L : List Sta) (G : Nat → List (Int × Int)) : fM L G L.length = [] := if_neg (Nat.lt_irrefl _)

theorem next_len (u : Wd) (L : List Sta) (a : UInt8) (k : Int) : (nextL u L a k).length = L.length + 1 := by simp [nextL]
theorem next_rows {u : Wd} {L : List Sta} {a : UInt8} {k : Int} {i : Nat} (hi : i < L.length + 1) : dOf (nextL u L a k) i = dM L (((u.length : Int) + 1), k) i ∧ tE (nextL u L a k) i = fM L (fun e => (up1 u a L.length (stA L e)).2.2) i ∧ tW (nextL u L a k) L.length = u ++ [a] := by
  have hl : ∀ i, i < L.length → stA (nextL u L a k) i = up1 u a L.length (stA L i) := fun i hi => by
    rw [nextL, stA_left (by rw [List.length_map]; exact hi), map_st hi]
  have hn : stA (nextL u L a k) L.length = (u ++ [a], k, []) := by
    have := stA_right (L := L.map (up1 u a L.length)) (M := [(u ++ [a], k, [])]) (i := 0)
    rw [List.length_map, Nat.add_zero] at this
    rw [nextL, this]; rfl
  refine ⟨?_, ?_, by rw [tW, hn]⟩
  · by_cases h : i < L.length
    · rw [dM_lt h, dOf, dOf, tW, tK, hl i h, (up1_w _ _ _ _).1, (up1_w _ _ _ _).2]; rfl
    · obtain rfl : i = L.length := by omega
      rw [dM_at, dOf, tW, tK, hn]
      simp
  · by_cases h : i < L.length
    · rw [fM_lt h, tE, hl i h]
    · obtain rfl : i = L.length := by omega
      rw [fM_at, tE, hn]

theorem cellsAt_lit9 (w : World) (e : TypeId) (cs : Array Value) (g : Nat) (hg : g = w.heap.size) : CellsAt (w.alloc (.cells cs e)) (some ⟨g, 0, none⟩) cs.toList := by
  subst hg
  refine ⟨fun _ => ⟨w.heap.size, 0, rfl, by simp, fun j v hj => ?_⟩⟩
  rw [cell_of_row _ w.heap.size (0 + j) cs e (0, 0) (heap_alloc_new w _)]
  simpa using hj
theorem setE_most (es : List (Int × Int)) (a t : Int) : (setE es a t).length ≤ es.length + 1 := by
  induction es with
  | nil => simp [setE]
  | cons e es ih =>
    unfold setE
    split
    · simp; omega
    · split
      · simp
      · simp
theorem up1_most {u : Wd} {L : List Sta} (h : MInv u L) {a : UInt8} {i : Nat} (hi : i < L.length) : (up1 u a L.length (stA L i)).2.2.length ≤ 257 := by
  have h1 : (stA L i).2.2.length ≤ 256 := edges_few h hi
  unfold up1
  split
  · have := setE_most (stA L i).2.2 (a.toNat : Int) (L.length : Int)
    simp only
    omega
  · omega
def dS (L : List Sta) (x y : Int × Int) (i : Nat) : Int × Int := if i < L.length then dOf L i else if i = L.length then x else y
def fS (L : List Sta) (G : Nat → List (Int × Int)) (F : List (Int × Int)) (i : Nat) : List (Int × Int) := if i < L.length then G i else if i = L.length then [] else F
theorem dS_lt {L : List Sta} {x y : Int × Int} {i : Nat} (h : i < L.length) : dS L x y i = dOf L i := if_pos h
theorem fS_lt {L : List Sta} {G : Nat → List (Int × Int)} {F : List (Int × Int)} {i : Nat} (h : i < L.length) : fS L G F i = G i := if_pos h
theorem split_len (u : Wd) (L : List Sta) (a : UInt8) (p q : Nat) : (splitL u L a p q).length = L.length + 2 := by simp [splitL]
theorem split_rows {u : Wd} {L : List Sta} {a : UInt8} {p q : Nat} {i : Nat} (hi : i < L.length + 2) :
    dOf (splitL u L a p q) i = (if i < L.length then (((tW L i).length : Int), if i = q then ((L.length + 1 : Nat) : Int) else tK L i) else if i = L.length then ((u.length : Int) + 1, ((L.length + 1 : Nat) : Int)) else (((tW L p).length : Int) + 1, tK L q)) ∧
    tE (splitL u L a p q) i = fS L (fun e => (up2 u a L.length q (L.map (up1 u a L.length)) e).2.2) (tE (L.map (up1 u a L.length)) q) i ∧ tW (splitL u L a p q) L.length = u ++ [a] := by
  have hl : ∀ i, i < L.length → stA (splitL u L a p q) i = up2 u a L.length q (L.map (up1 u a L.length)) i := fun i hi => by
    rw [splitL, stA_left (by simpa using hi), range_st hi]
  have hn : ∀ k, stA (splitL u L a p q) (L.length + k) = stA [(u ++ [a], ((L.length + 1 : Nat) : Int), []), (tW L p ++ [a], tK L q, tE (L.map (up1 u a L.length)) q)] k := fun k => by
    have := stA_right (L := (List.range L.length).map (up2 u a L.length q (L.map (up1 u a L.length)))) (M := [(u ++ [a], ((L.length + 1 : Nat) : Int), []), (tW L p ++ [a], tK L q, tE (L.map (up1 u a L.length)) q)]) (i := k)
    rw [List.length_map, List.length_range] at this
    rw [splitL, this]
  have hn0 := hn 0
  rw [Nat.add_zero] at hn0
  refine ⟨?_, ?_, by rw [tW, hn0]; rfl⟩
  · by_cases h : i < L.length
    · rw [if_pos h, dOf, tW, tK, hl i h]
      have e1 : (up2 u a L.length q (L.map (up1 u a L.length)) i).1 = tW L i := by
        show tW (L.map (up1 u a L.length)) i = _
        rw [tW, map_st h, (up1_w _ _ _ _).1]; rfl
      rw [e1]
      by_cases hq : i = q
      · rw [if_pos hq, (up2_link _ _ _ _ _ _).1 hq]
      · rw [if_neg hq, (up2_link _ _ _ _ _ _).2 hq, tK, map_st h, (up1_w _ _ _ _).2]; rfl
    · rw [if_neg h]
      by_cases h2 : i = L.length
      · subst h2
        rw [if_pos rfl, dOf, tW, tK, hn0]
        simp [stA]
      · obtain rfl : i = L.length + 1 := by omega
        rw [if_neg h2, dOf, tW, tK, hn 1]
        simp [stA]
  · by_cases h : i < L.length
    · rw [fS_lt h, tE, hl i h]
    · by_cases h2 : i = L.length
      · subst h2
        rw [fS, if_neg h, if_pos rfl, tE, hn0]; rfl
      · obtain rfl : i = L.length + 1 := by omega
        rw [fS, if_neg h, if_neg h2, tE, hn 1]; rfl

set_option maxRecDepth 4000 in
set_option maxHeartbeats 64000000 in
theorem specMach_any (s : ByteArray) (w : World) (hs : s.size ≤ 1048576) :
    Calls Try.prog 17 #[.string s] w fun e w' => ∃ (g c : Nat) (A : Nat → Sm), e = .returned (.slice (some ⟨g, 0, none⟩) (machL s.data.toList).length c) ∧ StRows w w.heap.size w' (some ⟨g, 0, none⟩) (machL s.data.toList).length c (dOf (machL s.data.toList)) A (tE (machL s.data.toList)) := by
  have hsz : s.data.toList.length = s.size := rfl
  obtain ⟨t, ht⟩ : ∃ t, s.data.toList = t := ⟨_, rfl⟩
  have HT := Lib.hid ht
  rw [ht] at hsz ⊢
  have HSZ := Lib.hid hsz
  have HS0 := Lib.hid (show StRows w w.heap.size (w.alloc (.cells #[.int .i64 0, .int .i64 (-1), .slice none 0 0] 29)) (some ⟨w.heap.size, 0, none⟩) 1 1 (dOf (machK t 0)) (fun _ => (none, 0, 0)) (tE (machK t 0)) from
    ⟨⟨World.ownsRow_lit w #[.int .i64 0, .int .i64 (-1), .slice none 0 0] 1 (Nat.le_refl _) (by decide) rfl, heap_le_alloc _ _, (Below.refl _ _).alloc (Nat.le_refl _) _⟩,
     fun d hd => by
      obtain rfl : d = 0 := by omega
      exact World.ownsRow_nil _ _ _ _,
     fun d e hd he hde => by omega, fun d hd b hb => by simp [smV, Value.ownBlock] at hb⟩)
  clear ht hsz
  go_enter Try.func17, Try.ntmps17
  go_wp2
  go_loopw [3, 4, 5] (fun out_ last_ k_ wr => ∃ (k n last g c : Nat) (A : Nat → Sm), k ≤ s.size ∧ k_ = .int .i64 (k : Int) ∧ last_ = .int .i64 (last : Int) ∧ out_ = .slice (some ⟨g, 0, none⟩) n c ∧ Hid (n = (machK t k).length) ∧ Hid (last < n ∧ tW (machK t k) last = t.take k) ∧ Hid (StRows w w.heap.size wr (some ⟨g, 0, none⟩) n c (dOf (machK t k)) A (tE (machK t k)))) (fun _ _ k_ _ => s.size - (intOf k_).toNat)
  case atStart => exact ⟨0, 1, 0, w.heap.size, 1, fun _ => (none, 0, 0), Nat.zero_le _, rfl, rfl, rfl, Lib.hid rfl, Lib.hid ⟨by omega, rfl⟩, HS0⟩
  case round =>
    clear HS0
    obtain ⟨k, n, last, g, c, A, hk, rfl, rfl, rfl, HN, HLA, HS⟩ := hrel
    by_cases hlt : k < s.size
    · obtain ⟨L, hL⟩ : ∃ L, machK t k = L := ⟨_, rfl⟩
      obtain ⟨u, hu⟩ : ∃ u, t.take k = u := ⟨_, rfl⟩
      obtain ⟨a, ha⟩ : ∃ a, s[k] = a := ⟨_, rfl⟩
      have hkt : k < t.length := by have := HSZ.out; omega
      have hta : t.getD k 0 = a := by
        rw [List.getD_eq_getElem?_getD, List.getElem?_eq_getElem hkt, ← ha]
        have h1 := HT.out
        subst h1
        rfl
      have hM : MInv u L := by rw [← hL, ← hu]; exact machK_inv t k (by omega)
      have hul : u.length = k := by rw [← hu, List.length_take]; omega
      have hln : L.length ≤ 2097153 := by
        have h1 := machK_len t k (by omega)
        rw [hL] at h1
        by_cases h2 : k ≤ 2
        · have := h1.1 h2; omega
        · have := h1.2 (by omega); have := HSZ.out; omega
      have HNEXT := Lib.hid (show machK t (k + 1) = stepM u L a by rw [machK, hL, hu, hta])
      have HUN := Lib.hid (show t.take (k + 1) = u ++ [a] by
        rw [List.take_succ_eq_append_getElem hkt, hu, ← hta, List.getD_eq_getElem?_getD, List.getElem?_eq_getElem hkt]; rfl)
      rw [hL] at HN HLA HS
      rw [hu] at HLA
      have hnl := HN.out
      have hla := HLA.out
      have HM := Lib.hid hM
      have HUL := Lib.hid hul
      have hn9 : n ≤ 2097153 := by omega
      have e1 := (HS.out.cells hla.1).1
      have hwl : (dOf L last).1 = (k : Int) := by rw [dOf, hla.2]; simp only; omega
      rw [hwl] at e1
      have z1 : (k : Int) < (s.size : Int) := by omega
      have z0 : (0 : Int) ≤ (k : Int) := by omega
      have z2 : (last : Int) < (n : Int) := by have := hla.1; omega
      have z3 : (0 : Int) ≤ (last : Int) := by omega
      have v1 : IntKind.i64.wrap ((k : Int) + 1) = (k : Int) + 1 := IntWalk.i64_in _ (by omega)
      have hb : (a.toNat : Int) ≤ 255 := by have := a.toNat_lt; omega
      have HNL := Lib.hid hnl
      clear hL hu hta hM hul hla hwl hkt hln hnl
      go_wp2_with (at_builtin; refine wpList_append_apart rfl (.tmp 25) (.tmp 33) 24 rfl Try.ulS9 Try.infoS9 rfl (by decide) HS.out.outer rfl #[.int .i64 ((k : Int) + 1), .int .i64 0, .slice none 0 0] rfl rfl (by simp [Value.oneCell']) (by unfold maxLen; omega) (by omega) ?_; intro a6 c6 w6 o6 g6 s6; obtain ⟨gg, rfl⟩ := o6.addr (Nat.succ_pos _))
      have hnl := HNL.out
      obtain ⟨A6, hA1, hA2⟩ : ∃ A6 : Nat → Sm, A6 n = (none, 0, 0) ∧ ∀ e, e < n → A6 e = A e := ⟨fun e => if e < n then A e else (none, 0, 0), by simp, fun e he => by simp [he]⟩
      have HS6 := Lib.hid (show StRows w w.heap.size w6 (some ⟨gg, 0, none⟩) (n + 1) c6 (dM L ((k : Int) + 1, 0)) A6 (fM L (edH u L a (k + 1))) from by
        refine HS.out.more (D' := dM L ((k : Int) + 1, 0)) (A' := A6) (F' := fM L (edH u L a (k + 1))) (a' := none) (n' := 0) (c' := 0) ?_ hA1 (fun e he => ⟨dM_lt (by omega), hA2 e he, by rw [fM_lt (by omega), edH_start (by have := HUL.out; omega)]⟩) ?_ g6 s6
        · rw [hnl, fM_at]; exact One.nil wr 31 2
        · have h := o6
          rw [hnl] at h ⊢
          rw [← hnl] at h ⊢
          rw [show dM L ((k : Int) + 1, 0) n = ((k : Int) + 1, 0) by rw [hnl]; exact dM_at _ _, hA1]
          exact h)
      clear o6 g6 s6 hA1 hA2 e1 HS
      have HNO0 := Lib.hid (show ∀ e, e < L.length → tW L e <:+ u → k + 1 ≤ (tW L e).length → ¬ pcIn u (tW L e ++ [a]) from fun e _ h1 h2 => by have := h1.length_le; have := HUL.out; omega)
      have HP0 := Lib.hid (show ((last : Int) = -1 ∧ k + 1 = 0) ∨ ∃ i : Nat, i < n ∧ (last : Int) = i ∧ tW L i <:+ u ∧ k + 1 = (tW L i).length + 1 from .inr ⟨last, HLA.out.1, rfl, by rw [HLA.out.2]; exact List.suffix_refl _, by rw [HLA.out.2, HUL.out]⟩)
      clear hnl ha
      go_loopw [8] (fun p_ wr => ∃ (h : Nat) (p : Int) (A : Nat → Sm), p_ = .int .i64 p ∧ Hid ((p = -1 ∧ h = 0) ∨ ∃ i : Nat, i < n ∧ p = i ∧ tW L i <:+ u ∧ h = (tW L i).length + 1) ∧ Hid (∀ e, e < L.length → tW L e <:+ u → h ≤ (tW L e).length → ¬ pcIn u (tW L e ++ [a])) ∧ Hid (StRows w w.heap.size wr (some ⟨gg, 0, none⟩) (n + 1) c6 (dM L ((k : Int) + 1, 0)) A (fM L (edH u L a h)))) (fun p_ _ => if intOf p_ < 0 then 0 else (tW L (intOf p_).toNat).length + 1)
      case atStart => exact ⟨k + 1, (last : Int), A6, rfl, HP0, HNO0, HS6⟩
      case round =>
        clear HS6 HNO0 HP0
        obtain ⟨h, p, A, rfl, HP, HNO, HS⟩ := hrel
        rcases HP.out with ⟨rfl, rfl⟩ | ⟨i, hi, rfl, hpi, rfl⟩
        · have hst : machK t (k + 1) = nextL u L a 0 := HNEXT.out.trans (stepM_none (fun e he h1 => HNO.out e he h1 (Nat.zero_le _)))
          have HR := Lib.hid (show StRows w w.heap.size wr (some ⟨gg, 0, none⟩) (n + 1) c6 (dOf (machK t (k + 1))) A (tE (machK t (k + 1))) by
            rw [hst]
            refine HS.out.congr (fun i hi => ?_) (fun i hi => ?_)
            · rw [(next_rows (by have := HNL.out; omega)).1, HUL.out]
            · rw [(next_rows (by have := HNL.out; omega)).2.1]
              unfold fM
              by_cases h : i < L.length
              · rw [if_pos h, if_pos h, edH_zero]
              · rw [if_neg h, if_neg h])
          have HLN := Lib.hid (show n + 1 = (machK t (k + 1)).length by rw [hst, next_len, ← HNL.out])
          have HLW := Lib.hid (show n < n + 1 ∧ tW (machK t (k + 1)) n = t.take (k + 1) from ⟨by omega, by rw [hst, HUN.out]; have h := (next_rows (u := u) (L := L) (a := a) (k := 0) (i := 0) (by omega)).2.2; rw [← HNL.out] at h; exact h⟩)
          clear hst HS HP HNO
          go_wp2
          go_roundw
          case rel => exact ⟨k + 1, n + 1, n, gg, c6, A, by omega, by go_num, rfl, rfl, HLN, HLW, HR⟩
          case measure => simp [intOf]; omega
        · have hiL : i < L.length := by have := HNL.out; omega
          have hcell := HS.out.cells (show i < n + 1 by omega)
          have hone := HS.out.one (show i < n + 1 by omega)
          rw [dM_lt hiL, dOf] at hcell
          rw [fM_lt hiL, edH_below (Nat.lt_succ_self _)] at hone
          obtain ⟨ai, ni, ci, hAi⟩ : ∃ a n c, A i = (a, n, c) := ⟨_, _, _, rfl⟩
          rw [hAi] at hcell hone
          have hni : ni = (tE L i).length := pairs_len hone.own
          have hnc : ni ≤ ci := hone.cap.1
          have hfew := edges_few HM.out hiL
          obtain ⟨m, hm⟩ : ∃ m, (tW L i).length = m := ⟨_, rfl⟩
          obtain ⟨kk, hkk⟩ : ∃ x, tK L i = x := ⟨_, rfl⟩
          obtain ⟨v, hv⟩ : ∃ v, tT L i a = v := ⟨_, rfl⟩
          rw [hm, hkk] at hcell
          have cT := fun w' hat => specTo_any (m : Int) kk (tE L i) (a.toNat : Int) ai ni ci w' hni (by omega) hat
          rw [show toE (tE L i) (a.toNat : Int) = v from hv] at cT
          have q1 := hcell.1
          have q2 := hcell.2.1
          have q3 : wr.cell? ⟨gg, i * 3 + 2, none⟩ = some (.slice ai ni ci) := hcell.2.2
          have HCE := Lib.hid hone.at_
          have z4 : (0 : Int) ≤ (i : Int) := by omega
          have z5 : (i : Int) < (n : Int) + 1 := by omega
          have z6 : (i : Int) < ((n + 1 : Nat) : Int) := by omega
          have hni9 : ni ≤ 256 := by omega
          have HNI := Lib.hid hni
          have HAI := Lib.hid hAi
          clear hcell hone hni hfew hAi
          by_cases hneg : v < 0
          · have hnp : ¬ pcIn u (tW L i ++ [a]) := fun e => by
              obtain ⟨j, _, e1, _⟩ := HM.out.inv.yes i hiL a e
              omega
            obtain ⟨R, hR⟩ : ∃ R, setE (tE L i) (a.toNat : Int) (n : Int) = R := ⟨_, rfl⟩
            have cS := fun w' hat => specSet_any (tE L i) (a.toNat : Int) (n : Int) R ai ni ci w' hR HNI.out (by omega) hnc hat
            have HRF := Lib.hid (show fM L (edH u L a m) i = R by rw [fM_lt hiL, ← hm, edH_one hpi hnp, ← HNL.out]; exact hR)
            have HOTH := Lib.hid (show ∀ e, e < n + 1 → e ≠ i → fM L (edH u L a m) e = fM L (edH u L a (m + 1)) e from fun e he hne => by
              by_cases h : e < L.length
              · rw [fM_lt h, fM_lt h, ← hm]; exact edH_other HM.out hiL h hpi hne
              · rw [fM, if_neg h, fM, if_neg h])
            have t3 : decide (v < 0) = true := decide_eq_true hneg
            have HCASE : (kk = -1 ∧ i = 0) ∨ ∃ j : Nat, j < n ∧ kk = j ∧ tW L j <:+ u ∧ (tW L j).length < m ∧ ∀ e, e < L.length → tW L e <:+ u → (tW L e).length < m → (tW L e).length ≤ (tW L j).length := by
              rcases Nat.eq_zero_or_pos i with h0 | h0
              · subst h0
                exact .inl ⟨by rw [← hkk]; exact HM.out.inv.k0, rfl⟩
              · obtain ⟨j, hj, e1, e2, e3, e4⟩ := path_link HM.out hiL h0 hpi
                rw [hm] at e3 e4
                exact .inr ⟨j, by have := HNL.out; omega, by rw [← hkk, e1], e2, e3, e4⟩
            have HCASE := Lib.hid HCASE
            have HHM := Lib.hid hm
            have HKK := Lib.hid hkk
            have HNP := Lib.hid hnp
            have HNO2 := Lib.hid (show ∀ e, e < L.length → tW L e <:+ u → m ≤ (tW L e).length → ¬ pcIn u (tW L e ++ [a]) from fun e he h1 h2 => by
              by_cases h3 : (tW L e).length = m
              · have := HM.out.same_len he hiL h1 hpi (by omega)
                subst this
                exact hnp
              · exact HNO.out e he h1 (by omega))
            rw [hm] at HS
            clear hR hkk hv hnp HNO hneg hm HP
            go_wp2_with fail
            refine (cT _ HCE.out).mono ?_
            rintro e w7 ⟨rfl, b7⟩
            have HS7 := Lib.hid (HS.out.later b7)
            have q3 : w7.cell? ⟨gg, i * 3 + 2, none⟩ = some (.slice ai ni ci) := by
              have h := (HS7.out.cells (show i < n + 1 by omega)).2.2
              rw [HAI.out] at h
              exact h
            have HCE7 := Lib.hid (HCE.out.below b7)
            clear b7 cT q1 q2
            go_wp2_with fail
            refine (cS _ HCE7.out).mono ?_
            rintro e w8 ⟨a8, n8, c8, rfl, o8⟩
            have hs8 := HS7.out.later o8.below
            have x8 := (hs8.cells (show i < n + 1 by omega)).2.2
            have y8 := hs8.frozen (i * 3 + 2)
            obtain ⟨A9, hA1, hA2⟩ : ∃ A9 : Nat → Sm, A9 i = (a8, n8, c8) ∧ ∀ e, e ≠ i → A9 e = A e := ⟨fun e => if e = i then (a8, n8, c8) else A e, by simp, fun e he => by simp [he]⟩
            have hs9 := HS7.out.put (i := i) (A' := A9) (F' := fM L (edH u L a m)) (by omega) (by rw [HRF.out]; exact o8) hA1 (fun e he hne => ⟨hA2 e hne, HOTH.out e he hne⟩)
            have k9 := (hs9.cells (show i < n + 1 by omega)).2.1
            rw [dM_lt hiL] at k9
            replace k9 : (w8.setCell ⟨gg, i * 3 + 2, none⟩ (.slice a8 n8 c8)).cell? ⟨gg, i * 3 + 1, none⟩ = some (.int .i64 kk) := by rw [← HKK.out]; exact k9
            have HS9 := Lib.hid hs9
            clear hs8 hs9 o8 hA1 hA2 cS q3
            go_wp2
            go_roundw
            case rel =>
              rcases HCASE.out with ⟨e1, e2⟩ | ⟨j, hj, e1, e2, e3, e4⟩
              · have hm0 : m = 0 := by rw [← HHM.out, e2, HM.out.inv.w0]; rfl
                rw [hm0] at HS9 HNO2
                exact ⟨0, kk, A9, rfl, Lib.hid (.inl ⟨e1, rfl⟩), HNO2, HS9⟩
              · refine ⟨(tW L j).length + 1, kk, A9, rfl, Lib.hid (.inr ⟨j, hj, e1, e2, rfl⟩), Lib.hid (fun e he h1 h2 => HNO2.out e he h1 ?_), Lib.hid (HS9.out.congr (fun _ _ => rfl) (fun e he => ?_))⟩
                · rcases Nat.lt_or_ge (tW L e).length m with h3 | h3
                  · have := e4 e he h1 h3
                    omega
                  · exact h3
                · by_cases h : e < L.length
                  · rw [fM_lt h, fM_lt h, ← HHM.out]
                    exact edH_link h (by rw [HHM.out]; exact e3) (by rw [HHM.out]; exact e4)
                  · rw [fM, if_neg h, fM, if_neg h]
            case measure =>
              have h1 := HHM.out
              rcases HCASE.out with ⟨e1, e2⟩ | ⟨j, hj, e1, e2, e3, e4⟩
              · have x1 : ¬ (i : Int) < 0 := by omega
                simp only [intOf, e1]
                first
                  | (rw [if_pos (by decide), if_neg x1]; omega)
                  | (simp [x1])
                  | (simp [x1]; omega)
              · have x1 : ¬ (i : Int) < 0 := by omega
                have x2 : ¬ (j : Int) < 0 := by omega
                simp [intOf, e1, h1, x1, x2]
                omega
          · have hpc : pcIn u (tW L i ++ [a]) := Classical.byContradiction fun e => by
              have := HM.out.inv.no i hiL a e
              omega
            have hTop : IsTop u L a i := ⟨hiL, hpi, hpc, fun e he h1 h2 => by
              rcases Nat.lt_or_ge (tW L i).length (tW L e).length with h3 | h3
              · exact absurd h2 (HNO.out e he h1 h3)
              · exact h3⟩
            obtain ⟨q, hq, e1, e2⟩ := HM.out.inv.yes i hiL a hpc
            have hvq : v = (q : Int) := by omega
            subst hvq
            have hsuf := HM.out.inv.mx q hq _ e2
            have hqm := hsuf.length_le
            rw [List.length_append, List.length_singleton, hm] at hqm
            obtain ⟨mq, hmq⟩ : ∃ x, (tW L q).length = x := ⟨_, rfl⟩
            rw [hmq] at hqm
            have hmk : m ≤ k := by have := hpi.length_le; have := HUL.out; omega
            have hmq9 : mq ≤ k := by
              obtain ⟨e, he⟩ := HM.out.inv.pc q hq
              have h1 := endsAt_len he
              have h2 := he.1
              have := HUL.out
              omega
            have HSU := Lib.hid (show StRows w w.heap.size wr (some ⟨gg, 0, none⟩) (n + 1) c6 (dM L ((k : Int) + 1, 0)) A (fM L (fun e => (up1 u a L.length (stA L e)).2.2)) from HS.out.congr (fun _ _ => rfl) (fun e he => by
              by_cases h : e < L.length
              · rw [fM_lt h, fM_lt h, edH_done hTop]
              · rw [fM, if_neg h, fM, if_neg h]))
            have t3 : decide ((q : Int) < 0) = false := decide_eq_false (by omega)
            have hqn : q < n := by have := HNL.out; omega
            have y4 : (0 : Int) ≤ (q : Int) := by omega
            have y5 : (q : Int) < (n : Int) + 1 := by omega
            have y6 : (q : Int) < ((n + 1 : Nat) : Int) := by omega
            have v2 : IntKind.i64.wrap ((m : Int) + 1) = (m : Int) + 1 := IntWalk.i64_in _ (by omega)
            have HTOP := Lib.hid hTop
            have HQT := Lib.hid (show tT L i a = (q : Int) from e1)
            have HSUF := Lib.hid hsuf
            have HHM := Lib.hid hm
            have HMQ := Lib.hid hmq
            have HKK := Lib.hid hkk
            clear hpc hTop e1 e2 hsuf hm hmq hkk hneg hv HS HNO HP hq
            go_wp2_with fail
            refine (cT _ HCE.out).mono ?_
            rintro e w7 ⟨rfl, b7⟩
            have HS7 := Lib.hid (HSU.out.later b7)
            have HCE7 := Lib.hid (HCE.out.below b7)
            have hc7 := HS7.out.cells (show i < n + 1 by omega)
            rw [dM_lt hiL, dOf, HHM.out, HKK.out] at hc7
            obtain ⟨q1, q2, q3⟩ := hc7
            replace q3 : w7.cell? ⟨gg, i * 3 + 2, none⟩ = some (.slice ai ni ci) := by rw [HAI.out] at q3; exact q3
            clear b7
            go_wp2_with fail
            refine (cT _ HCE7.out).mono ?_
            rintro e w8 ⟨rfl, b8⟩
            have HS8 := Lib.hid (HS7.out.later b8)
            have hc8 := HS8.out.cells (show i < n + 1 by omega)
            rw [dM_lt hiL, dOf, HHM.out, HKK.out] at hc8
            have hd8 := HS8.out.cells (show q < n + 1 by omega)
            rw [dM_lt (by have := HNL.out; omega), dOf, HMQ.out] at hd8
            obtain ⟨q1, q2, q3⟩ := hc8
            obtain ⟨r1, r2, r3⟩ := hd8
            clear b8 cT HS7 HCE7 q3 r3
            by_cases heq : m + 1 = mq
            · have t5 : ((m : Int) + 1 == (mq : Int)) = true := by rw [beq_iff_eq]; omega
              have hwq : tW L q = tW L i ++ [a] := (HSUF.out.eq_of_length (by rw [List.length_append, List.length_singleton, HHM.out, HMQ.out]; exact heq)).symm
              have hst : machK t (k + 1) = nextL u L a (q : Int) := by
                rw [HNEXT.out, stepM_some HM.out HTOP.out HQT.out, if_pos hwq]
              have HLN := Lib.hid (show n + 1 = (machK t (k + 1)).length by rw [hst, next_len, ← HNL.out])
              have HLW := Lib.hid (show n < n + 1 ∧ tW (machK t (k + 1)) n = t.take (k + 1) from ⟨by omega, by rw [hst, HUN.out]; have h := (next_rows (u := u) (L := L) (a := a) (k := (q : Int)) (i := 0) (by omega)).2.2; rw [← HNL.out] at h; exact h⟩)
              have HFIN := Lib.hid (show ∀ w9, StRows w w.heap.size w9 (some ⟨gg, 0, none⟩) (n + 1) c6 (dM L ((k : Int) + 1, 0)) A (fM L (fun e => (up1 u a L.length (stA L e)).2.2)) → StRows w w.heap.size (w9.setCell ⟨gg, n * 3 + 1, none⟩ (.int .i64 (q : Int))) (some ⟨gg, 0, none⟩) (n + 1) c6 (dOf (machK t (k + 1))) A (tE (machK t (k + 1))) from fun w9 h9 => by
                have hn := HNL.out
                have h := h9.setN (i := n) (j := 1) (v := (q : Int)) (D' := dM L ((k : Int) + 1, (q : Int))) (by omega) (by omega) (fun e he hne => by rw [dM_lt (by omega), dM_lt (by omega)]) (by rw [hn, dM_at, dM_at]; rfl)
                rw [hst]
                refine h.congr (fun e he => ?_) (fun e he => ?_)
                · rw [(next_rows (by omega)).1, HUL.out]
                · rw [(next_rows (by omega)).2.1])
              clear heq hwq hst
              go_wp2
              go_quiet (fail)
              have HS9 := Lib.hid (HS8.out.later (below_drewN' (Below.refl _ _) nq))
              clear q1 q2 r1 r2 HS8
              generalize w8.drewN nq = w9 at HS9 ⊢
              have x9 := (HS9.out.cells (show n < n + 1 by omega)).2.1
              have f9 := HS9.out.frozen (n * 3 + 1)
              have z7 : (0 : Int) ≤ (n : Int) := by omega
              have z8 : (n : Int) < (n : Int) + 1 := by omega
              have z9 : (n : Int) < ((n + 1 : Nat) : Int) := by omega
              go_wp2
              go_roundw
              case rel => exact ⟨k + 1, n + 1, n, gg, c6, A, by omega, by go_num, rfl, rfl, HLN, HLW, Lib.hid (HFIN.out _ HS9.out)⟩
              case measure => simp [intOf]; omega
            · have hne5 : ¬ (m : Int) + 1 = (mq : Int) := by omega
              have t5 : ((m : Int) + 1 == (mq : Int)) = false := beq_eq_false_iff_ne.2 hne5
              have hwq : tW L q ≠ tW L i ++ [a] := fun e => heq (by rw [← HHM.out, ← HMQ.out, e, List.length_append, List.length_singleton])
              have HST := Lib.hid (show machK t (k + 1) = splitL u L a i q by rw [HNEXT.out, stepM_some HM.out HTOP.out HQT.out, if_neg hwq])
              obtain ⟨kq, hkq⟩ : ∃ x, tK L q = x := ⟨_, rfl⟩
              obtain ⟨aq, lq, cq, hAq⟩ : ∃ a n c, A q = (a, n, c) := ⟨_, _, _, rfl⟩
              obtain ⟨Fq, hFq⟩ : ∃ F, (up1 u a L.length (stA L q)).2.2 = F := ⟨_, rfl⟩
              have hqL : q < L.length := by have := HNL.out; omega
              have hFl : Fq.length ≤ 257 := by rw [← hFq]; exact up1_most HM.out hqL
              have HFQ := Lib.hid hFq
              have HKQ := Lib.hid hkq
              have HAQ := Lib.hid hAq
              clear heq hwq hne5 hkq hAq hFq
              go_wp2
              go_quiet (fail)
              have HS9 := Lib.hid (HS8.out.later (below_drewN' (Below.refl _ _) nq))
              clear q1 q2 r1 r2 HS8 t5
              generalize w8.drewN nq = w9 at HS9 ⊢
              have hc9 := HS9.out.cells (show i < n + 1 by omega)
              rw [dM_lt hiL, dOf, HHM.out, HKK.out] at hc9
              have hd9 := HS9.out.cells (show q < n + 1 by omega)
              rw [dM_lt hqL, dOf, HMQ.out, HKQ.out, HAQ.out] at hd9
              have hoq := HS9.out.one (show q < n + 1 by omega)
              rw [fM_lt hqL, HFQ.out, HAQ.out] at hoq
              have hlq : lq = Fq.length := pairs_len hoq.own
              have HOQ := Lib.hid hoq.at_
              have HLQ := Lib.hid (show (pairsC Fq).length = lq * 2 by rw [pairsC_len, hlq])
              have hlq9 : lq ≤ 257 := by omega
              have q1 := hc9.1
              have r2 := hd9.2.1
              have r3 : w9.cell? ⟨gg, q * 3 + 2, none⟩ = some (.slice aq lq cq) := hd9.2.2
              have HK9 := Lib.hid (show ∀ w', Below w9.heap.size w9 w' → w'.cell? ⟨gg, i * 3, none⟩ = some (.int .i64 (m : Int)) ∧ w'.cell? ⟨gg, q * 3 + 1, none⟩ = some (.int .i64 kq) ∧ w'.cell? ⟨gg, q * 3 + 2, none⟩ = some (.slice aq lq cq) from fun w' hb => by
                have hgl := HS9.out.outer.own.lt gg (by simp [Value.ownBlock])
                exact ⟨(hb.cell (p := ⟨gg, i * 3, none⟩) hgl.2).trans q1, (hb.cell (p := ⟨gg, q * 3 + 1, none⟩) hgl.2).trans r2, (hb.cell (p := ⟨gg, q * 3 + 2, none⟩) hgl.2).trans r3⟩)
              have HF9 := Lib.hid (show ∀ (w3 w4 : World) (X : Obj), Below w9.heap.size w9 w3 → (∀ j, j < (n + 1) * 3 → w4.cell? ⟨gg, j, none⟩ = (w3.alloc X).cell? ⟨gg, j, none⟩) → w4.cell? ⟨gg, i * 3, none⟩ = some (.int .i64 (m : Int)) ∧ w4.cell? ⟨gg, q * 3 + 1, none⟩ = some (.int .i64 kq) ∧ w4.cell? ⟨gg, q * 3 + 2, none⟩ = some (.slice aq lq cq) from fun w3 w4 X hb hj => by
                have h := HK9.out _ (hb.alloc hb.size X)
                exact ⟨(hj _ (by omega)).trans h.1, (hj _ (by omega)).trans h.2.1, (hj _ (by omega)).trans h.2.2⟩)
              have HB1 := Lib.hid (show Below w9.heap.size w9 (w9.alloc (.cells #[] 31)).drew from ((Below.refl _ _).alloc (Nat.le_refl _) _).drew)
              have z7 : (n : Int) + 1 ≤ 4194304 := by omega
              clear hc9 hd9 hoq hlq
              go_wp2
              go_region_held3 (fun w' => w'.cell? ⟨gg, i * 3, none⟩ = some (.int .i64 (m : Int)) ∧ w'.cell? ⟨gg, q * 3 + 1, none⟩ = some (.int .i64 kq) ∧ w'.cell? ⟨gg, q * 3 + 2, none⟩ = some (.slice aq lq cq)) (first | go_keep | exact HK9.out _ HB1.out | exact HK9.out _ h3.below | exact HK9.out _ (h3.below.alloc h3.below.size _) | exact HF9.out _ _ _ h3.below f4)
                ((first
                  | (refine step_append_to w9 w9.heap.size (some ⟨w9.heap.size, 0, none⟩) 0 0 [] aq lq cq (pairsC Fq) lq (pairsC Fq) (by omega) (by simp) rfl (.tmp 104) (.tmp 109) 27 (by rfl) (by rfl) (by rfl) Try.ulG9 Try.infoG9 rfl (by decide) HLQ.out (pairsC_one _) (by unfold maxLen; omega) (by omega) (by repeat (first | exact One.empty _ _ _ | refine One.drew ?_ | refine One.alloc ?_ _)) (by repeat (first | exact HOQ.out | refine CellsAt.drewW ?_ | refine CellsAt.allocW ?_ _)) ?_; intro a3 c3 w3 h3 g3)
                  | (refine step_append_fr w w.heap.size gg (n + 1) c6 (stC (n + 1) (dM L ((k : Int) + 1, 0)) A) (some ⟨w3.heap.size, 0, none⟩) 1 1 [.int .i64 ((m : Int) + 1), .int .i64 kq, .slice a3 lq c3] rfl (.tmp 92) (.tmp 112) 24 (by rfl) (by rfl) (by rfl) Try.ulS9 Try.infoS9 rfl (by decide) (by rfl) (by simp [Value.oneCell']) (by decide) (by unfold maxLen; omega) (by omega) (HS9.out.outer.later (h3.below.alloc h3.below.size _)) (cellsAt_lit9 _ _ _ _ rfl) ?_; intro a4 c4 w4 h4 g4 s4 f4)))
              obtain ⟨gh, rfl⟩ := h4.addr (Nat.succ_pos _)
              obtain ⟨B0, hB1, hB2⟩ : ∃ B0 : Nat → Sm, B0 (n + 1) = (a3, lq, c3) ∧ ∀ e, e < n + 1 → B0 e = A e := ⟨fun e => if e < n + 1 then A e else (a3, lq, c3), by simp, fun e he => by simp [he]⟩
              have HS10 := Lib.hid (show StRows w w.heap.size w4 (some ⟨gh, 0, none⟩) (n + 1 + 1) c4 (dS L ((k : Int) + 1, 0) ((m : Int) + 1, kq)) B0 (fS L (edG u L a q (m + 1)) Fq) from by
                have hnl := HNL.out
                refine HS9.out.more (D' := dS L ((k : Int) + 1, 0) ((m : Int) + 1, kq)) (A' := B0) (F' := fS L (edG u L a q (m + 1)) Fq) (a' := a3) (n' := lq) (c' := c3) ?_ hB1 (fun e he => ⟨?_, hB2 e he, ?_⟩) ?_ g4 s4
                · rw [show fS L (edG u L a q (m + 1)) Fq (n + 1) = Fq by rw [fS, if_neg (by omega), if_neg (by omega)]]
                  exact h3.later ((Below.refl _ _).alloc (Nat.le_refl _) _)
                · by_cases h : e < L.length
                  · rw [dS_lt h, dM_lt h]
                  · rw [dS, if_neg h, if_pos (by omega), dM, if_neg h]
                · by_cases h : e < L.length
                  · rw [fS_lt h, fM_lt h, ← HHM.out, edG_start HTOP.out h]
                  · rw [fS, if_neg h, if_pos (by omega), fM, if_neg h]
                · have h := h4
                  rw [show dS L ((k : Int) + 1, 0) ((m : Int) + 1, kq) (n + 1) = ((m : Int) + 1, kq) by rw [dS, if_neg (by omega), if_neg (by omega)], hB1]
                  exact h)
              have HFIN := Lib.hid (show ∀ (w9 : World) (A : Nat → Sm), StRows w w.heap.size w9 (some ⟨gh, 0, none⟩) (n + 1 + 1) c4 (dS L ((k : Int) + 1, 0) ((m : Int) + 1, kq)) A (fS L (fun e => (up2 u a L.length q (L.map (up1 u a L.length)) e).2.2) Fq) →
                  (∃ D1, StRows w w.heap.size (w9.setCell ⟨gh, q * 3 + 1, none⟩ (.int .i64 ((n : Int) + 1))) (some ⟨gh, 0, none⟩) (n + 1 + 1) c4 D1 A (fS L (fun e => (up2 u a L.length q (L.map (up1 u a L.length)) e).2.2) Fq)) ∧
                  StRows w w.heap.size ((w9.setCell ⟨gh, q * 3 + 1, none⟩ (.int .i64 ((n : Int) + 1))).setCell ⟨gh, n * 3 + 1, none⟩ (.int .i64 ((n : Int) + 1))) (some ⟨gh, 0, none⟩) (n + 1 + 1) c4 (dOf (machK t (k + 1))) A (tE (machK t (k + 1))) from fun w9 A h9 => by
                have hn := HNL.out
                have g1 := h9.setN (i := q) (j := 1) (v := (n : Int) + 1) (D' := fun e => if e = q then (((tW L q).length : Int), (n : Int) + 1) else dS L ((k : Int) + 1, 0) ((m : Int) + 1, kq) e) (by omega) (by omega) (fun e he hne => if_neg hne) (by rw [if_pos rfl, dS_lt hqL]; rfl)
                refine ⟨⟨_, g1⟩, ?_⟩
                have g2 := g1.setN (i := n) (j := 1) (v := (n : Int) + 1) (D' := dOf (machK t (k + 1))) (by omega) (by omega) (fun e he hne => ?_) (by
                  rw [HST.out, (split_rows (by omega)).1, if_neg (by omega), if_pos hn, HUL.out, if_neg (by omega), dS, if_neg (by omega), if_pos hn, ← hn]
                  rfl)
                · refine g2.congr (fun _ _ => rfl) (fun e he => ?_)
                  rw [HST.out, (split_rows (by omega)).2.1]
                  have h5 : tE (L.map (up1 u a L.length)) q = Fq := by rw [tE, map_st hqL]; exact HFQ.out
                  rw [h5]
                · rw [HST.out, (split_rows (by omega)).1]
                  by_cases h : e < L.length
                  · rw [if_pos h]
                    by_cases hq : e = q
                    · subst hq
                      rw [if_pos rfl, if_pos rfl, hn]; rfl
                    · rw [if_neg hq, if_neg hq, dS_lt h, dOf]
                  · rw [if_neg h, if_neg (by omega), if_neg (by omega), dS, if_neg h, if_neg (by omega), HHM.out, HKQ.out])
              have HLN := Lib.hid (show n + 1 + 1 = (machK t (k + 1)).length by rw [HST.out, split_len, ← HNL.out])
              have HLW := Lib.hid (show n < n + 1 + 1 ∧ tW (machK t (k + 1)) n = t.take (k + 1) from ⟨by omega, by rw [HST.out, HUN.out]; have h := (split_rows (u := u) (L := L) (a := a) (p := i) (q := q) (i := 0) (by omega)).2.2; rw [← HNL.out] at h; exact h⟩)
              have HPC := Lib.hid (show ∀ e, e < L.length → tW L e <:+ u → (tW L e).length ≤ m → pcIn u (tW L e ++ [a]) from fun e he h1 h2 => path_on HTOP.out.path HTOP.out.pc h1 (by rw [HHM.out]; exact h2))
              have HP0 := Lib.hid (show ((i : Int) = -1 ∧ m + 1 = 0) ∨ ∃ j : Nat, j < n ∧ (i : Int) = j ∧ tW L j <:+ u ∧ (tW L j).length ≤ m ∧ m + 1 = (tW L j).length + 1 from .inr ⟨i, hi, rfl, hpi, by rw [HHM.out]; exact Nat.le_refl _, by rw [HHM.out]⟩)
              clear h3 g3 h4 g4 s4 f4 hB1 hB2 q1 r2 r3 HS9 HK9 HF9 HB1 HOQ HLQ
              go_wp2
              go_loopw [8] (fun p_ wr => ∃ (h : Nat) (p : Int) (A : Nat → Sm), p_ = .int .i64 p ∧ Hid ((p = -1 ∧ h = 0) ∨ ∃ j : Nat, j < n ∧ p = j ∧ tW L j <:+ u ∧ (tW L j).length ≤ m ∧ h = (tW L j).length + 1) ∧ Hid (StRows w w.heap.size wr (some ⟨gh, 0, none⟩) (n + 1 + 1) c4 (dS L ((k : Int) + 1, 0) ((m : Int) + 1, kq)) A (fS L (edG u L a q h) Fq))) (fun p_ _ => if intOf p_ < 0 then 0 else (tW L (intOf p_).toNat).length + 1)
              case atStart => exact ⟨m + 1, (i : Int), B0, rfl, HP0, HS10⟩
              case round =>
                clear HS10 HP0
                obtain ⟨h, p, A2, rfl, HP, HS⟩ := hrel
                have z8 : (0 : Int) ≤ (n : Int) := by omega
                have z9 : (n : Int) < (n : Int) + 1 + 1 := by omega
                have z10 : (q : Int) < (n : Int) + 1 + 1 := by omega
                have z11 : (n : Int) < ((n + 1 + 1 : Nat) : Int) := by omega
                have z12 : (q : Int) < ((n + 1 + 1 : Nat) : Int) := by omega
                rcases HP.out with ⟨rfl, rfl⟩ | ⟨j, hj, rfl, hpj, hle, rfl⟩
                · have hg := HFIN.out wr A2 (HS.out.congr (fun _ _ => rfl) (fun e he => by
                    by_cases h : e < L.length
                    · rw [fS_lt h, fS_lt h, edG_zero h]
                    · rw [fS, if_neg h, fS, if_neg h]))
                  obtain ⟨⟨D1, g1⟩, g2⟩ := hg
                  have HG2 := Lib.hid g2
                  have x9 := (HS.out.cells (show q < n + 1 + 1 by omega)).2.1
                  have f9 := HS.out.frozen (q * 3 + 1)
                  have x10 := (g1.cells (show n < n + 1 + 1 by omega)).2.1
                  have f10 := g1.frozen (n * 3 + 1)
                  clear g1 g2 HS HP
                  go_wp2
                  go_roundw
                  case rel => exact ⟨k + 1, n + 1 + 1, n, gh, c4, A2, by omega, by go_num, rfl, by go_num, HLN, HLW, HG2⟩
                  case measure => simp [intOf]; omega
                · have hjL : j < L.length := by have := HNL.out; omega
                  have hpcj := HPC.out j hjL hpj hle
                  obtain ⟨q2, hq2, e1, _⟩ := HM.out.inv.yes j hjL a hpcj
                  have hcell := HS.out.cells (show j < n + 1 + 1 by omega)
                  have hone := HS.out.one (show j < n + 1 + 1 by omega)
                  rw [dS_lt hjL, dOf] at hcell
                  rw [fS_lt hjL, edG_below hpcj (Nat.lt_succ_self _)] at hone
                  obtain ⟨aj, nj, cj, hAj⟩ : ∃ a n c, A2 j = (a, n, c) := ⟨_, _, _, rfl⟩
                  rw [hAj] at hcell hone
                  have hnj : nj = (tE L j).length := pairs_len hone.own
                  have hnc : nj ≤ cj := hone.cap.1
                  have hfew := edges_few HM.out hjL
                  obtain ⟨m2, hm2⟩ : ∃ m, (tW L j).length = m := ⟨_, rfl⟩
                  obtain ⟨k2, hk2⟩ : ∃ x, tK L j = x := ⟨_, rfl⟩
                  rw [hm2, hk2] at hcell
                  have cT := fun w' hat => specTo_any (m2 : Int) k2 (tE L j) (a.toNat : Int) aj nj cj w' hnj (by omega) hat
                  rw [show toE (tE L j) (a.toNat : Int) = (q2 : Int) from e1] at cT
                  have q1 := hcell.1
                  have q2' := hcell.2.1
                  have q3 : wr.cell? ⟨gh, j * 3 + 2, none⟩ = some (.slice aj nj cj) := hcell.2.2
                  have HCE := Lib.hid hone.at_
                  have y4 : (0 : Int) ≤ (j : Int) := by omega
                  have y5 : (j : Int) < (n : Int) + 1 + 1 := by omega
                  have y6 : (j : Int) < ((n + 1 + 1 : Nat) : Int) := by omega
                  have hnj9 : nj ≤ 256 := by omega
                  have HNJ := Lib.hid hnj
                  have HAJ := Lib.hid hAj
                  clear hcell hone hnj hfew hAj
                  by_cases heq : q2 = q
                  · subst heq
                    obtain ⟨R, hR⟩ : ∃ R, setE (tE L j) (a.toNat : Int) ((n : Int) + 1) = R := ⟨_, rfl⟩
                    have cS := fun w' hat => specSet_any (tE L j) (a.toNat : Int) ((n : Int) + 1) R aj nj cj w' hR HNJ.out (by omega) hnc hat
                    have HRF := Lib.hid (show fS L (edG u L a q2 m2) Fq j = R by
                      rw [fS_lt hjL, ← hm2, edG_one hpj hpcj e1, ← HNL.out, show ((n + 1 : Nat) : Int) = (n : Int) + 1 by omega]; exact hR)
                    have HOTH := Lib.hid (show ∀ e, e < n + 1 + 1 → e ≠ j → fS L (edG u L a q2 m2) Fq e = fS L (edG u L a q2 (m2 + 1)) Fq e from fun e he hne => by
                      by_cases h : e < L.length
                      · rw [fS_lt h, fS_lt h, ← hm2]; exact edG_other HM.out hjL h hpj hne
                      · rw [fS, if_neg h, fS, if_neg h])
                    have t6 : ((q2 : Int) == (q2 : Int)) = true := by rw [beq_iff_eq]
                    have HCASE : (k2 = -1 ∧ j = 0) ∨ ∃ j' : Nat, j' < n ∧ k2 = j' ∧ tW L j' <:+ u ∧ (tW L j').length < m2 ∧ ∀ e, e < L.length → tW L e <:+ u → (tW L e).length < m2 → (tW L e).length ≤ (tW L j').length := by
                      rcases Nat.eq_zero_or_pos j with h0 | h0
                      · subst h0
                        exact .inl ⟨by rw [← hk2]; exact HM.out.inv.k0, rfl⟩
                      · obtain ⟨j', hj', e1, e2, e3, e4⟩ := path_link HM.out hjL h0 hpj
                        rw [hm2] at e3 e4
                        exact .inr ⟨j', by have := HNL.out; omega, by rw [← hk2, e1], e2, e3, e4⟩
                    have HCASE := Lib.hid HCASE
                    have HM2 := Lib.hid hm2
                    have HK2 := Lib.hid hk2
                    have HLE := Lib.hid hle
                    rw [hm2] at HS
                    clear hR hk2 hm2 HP hpcj hpj e1 hle
                    go_wp2_with fail
                    refine (cT _ HCE.out).mono ?_
                    rintro e w7 ⟨rfl, b7⟩
                    have HS7 := Lib.hid (HS.out.later b7)
                    have q3 : w7.cell? ⟨gh, j * 3 + 2, none⟩ = some (.slice aj nj cj) := by
                      have h := (HS7.out.cells (show j < n + 1 + 1 by omega)).2.2
                      rw [HAJ.out] at h
                      exact h
                    have HCE7 := Lib.hid (HCE.out.below b7)
                    clear b7 cT q1 q2'
                    go_wp2_with fail
                    refine (cS _ HCE7.out).mono ?_
                    rintro e w8 ⟨a8, n8, c8, rfl, o8⟩
                    have hs8 := HS7.out.later o8.below
                    have x8 := (hs8.cells (show j < n + 1 + 1 by omega)).2.2
                    have y8 := hs8.frozen (j * 3 + 2)
                    obtain ⟨A9, hA1, hA2⟩ : ∃ A9 : Nat → Sm, A9 j = (a8, n8, c8) ∧ ∀ e, e ≠ j → A9 e = A2 e := ⟨fun e => if e = j then (a8, n8, c8) else A2 e, by simp, fun e he => by simp [he]⟩
                    have hs9 := HS7.out.put (i := j) (A' := A9) (F' := fS L (edG u L a q2 m2) Fq) (by omega) (by rw [HRF.out]; exact o8) hA1 (fun e he hne => ⟨hA2 e hne, HOTH.out e he hne⟩)
                    have k9 := (hs9.cells (show j < n + 1 + 1 by omega)).2.1
                    rw [dS_lt hjL] at k9
                    replace k9 : (w8.setCell ⟨gh, j * 3 + 2, none⟩ (.slice a8 n8 c8)).cell? ⟨gh, j * 3 + 1, none⟩ = some (.int .i64 k2) := by rw [← HK2.out]; exact k9
                    have HS9 := Lib.hid hs9
                    clear hs8 hs9 o8 hA1 hA2 cS q3
                    go_wp2
                    go_roundw
                    case rel =>
                      rcases HCASE.out with ⟨e1, e2⟩ | ⟨j', hj', e1, e2, e3, e4⟩
                      · have hm0 : m2 = 0 := by rw [← HM2.out, e2, HM.out.inv.w0]; rfl
                        rw [hm0] at HS9
                        exact ⟨0, k2, A9, rfl, Lib.hid (.inl ⟨e1, rfl⟩), HS9⟩
                      · refine ⟨(tW L j').length + 1, k2, A9, rfl, Lib.hid (.inr ⟨j', hj', e1, e2, by have := HLE.out; have := HM2.out; omega, rfl⟩), Lib.hid (HS9.out.congr (fun _ _ => rfl) (fun e he => ?_))⟩
                        by_cases h : e < L.length
                        · rw [fS_lt h, fS_lt h, ← HM2.out]
                          exact edG_link h (by rw [HM2.out]; exact e3) (by rw [HM2.out]; exact e4)
                        · rw [fS, if_neg h, fS, if_neg h]
                    case measure =>
                      have h1 := HM2.out
                      rcases HCASE.out with ⟨e1, e2⟩ | ⟨j', hj', e1, e2, e3, e4⟩
                      · have x1 : ¬ (j : Int) < 0 := by omega
                        simp only [intOf, e1]
                        first
                          | (rw [if_pos (by decide), if_neg x1]; omega)
                          | (simp [x1])
                          | (simp [x1]; omega)
                      · have x1 : ¬ (j : Int) < 0 := by omega
                        have x2 : ¬ (j' : Int) < 0 := by omega
                        simp [intOf, e1, h1, x1, x2]
                        omega
                  · have t6 : ((q2 : Int) == (q : Int)) = false := beq_eq_false_iff_ne.2 (by omega)
                    have HSE := Lib.hid (HS.out.congr (F' := fS L (fun e => (up2 u a L.length q (L.map (up1 u a L.length)) e).2.2) Fq) (fun _ _ => rfl) (fun e he => by
                      by_cases h : e < L.length
                      · rw [fS_lt h, fS_lt h, edG_done HM.out HTOP.out HQT.out hjL hpj hpcj (by omega) h]
                      · rw [fS, if_neg h, fS, if_neg h]))
                    clear heq HP hpcj hpj e1 hle hm2 hk2 hnc HS
                    go_wp2_with fail
                    refine (cT _ HCE.out).mono ?_
                    rintro e w7 ⟨rfl, b7⟩
                    have HS7 := Lib.hid (HSE.out.later b7)
                    obtain ⟨⟨D1, g1⟩, g2⟩ := HFIN.out w7 A2 HS7.out
                    have HG2 := Lib.hid g2
                    have x9 := (HS7.out.cells (show q < n + 1 + 1 by omega)).2.1
                    have f9 := HS7.out.frozen (q * 3 + 1)
                    have x10 := (g1.cells (show n < n + 1 + 1 by omega)).2.1
                    have f10 := g1.frozen (n * 3 + 1)
                    clear b7 cT q1 q2' q3 g1 g2 HSE HS7
                    go_wp2
                    go_roundw
                    case rel => exact ⟨k + 1, n + 1 + 1, n, gh, c4, A2, by omega, by go_num, rfl, by go_num, HLN, HLW, HG2⟩
                    case measure => simp [intOf]; omega
    · have HE := Lib.hid (show k = t.length by have := HSZ.out; omega)
      have HFIN := Lib.hid (show StRows w w.heap.size wr (some ⟨g, 0, none⟩) (machL t).length c (dOf (machL t)) A (tE (machL t)) by
        have h := HS.out
        have hn := HN.out
        rw [HE.out] at h hn
        rw [hn] at h
        exact h)
      have HN2 := Lib.hid (show n = (machL t).length by have hn := HN.out; rw [HE.out] at hn; exact hn)
      clear HS HLA HN
      go_wp2
      go_ret
      exact ⟨g, c, A, by rw [← HN2.out]; rfl, HFIN.out⟩

end Go.Proofs.Ytehppjilnacjlaa
