/-
  The contract of the program's function MachineOf: it tells the same machine as the model's. Condition: texts have at most 2^20 bytes.
-/
import Derived.Test.YtehppjilnacjlaaGoI
import Derived.Test.YtehppjilnacjlaaSplI
namespace Go.Proofs.Ytehppjilnacjlaa
open Go.RowKit

theorem mach_links {u : Wd} {L : List Sta} (h : MInv u L) : Links (datL L) := fun i hi => by
  rw [datL_len] at hi
  rcases Nat.eq_zero_or_pos i with h0 | h0
  · subst h0
    exact .inl (by rw [datL_at hi]; exact h.inv.k0)
  · obtain ⟨j, hj, e1, e2⟩ := mach_link h hi h0
    refine .inr ⟨j, by rw [datL_len]; exact hj, by rw [datL_at hi]; exact e1, ?_⟩
    rw [datL_at hi, datL_at hj]
    simp only [Int.toNat_natCast]
    exact e2
theorem mach_few9 {u : Wd} {L : List Sta} (h : MInv u L) : ∀ i, i < (datL L).length → (dtA (datL L) i).2.2.length ≤ 1048576 := fun i hi => by
  rw [datL_len] at hi
  rw [datL_at hi]
  have := edges_few h hi
  exact Nat.le_trans this (by decide)
/-- Along links from an end of the text the longest one that goes on is met, or none does. -/
theorem going_top {u : Wd} {L : List Sta} (hM : MInv u L) (a : UInt8) : ∀ (m i : Nat), i < L.length → (tW L i).length = m → tW L i <:+ u → (∀ e, e < L.length → tW L e <:+ u → m < (tW L e).length → ¬ pcIn u (tW L e ++ [a])) →
    ∃ p : Int, Going (datL L) (a.toNat : Int) (i : Int) p ∧ ((p = -1 ∧ ∀ e, e < L.length → tW L e <:+ u → ¬ pcIn u (tW L e ++ [a])) ∨ ∃ j : Nat, p = (j : Int) ∧ IsTop u L a j) := by
  intro m
  induction m using Nat.strongRecOn with
  | _ m ih =>
    intro i hi hm hp hno
    have hid : i < (datL L).length := by rw [datL_len]; exact hi
    by_cases hpc : pcIn u (tW L i ++ [a])
    · obtain ⟨j, hj, e1, e2⟩ := hM.inv.yes i hi a hpc
      refine ⟨(i : Int), .stay hid (by rw [datL_at hi]; show 0 ≤ tT L i a; omega), .inr ⟨i, rfl, hi, hp, hpc, fun e he h1 h2 => ?_⟩⟩
      rcases Nat.lt_or_ge (tW L i).length (tW L e).length with h3 | h3
      · exact absurd h2 (hno e he h1 (by omega))
      · exact h3
    · have hneg : toE (dtA (datL L) i).2.2 (a.toNat : Int) < 0 := by
        rw [datL_at hi]
        have : tT L i a = -1 := hM.inv.no i hi a hpc
        show tT L i a < 0
        omega
      rcases Nat.eq_zero_or_pos i with h0 | h0
      · subst h0
        refine ⟨-1, .link hid hneg ?_, .inl ⟨rfl, fun e he h1 h2 => ?_⟩⟩
        · rw [datL_at hi, show tK L 0 = -1 from hM.inv.k0]
          exact .off
        · rcases Nat.lt_or_ge m (tW L e).length with h3 | h3
          · exact hno e he h1 h3 h2
          · have h4 : (tW L 0).length = 0 := by rw [hM.inv.w0]; rfl
            have h5 := hM.same_len he hi h1 hp (by omega)
            subst h5
            exact hpc h2
      · obtain ⟨j, hj, e1, e2, e3, e4⟩ := path_link hM hi h0 hp
        obtain ⟨p, g1, g2⟩ := ih (tW L j).length (by omega) j hj rfl e2 (fun e he h1 h2 h3 => by
          rcases Nat.lt_or_ge (tW L e).length (tW L i).length with h5 | h5
          · have := e4 e he h1 h5
            omega
          · rcases Nat.lt_or_ge m (tW L e).length with h6 | h6
            · exact hno e he h1 h6 h3
            · have h7 := hM.same_len he hi h1 hp (by omega)
              subst h7
              exact hpc h3)
        refine ⟨p, .link hid hneg ?_, g2⟩
        rw [datL_at hi]
        show Going _ _ (tK L i) p
        rw [e1]
        exact g1
theorem up2_to {u : Wd} {a : UInt8} {n q : Nat} {L : List Sta} {i : Nat} (h1 : tW L i <:+ u) (h2 : pcIn u (tW L i ++ [a])) (h3 : tT L i a = (q : Int)) : toE (up2 u a n q L i).2.2 (a.toNat : Int) = ((n + 1 : Nat) : Int) := by
  rw [up2_yes ⟨h1, h2, h3⟩, toE_set]

theorem up2_top {u : Wd} {L : List Sta} {a : UInt8} {n q i : Nat} (h : IsTop u L a i) (hq : tT L i a = (q : Int)) : toE (up2 u a n q (L.map (up1 u a L.length)) i).2.2 (a.toNat : Int) = ((n + 1 : Nat) : Int) := by
  have hw : tW (L.map (up1 u a L.length)) i = tW L i := by rw [tW, map_st h.lt, (up1_w _ _ _ _).1]; rfl
  refine up2_to (by rw [hw]; exact h.path) (by rw [hw]; exact h.pc) ?_
  rw [tT, tE, map_st h.lt, up1_to (fun e => e.2.2 h.pc)]
  exact hq
theorem up2_most {u : Wd} {L : List Sta} (h : MInv u L) {a : UInt8} {n q i : Nat} (hi : i < L.length) : (up2 u a n q (L.map (up1 u a L.length)) i).2.2.length ≤ 258 := by
  have h1 : (tE (L.map (up1 u a L.length)) i).length ≤ 257 := by rw [tE, map_st hi]; exact up1_most h hi
  unfold up2
  simp only
  split
  · have := setE_most (tE (L.map (up1 u a L.length)) i) (a.toNat : Int) ((n + 1 : Nat) : Int)
    omega
  · omega
/-- The numbers while the older state's link is written already. -/
def dT (L : List Sta) (x y : Int × Int) (q : Nat) (z : Int) (i : Nat) : Int × Int := if i = q then (((tW L q).length : Int), z) else dS L x y i
theorem dT_ne {L : List Sta} {x y : Int × Int} {q : Nat} {z : Int} {i : Nat} (h : i < L.length) (hq : i ≠ q) : dT L x y q z i = dOf L i := by rw [dT, if_neg hq, dS_lt h]

set_option maxRecDepth 4000 in
set_option maxHeartbeats 64000000 in
theorem implMach_any (s : ByteArray) (w : World) (hs : s.size ≤ 1048576) :
    Calls Try.prog 15 #[.string s] w fun e w' => ∃ (g c : Nat) (A : Nat → Sm), e = .returned (.slice (some ⟨g, 0, none⟩) (machL s.data.toList).length c) ∧ StRows w w.heap.size w' (some ⟨g, 0, none⟩) (machL s.data.toList).length c (dOf (machL s.data.toList)) A (tE (machL s.data.toList)) := by
  have hsz : s.data.toList.length = s.size := rfl
  obtain ⟨t, ht⟩ : ∃ t, s.data.toList = t := ⟨_, rfl⟩
  have HT := Lib.hid ht
  rw [ht] at hsz ⊢
  have HSZ := Lib.hid hsz
  have HS0 := Lib.hid (show StRows w w.heap.size (w.alloc (.cells #[.int .i64 0, .int .i64 (-1), .slice none 0 0] 29)) (some ⟨w.heap.size, 0, none⟩) 1 1 (dOf (machK t 0)) (fun _ => (none, 0, 0)) (tE (machK t 0)) from
    ⟨⟨World.ownsRow_lit w #[.int .i64 0, .int .i64 (-1), .slice none 0 0] 1 (Nat.le_refl _) (by decide) rfl, heap_le_alloc _ _, (Below.refl _ _).alloc (Nat.le_refl _) _⟩,
     fun d hd => by
      obtain rfl : d = 0 := by omega
      exact World.ownsRow_nil _ _ _ _,
     fun d e hd he hde => by omega, fun d hd b hb => by simp [smV, Value.ownBlock] at hb⟩)
  clear ht hsz
  go_enter Try.func15, Try.ntmps15
  go_wp2
  go_loopw [3, 4, 5] (fun out_ last_ k_ wr => ∃ (k n last g c : Nat) (A : Nat → Sm), k ≤ s.size ∧ k_ = .int .i64 (k : Int) ∧ last_ = .int .i64 (last : Int) ∧ out_ = .slice (some ⟨g, 0, none⟩) n c ∧ Hid (n = (machK t k).length) ∧ Hid (last < n ∧ tW (machK t k) last = t.take k) ∧ Hid (StRows w w.heap.size wr (some ⟨g, 0, none⟩) n c (dOf (machK t k)) A (tE (machK t k)))) (fun _ _ k_ _ => s.size - (intOf k_).toNat)
  case atStart => exact ⟨0, 1, 0, w.heap.size, 1, fun _ => (none, 0, 0), Nat.zero_le _, rfl, rfl, rfl, Lib.hid rfl, Lib.hid ⟨by omega, rfl⟩, HS0⟩
  case round =>
    clear HS0
    obtain ⟨k, n, last, g, c, A, hk, rfl, rfl, rfl, HN, HLA, HS⟩ := hrel
    by_cases hlt : k < s.size
    · obtain ⟨L, hL⟩ : ∃ L, machK t k = L := ⟨_, rfl⟩
      obtain ⟨u, hu⟩ : ∃ u, t.take k = u := ⟨_, rfl⟩
      obtain ⟨a, ha⟩ : ∃ a, s[k] = a := ⟨_, rfl⟩
      have hkt : k < t.length := by have := HSZ.out; omega
      have hta : t.getD k 0 = a := by
        rw [List.getD_eq_getElem?_getD, List.getElem?_eq_getElem hkt, ← ha]
        have h1 := HT.out
        subst h1
        rfl
      have hM : MInv u L := by rw [← hL, ← hu]; exact machK_inv t k (by omega)
      have hul : u.length = k := by rw [← hu, List.length_take]; omega
      have hln : L.length ≤ 2097153 := by
        have h1 := machK_len t k (by omega)
        rw [hL] at h1
        by_cases h2 : k ≤ 2
        · have := h1.1 h2; omega
        · have := h1.2 (by omega); have := HSZ.out; omega
      have HNEXT := Lib.hid (show machK t (k + 1) = stepM u L a by rw [machK, hL, hu, hta])
      have HUN := Lib.hid (show t.take (k + 1) = u ++ [a] by
        rw [List.take_succ_eq_append_getElem hkt, hu, ← hta, List.getD_eq_getElem?_getD, List.getElem?_eq_getElem hkt]; rfl)
      rw [hL] at HN HLA HS
      rw [hu] at HLA
      have hnl := HN.out
      have hla := HLA.out
      have HM := Lib.hid hM
      have HUL := Lib.hid hul
      have hn9 : n ≤ 2097153 := by omega
      obtain ⟨p, hgo, htop⟩ := going_top hM a k last (by omega) (by rw [hla.2, hul]) (by rw [hla.2]; exact List.suffix_refl _) (fun e _ h1 h2 => by have := h1.length_le; omega)
      have hS : StRows w w.heap.size wr (some ⟨g, 0, none⟩) L.length c (dOf L) A (tE L) := by
        have h := HS.out
        rw [hnl] at h
        exact h
      have cG := implGo_any (datL L) (last : Int) p (a.toNat : Int) (some ⟨g, 0, none⟩) n c A wr (by rw [datL_len]; exact hnl) (mach_few9 hM) (mach_links hM) hgo hS.at_
      have HTOPS := Lib.hid htop
      have z1 : (k : Int) < (s.size : Int) := by omega
      have z0 : (0 : Int) ≤ (k : Int) := by omega
      have z2 : (last : Int) < (n : Int) := by have := hla.1; omega
      have z3 : (0 : Int) ≤ (last : Int) := by omega
      have v1 : IntKind.i64.wrap ((k : Int) + 1) = (k : Int) + 1 := IntWalk.i64_in _ (by omega)
      have hb : (a.toNat : Int) ≤ 255 := by have := a.toNat_lt; omega
      have va : IntKind.i64.wrap (a.toNat : Int) = (a.toNat : Int) := IntWalk.i64_in _ (by omega)
      have HNL := Lib.hid hnl
      have HB9 := Lib.hid hn9
      clear hL hu hta hM hul hla hkt hln hnl hgo htop hS
      go_wp2_with fail
      refine cG.mono ?_
      rintro e w5 ⟨rfl, rfl⟩
      clear cG
      go_wp2_with (at_builtin; refine wpList_append_apart rfl (.tmp 30) (.tmp 34) 24 rfl Try.ulS9 Try.infoS9 rfl (by decide) HS.out.outer rfl #[.int .i64 ((k : Int) + 1), .int .i64 0, .slice none 0 0] rfl rfl (by simp [Value.oneCell']) (by unfold maxLen; omega) (by omega) ?_; intro a6 c6 w6 o6 g6 s6; obtain ⟨gg, rfl⟩ := o6.addr (Nat.succ_pos _))
      have hnl := HNL.out
      obtain ⟨A6, hA1, hA2⟩ : ∃ A6 : Nat → Sm, A6 n = (none, 0, 0) ∧ ∀ e, e < n → A6 e = A e := ⟨fun e => if e < n then A e else (none, 0, 0), by simp, fun e he => by simp [he]⟩
      have HS6 := Lib.hid (show StRows w w.heap.size w6 (some ⟨gg, 0, none⟩) (n + 1) c6 (dM L ((k : Int) + 1, 0)) A6 (fM L (edH u L a (k + 1))) from by
        refine HS.out.more (D' := dM L ((k : Int) + 1, 0)) (A' := A6) (F' := fM L (edH u L a (k + 1))) (a' := none) (n' := 0) (c' := 0) ?_ hA1 (fun e he => ⟨dM_lt (by omega), hA2 e he, by rw [fM_lt (by omega), edH_start (by have := HUL.out; omega)]⟩) ?_ g6 s6
        · rw [hnl, fM_at]; exact One.nil w5 31 2
        · have h := o6
          rw [hnl] at h ⊢
          rw [← hnl] at h ⊢
          rw [show dM L ((k : Int) + 1, 0) n = ((k : Int) + 1, 0) by rw [hnl]; exact dM_at _ _, hA1]
          exact h)
      clear o6 g6 s6 hA1 hA2 HS
      have HP0 := Lib.hid (show ((last : Int) = -1 ∧ k + 1 = 0 ∧ p = -1) ∨ ∃ i : Nat, i < n ∧ (last : Int) = i ∧ tW L i <:+ u ∧ k + 1 = (tW L i).length + 1 ∧ ∀ j : Nat, p = (j : Int) → (tW L j).length ≤ (tW L i).length from
        .inr ⟨last, HLA.out.1, rfl, by rw [HLA.out.2]; exact List.suffix_refl _, by rw [HLA.out.2, HUL.out], fun j hj => by
          rw [HLA.out.2]
          rcases HTOPS.out with ⟨e1, _⟩ | ⟨j2, e1, e2⟩
          · omega
          · obtain rfl : j = j2 := by omega
            exact e2.path.length_le⟩)
      clear hnl ha hn9
      go_wp2
      go_loopw [9] (fun p_ wr => ∃ (h : Nat) (x : Int) (A : Nat → Sm), p_ = .int .i64 x ∧ Hid ((x = -1 ∧ h = 0 ∧ p = -1) ∨ ∃ i : Nat, i < n ∧ x = i ∧ tW L i <:+ u ∧ h = (tW L i).length + 1 ∧ ∀ j : Nat, p = (j : Int) → (tW L j).length ≤ (tW L i).length) ∧ Hid (StRows w w.heap.size wr (some ⟨gg, 0, none⟩) (n + 1) c6 (dM L ((k : Int) + 1, 0)) A (fM L (edH u L a h)))) (fun p_ _ => if intOf p_ < 0 then 0 else (tW L (intOf p_).toNat).length + 1)
      case atStart => exact ⟨k + 1, (last : Int), A6, rfl, HP0, HS6⟩
      case round =>
        clear HS6 HP0
        have hn9 := HB9.out
        obtain ⟨h, x, A, rfl, HP, HS⟩ := hrel
        rcases HP.out with ⟨rfl, rfl, rfl⟩ | ⟨i, hi, rfl, hpi, rfl, hjp⟩
        · have hno : ∀ e, e < L.length → tW L e <:+ u → ¬ pcIn u (tW L e ++ [a]) := by
            rcases HTOPS.out with ⟨_, e1⟩ | ⟨j2, e1, e2⟩
            · exact e1
            · omega
          have hst : machK t (k + 1) = nextL u L a 0 := HNEXT.out.trans (stepM_none hno)
          have HR := Lib.hid (show ∀ w', Below wr.heap.size wr w' → StRows w w.heap.size w' (some ⟨gg, 0, none⟩) (n + 1) c6 (dOf (machK t (k + 1))) A (tE (machK t (k + 1))) from fun w' hb => by
            rw [hst]
            refine (HS.out.later hb).congr (fun i hi => ?_) (fun i hi => ?_)
            · rw [(next_rows (by have := HNL.out; omega)).1, HUL.out]
            · rw [(next_rows (by have := HNL.out; omega)).2.1]
              unfold fM
              by_cases h : i < L.length
              · rw [if_pos h, if_pos h, edH_zero]
              · rw [if_neg h, if_neg h])
          have HLN := Lib.hid (show n + 1 = (machK t (k + 1)).length by rw [hst, next_len, ← HNL.out])
          have HLW := Lib.hid (show n < n + 1 ∧ tW (machK t (k + 1)) n = t.take (k + 1) from ⟨by omega, by rw [hst, HUN.out]; have h := (next_rows (u := u) (L := L) (a := a) (k := 0) (i := 0) (by omega)).2.2; rw [← HNL.out] at h; exact h⟩)
          have cSp := implToSplit_no (some ⟨gg, 0, none⟩) (n + 1) c6 (a.toNat : Int) wr
          clear hst HS HP hno
          go_wp2_with fail
          refine cSp.mono ?_
          rintro e w7 ⟨rfl, nq, rfl⟩
          have HR2 := Lib.hid (HR.out _ (below_drewN' (Below.refl _ _) nq))
          clear cSp HR
          go_wp2
          go_roundw
          case rel => exact ⟨k + 1, n + 1, n, gg, c6, A, by omega, by go_num, rfl, rfl, HLN, HLW, HR2⟩
          case measure => simp [intOf]; omega
        · have hiL : i < L.length := by have := HNL.out; omega
          have hcell := HS.out.cells (show i < n + 1 by omega)
          have hone := HS.out.one (show i < n + 1 by omega)
          rw [dM_lt hiL, dOf] at hcell
          rw [fM_lt hiL, edH_below (Nat.lt_succ_self _)] at hone
          obtain ⟨ai, ni, ci, hAi⟩ : ∃ a n c, A i = (a, n, c) := ⟨_, _, _, rfl⟩
          rw [hAi] at hcell hone
          have hni : ni = (tE L i).length := pairs_len hone.own
          have hnc : ni ≤ ci := hone.cap.1
          have hfew := edges_few HM.out hiL
          obtain ⟨m, hm⟩ : ∃ m, (tW L i).length = m := ⟨_, rfl⟩
          obtain ⟨kk, hkk⟩ : ∃ x, tK L i = x := ⟨_, rfl⟩
          rw [hm, hkk] at hcell
          have q1 := hcell.1
          have q2 := hcell.2.1
          have q3 : wr.cell? ⟨gg, i * 3 + 2, none⟩ = some (.slice ai ni ci) := hcell.2.2
          have HCE := Lib.hid hone.at_
          have z4 : (0 : Int) ≤ (i : Int) := by omega
          have z5 : (i : Int) < (n : Int) + 1 := by omega
          have z6 : (i : Int) < ((n + 1 : Nat) : Int) := by omega
          have hni9 : ni ≤ 256 := by omega
          have HNI := Lib.hid hni
          have HAI := Lib.hid hAi
          clear hcell hone hni hfew hAi
          by_cases hxp : (i : Int) = p
          · have hTop : IsTop u L a i := by
              rcases HTOPS.out with ⟨e1, _⟩ | ⟨j2, e1, e2⟩
              · omega
              · obtain rfl : i = j2 := by omega
                exact e2
            subst hxp
            obtain ⟨q, hq, e1, e2⟩ := HM.out.inv.yes i hiL a hTop.pc
            have hsuf := HM.out.inv.mx q hq _ e2
            have hqm := hsuf.length_le
            rw [List.length_append, List.length_singleton, hm] at hqm
            obtain ⟨mq, hmq⟩ : ∃ x, (tW L q).length = x := ⟨_, rfl⟩
            rw [hmq] at hqm
            have hmk : m ≤ k := by have := hpi.length_le; have := HUL.out; omega
            have hmq9 : mq ≤ k := by
              obtain ⟨e, he⟩ := HM.out.inv.pc q hq
              have h1 := endsAt_len he
              have h2 := he.1
              have := HUL.out
              omega
            have HSU := Lib.hid (show StRows w w.heap.size wr (some ⟨gg, 0, none⟩) (n + 1) c6 (dM L ((k : Int) + 1, 0)) A (fM L (fun e => (up1 u a L.length (stA L e)).2.2)) from HS.out.congr (fun _ _ => rfl) (fun e he => by
              by_cases h : e < L.length
              · rw [fM_lt h, fM_lt h, edH_done hTop]
              · rw [fM, if_neg h, fM, if_neg h]))
            have hqn : q < n := by have := HNL.out; omega
            have hqL : q < L.length := by have := HNL.out; omega
            have t1 : ((i : Int) == (i : Int)) = true := beq_self_eq_true _
            have t1' : ((i : Int) != (i : Int)) = false := by rw [bne, t1]; rfl
            have y4 : (0 : Int) ≤ (q : Int) := by omega
            have y5 : (q : Int) < (n : Int) + 1 := by omega
            have y6 : (q : Int) < ((n + 1 : Nat) : Int) := by omega
            have v2 : IntKind.i64.wrap ((m : Int) + 1) = (m : Int) + 1 := IntWalk.i64_in _ (by omega)
            have v3 : IntKind.i64.wrap ((n : Int) + 1) = (n : Int) + 1 := IntWalk.i64_in _ (by omega)
            have r1 : wr.cell? ⟨gg, q * 3, none⟩ = some (.int .i64 (mq : Int)) := by
              have h := (HS.out.cells (show q < n + 1 by omega)).1
              rw [dM_lt hqL, dOf, hmq] at h
              exact h
            obtain ⟨r, hr⟩ : ∃ r, decide ((m : Int) + 1 < (mq : Int)) = r := ⟨_, rfl⟩
            have cSp := implToSplit_is r i q (a.toNat : Int) (m : Int) (mq : Int) (tE L i) gg (n + 1) c6 ai ni ci wr hr (by omega) (by omega) (by omega) (by omega) e1 HNI.out (by omega) q1 q3 r1 HCE.out
            have HTOP := Lib.hid hTop
            have HQT := Lib.hid (show tT L i a = (q : Int) from e1)
            have HSUF := Lib.hid hsuf
            have HHM := Lib.hid hm
            have HMQ := Lib.hid hmq
            have HKK := Lib.hid hkk
            have HR := Lib.hid hr
            have HPI := Lib.hid hpi
            clear hTop e1 e2 hsuf hm hmq hkk HS HP hq hjp hpi hr r1 q1 q2 q3
            go_wp2_with fail
            refine cSp.mono ?_
            rintro e w7 ⟨rfl, nq, rfl⟩
            have HS8 := Lib.hid (HSU.out.later (below_drewN' (Below.refl _ _) nq))
            have HCE8 := Lib.hid (HCE.out.drewN nq)
            clear cSp HSU HCE
            generalize wr.drewN nq = w9 at HS8 HCE8 ⊢
            have hc9 := HS8.out.cells (show i < n + 1 by omega)
            rw [dM_lt hiL, dOf, HHM.out, HKK.out] at hc9
            have q3 : w9.cell? ⟨gg, i * 3 + 2, none⟩ = some (.slice ai ni ci) := by
              have h := hc9.2.2
              rw [HAI.out] at h
              exact h
            have cB := implBy_any (tE L i) (a.toNat : Int) ai ni ci w9 HNI.out (by omega) HCE8.out
            rw [show toE (tE L i) (a.toNat : Int) = (q : Int) from HQT.out] at cB
            by_cases heq : m + 1 = mq
            · have hrf : r = false := by rw [← HR.out]; exact decide_eq_false (by omega)
              subst hrf
              have hwq : tW L q = tW L i ++ [a] := (HSUF.out.eq_of_length (by rw [List.length_append, List.length_singleton, HHM.out, HMQ.out]; exact heq)).symm
              have hst : machK t (k + 1) = nextL u L a (q : Int) := by
                rw [HNEXT.out, stepM_some HM.out HTOP.out HQT.out, if_pos hwq]
              have HLN := Lib.hid (show n + 1 = (machK t (k + 1)).length by rw [hst, next_len, ← HNL.out])
              have HLW := Lib.hid (show n < n + 1 ∧ tW (machK t (k + 1)) n = t.take (k + 1) from ⟨by omega, by rw [hst, HUN.out]; have h := (next_rows (u := u) (L := L) (a := a) (k := (q : Int)) (i := 0) (by omega)).2.2; rw [← HNL.out] at h; exact h⟩)
              have HFIN := Lib.hid (show StRows w w.heap.size (w9.setCell ⟨gg, n * 3 + 1, none⟩ (.int .i64 (q : Int))) (some ⟨gg, 0, none⟩) (n + 1) c6 (dOf (machK t (k + 1))) A (tE (machK t (k + 1))) by
                have hn := HNL.out
                have h := HS8.out.setN (i := n) (j := 1) (v := (q : Int)) (D' := dM L ((k : Int) + 1, (q : Int))) (by omega) (by omega) (fun e he hne => by rw [dM_lt (by omega), dM_lt (by omega)]) (by rw [hn, dM_at, dM_at]; rfl)
                rw [hst]
                refine h.congr (fun e he => ?_) (fun e he => ?_)
                · rw [(next_rows (by omega)).1, HUL.out]
                · rw [(next_rows (by omega)).2.1])
              have x9 := (HS8.out.cells (show n < n + 1 by omega)).2.1
              have f9 := HS8.out.frozen (n * 3 + 1)
              have z7 : (0 : Int) ≤ (n : Int) := by omega
              have z8 : (n : Int) < (n : Int) + 1 := by omega
              have z9 : (n : Int) < ((n + 1 : Nat) : Int) := by omega
              clear heq hwq hst hc9 HS8
              go_wp2_with fail
              refine cB.mono ?_
              rintro e w10 ⟨rfl, rfl⟩
              clear cB
              go_wp2
              go_roundw
              case rel => exact ⟨k + 1, n + 1, n, gg, c6, A, by omega, by go_num, rfl, rfl, HLN, HLW, HFIN⟩
              case measure => simp [intOf]; omega
            · have hrf : r = true := by rw [← HR.out]; exact decide_eq_true (by omega)
              subst hrf
              have hwq : tW L q ≠ tW L i ++ [a] := fun e => heq (by rw [← HHM.out, ← HMQ.out, e, List.length_append, List.length_singleton])
              have HST := Lib.hid (show machK t (k + 1) = splitL u L a i q by rw [HNEXT.out, stepM_some HM.out HTOP.out HQT.out, if_neg hwq])
              have hmlt : m + 1 < mq := by omega
              obtain ⟨kq, hkq⟩ : ∃ x, tK L q = x := ⟨_, rfl⟩
              obtain ⟨aq, lq, cq, hAq⟩ : ∃ a n c, A q = (a, n, c) := ⟨_, _, _, rfl⟩
              obtain ⟨Fq, hFq⟩ : ∃ F, (up1 u a L.length (stA L q)).2.2 = F := ⟨_, rfl⟩
              have hFl : Fq.length ≤ 257 := by rw [← hFq]; exact up1_most HM.out hqL
              have HFQ := Lib.hid hFq
              have HKQ := Lib.hid hkq
              have HAQ := Lib.hid hAq
              clear heq hwq hkq hAq hFq
              have hd9 := HS8.out.cells (show q < n + 1 by omega)
              rw [dM_lt hqL, dOf, HMQ.out, HKQ.out, HAQ.out] at hd9
              have hoq := HS8.out.one (show q < n + 1 by omega)
              rw [fM_lt hqL, HFQ.out, HAQ.out] at hoq
              have hlq : lq = Fq.length := pairs_len hoq.own
              have HOQ := Lib.hid hoq.at_
              have hlq9 : lq ≤ 257 := by omega
              have cSO := fun w' hat => implSplitOff_any (mq : Int) kq ((m : Int) + 1) Fq aq lq cq w' hlq (by omega) hat
              have q1 : w9.cell? ⟨gg, i * 3, none⟩ = some (.int .i64 (m : Int)) := hc9.1
              have r1 : w9.cell? ⟨gg, q * 3, none⟩ = some (.int .i64 (mq : Int)) := hd9.1
              have r2 : w9.cell? ⟨gg, q * 3 + 1, none⟩ = some (.int .i64 kq) := hd9.2.1
              have r3 : w9.cell? ⟨gg, q * 3 + 2, none⟩ = some (.slice aq lq cq) := hd9.2.2
              have HK9 := Lib.hid (show ∀ w', Below w9.heap.size w9 w' → w'.cell? ⟨gg, i * 3, none⟩ = some (.int .i64 (m : Int)) ∧ w'.cell? ⟨gg, q * 3, none⟩ = some (.int .i64 (mq : Int)) ∧ w'.cell? ⟨gg, q * 3 + 1, none⟩ = some (.int .i64 kq) ∧ w'.cell? ⟨gg, q * 3 + 2, none⟩ = some (.slice aq lq cq) from fun w' hb => by
                have hgl := HS8.out.outer.own.lt gg (by simp [Value.ownBlock])
                exact ⟨(hb.cell (p := ⟨gg, i * 3, none⟩) hgl.2).trans q1, (hb.cell (p := ⟨gg, q * 3, none⟩) hgl.2).trans r1, (hb.cell (p := ⟨gg, q * 3 + 1, none⟩) hgl.2).trans r2, (hb.cell (p := ⟨gg, q * 3 + 2, none⟩) hgl.2).trans r3⟩)
              have HF9 := Lib.hid (show ∀ (w3 w4 : World) (X : Obj), Below w9.heap.size w9 w3 → (∀ j, j < (n + 1) * 3 → w4.cell? ⟨gg, j, none⟩ = (w3.alloc X).cell? ⟨gg, j, none⟩) → w4.cell? ⟨gg, i * 3, none⟩ = some (.int .i64 (m : Int)) ∧ w4.cell? ⟨gg, q * 3, none⟩ = some (.int .i64 (mq : Int)) ∧ w4.cell? ⟨gg, q * 3 + 1, none⟩ = some (.int .i64 kq) ∧ w4.cell? ⟨gg, q * 3 + 2, none⟩ = some (.slice aq lq cq) from fun w3 w4 X hb hj => by
                have h := HK9.out _ (hb.alloc hb.size X)
                exact ⟨(hj _ (by omega)).trans h.1, (hj _ (by omega)).trans h.2.1, (hj _ (by omega)).trans h.2.2.1, (hj _ (by omega)).trans h.2.2.2⟩)
              have z7 : (n : Int) + 1 ≤ 4194304 := by omega
              clear hc9 hd9 hoq hlq
              go_wp2_with fail
              refine cB.mono ?_
              rintro e w10 ⟨rfl, rfl⟩
              clear cB q3
              go_wp2
              go_region_held3 (fun w' => w'.cell? ⟨gg, i * 3, none⟩ = some (.int .i64 (m : Int)) ∧ w'.cell? ⟨gg, q * 3, none⟩ = some (.int .i64 (mq : Int)) ∧ w'.cell? ⟨gg, q * 3 + 1, none⟩ = some (.int .i64 kq) ∧ w'.cell? ⟨gg, q * 3 + 2, none⟩ = some (.slice aq lq cq)) (first | go_keep | exact HK9.out _ B3 | exact HK9.out _ (B3.alloc B3.size _) | exact HF9.out _ _ _ B3 f4)
                ((first
                  | (refine step_append_fr w w.heap.size gg (n + 1) c6 (stC (n + 1) (dM L ((k : Int) + 1, 0)) A) (some ⟨w3.heap.size, 0, none⟩) 1 1 [.int .i64 ((m : Int) + 1), .int .i64 kq, .slice a3 lq c3] rfl (.tmp 68) (.tmp 80) 24 (by rfl) (by rfl) (by rfl) Try.ulS9 Try.infoS9 rfl (by decide) (by rfl) (by simp [Value.oneCell']) (by decide) (by unfold maxLen; omega) (by omega) (HS8.out.outer.later (B3.alloc B3.size _)) (cellsAt_lit9 _ _ _ _ rfl) ?_; intro a4 c4 w4 h4 g4 s4 f4)
                  | (go_at_call 44; refine (cSO _ (by repeat (first | exact HOQ.out | refine CellsAt.drewW ?_ | refine CellsAt.allocW ?_ _))).mono ?_; rintro e w3 ⟨a3, c3, rfl, h3⟩; have B3 : Below w10.heap.size w10 w3 := Below.trans (by repeat (first | exact Below.refl _ _ | refine Below.drew ?_ | refine below_drewN' ?_ _)) (h3.below.mono (by simp)))))
              obtain ⟨gh, rfl⟩ := h4.addr (Nat.succ_pos _)
              obtain ⟨B0, hB1, hB2⟩ : ∃ B0 : Nat → Sm, B0 (n + 1) = (a3, lq, c3) ∧ ∀ e, e < n + 1 → B0 e = A e := ⟨fun e => if e < n + 1 then A e else (a3, lq, c3), by simp, fun e he => by simp [he]⟩
              have o3 : One w10 w10.heap.size w3 31 2 a3 lq c3 (pairsC Fq) := h3.under (Below.refl _ _).drew (Nat.le_refl _)
              have HS10 := Lib.hid (show StRows w w.heap.size w4 (some ⟨gh, 0, none⟩) (n + 1 + 1) c4 (dS L ((k : Int) + 1, 0) ((m : Int) + 1, kq)) B0 (fS L (edG u L a q (m + 1)) Fq) from by
                have hnl := HNL.out
                refine HS8.out.more (D' := dS L ((k : Int) + 1, 0) ((m : Int) + 1, kq)) (A' := B0) (F' := fS L (edG u L a q (m + 1)) Fq) (a' := a3) (n' := lq) (c' := c3) ?_ hB1 (fun e he => ⟨?_, hB2 e he, ?_⟩) ?_ g4 s4
                · rw [show fS L (edG u L a q (m + 1)) Fq (n + 1) = Fq by rw [fS, if_neg (by omega), if_neg (by omega)]]
                  exact o3.later ((Below.refl _ _).alloc (Nat.le_refl _) _)
                · by_cases h : e < L.length
                  · rw [dS_lt h, dM_lt h]
                  · rw [dS, if_neg h, if_pos (by omega), dM, if_neg h]
                · by_cases h : e < L.length
                  · rw [fS_lt h, fM_lt h, ← HHM.out, edG_start HTOP.out h]
                  · rw [fS, if_neg h, if_pos (by omega), fM, if_neg h]
                · have h := h4
                  rw [show dS L ((k : Int) + 1, 0) ((m : Int) + 1, kq) (n + 1) = ((m : Int) + 1, kq) by rw [dS, if_neg (by omega), if_neg (by omega)], hB1]
                  exact h)
              obtain ⟨D1, hD1⟩ : ∃ D1, D1 = dT L ((k : Int) + 1, 0) ((m : Int) + 1, kq) q ((n : Int) + 1) := ⟨_, rfl⟩
              have HD1 := Lib.hid hD1
              have HS11 := Lib.hid (show StRows w w.heap.size (w4.setCell ⟨gh, q * 3 + 1, none⟩ (.int .i64 ((n : Int) + 1))) (some ⟨gh, 0, none⟩) (n + 1 + 1) c4 D1 B0 (fS L (edG u L a q (m + 1)) Fq) from
                HS10.out.setN (i := q) (j := 1) (v := (n : Int) + 1) (D' := D1) (by omega) (by omega) (fun e he hne => by rw [hD1, dT, if_neg hne]) (by rw [hD1, dT, if_pos rfl, dS_lt hqL]; rfl))
              have m9 := (HS10.out.cells (show q < n + 1 + 1 by omega)).2.1
              have f9 := HS10.out.frozen (q * 3 + 1)
              have HFIN := Lib.hid (show ∀ (w9 : World) (A : Nat → Sm), StRows w w.heap.size w9 (some ⟨gh, 0, none⟩) (n + 1 + 1) c4 D1 A (fS L (fun e => (up2 u a L.length q (L.map (up1 u a L.length)) e).2.2) Fq) →
                  StRows w w.heap.size (w9.setCell ⟨gh, n * 3 + 1, none⟩ (.int .i64 ((n : Int) + 1))) (some ⟨gh, 0, none⟩) (n + 1 + 1) c4 (dOf (machK t (k + 1))) A (tE (machK t (k + 1))) from fun w9 A h9 => by
                have hn := HNL.out
                have g2 := h9.setN (i := n) (j := 1) (v := (n : Int) + 1) (D' := dOf (machK t (k + 1))) (by omega) (by omega) (fun e he hne => ?_) (by
                  rw [HST.out, (split_rows (by omega)).1, if_neg (by omega), if_pos hn, HUL.out, HD1.out, dT, if_neg (by omega), dS, if_neg (by omega), if_pos hn, ← hn]
                  rfl)
                · refine g2.congr (fun _ _ => rfl) (fun e he => ?_)
                  rw [HST.out, (split_rows (by omega)).2.1]
                  have h5 : tE (L.map (up1 u a L.length)) q = Fq := by rw [tE, map_st hqL]; exact HFQ.out
                  rw [h5]
                · rw [HST.out, (split_rows (by omega)).1, HD1.out, dT]
                  by_cases h : e < L.length
                  · rw [if_pos h]
                    by_cases hq : e = q
                    · subst hq
                      rw [if_pos rfl, if_pos rfl, hn]; rfl
                    · rw [if_neg hq, if_neg hq, dS_lt h, dOf]
                  · rw [if_neg h, if_neg (by omega), if_neg (by omega), dS, if_neg h, if_neg (by omega), HHM.out, HKQ.out])
              have HLN := Lib.hid (show n + 1 + 1 = (machK t (k + 1)).length by rw [HST.out, split_len, ← HNL.out])
              have HLW := Lib.hid (show n < n + 1 + 1 ∧ tW (machK t (k + 1)) n = t.take (k + 1) from ⟨by omega, by rw [HST.out, HUN.out]; have h := (split_rows (u := u) (L := L) (a := a) (p := i) (q := q) (i := 0) (by omega)).2.2; rw [← HNL.out] at h; exact h⟩)
              have HPC := Lib.hid (show ∀ e, e < L.length → tW L e <:+ u → (tW L e).length ≤ m → pcIn u (tW L e ++ [a]) from fun e he h1 h2 => path_on HTOP.out.path HTOP.out.pc h1 (by rw [HHM.out]; exact h2))
              have HP0 := Lib.hid (show ((i : Int) = -1 ∧ m + 1 = 0) ∨ ∃ j : Nat, j < n ∧ (i : Int) = j ∧ tW L j <:+ u ∧ (tW L j).length ≤ m ∧ m + 1 = (tW L j).length + 1 from .inr ⟨i, hi, rfl, HPI.out, by rw [HHM.out]; exact Nat.le_refl _, by rw [HHM.out]⟩)
              /- what stands behind the last loop: the link of the new state is read off the state from which the loops began -/
              obtain ⟨Fx, hFx⟩ : ∃ F, (up2 u a L.length q (L.map (up1 u a L.length)) i).2.2 = F := ⟨_, rfl⟩
              have HFX := Lib.hid hFx
              have HXT := Lib.hid (show toE Fx (a.toNat : Int) = (n : Int) + 1 by
                have h := up2_top (n := L.length) HTOP.out HQT.out
                rw [hFx] at h
                rw [h, ← HNL.out]; omega)
              have hfx9 : Fx.length ≤ 258 := by rw [← hFx]; exact up2_most HM.out hiL
              have HEND := Lib.hid (show ∀ (w9 : World) (A : Nat → Sm), StRows w w.heap.size w9 (some ⟨gh, 0, none⟩) (n + 1 + 1) c4 D1 A (fS L (fun e => (up2 u a L.length q (L.map (up1 u a L.length)) e).2.2) Fq) →
                  ∃ ax nx cx, w9.cell? ⟨gh, i * 3 + 2, none⟩ = some (.slice ax nx cx) ∧ nx = Fx.length ∧ CellsAt w9 ax (pairsC Fx) ∧ (∃ v, w9.cell? ⟨gh, n * 3 + 1, none⟩ = some (.int .i64 v)) ∧ w9.frozen? ⟨gh, n * 3 + 1, none⟩ = false from fun w9 A h9 => by
                have h1 := (h9.cells (show i < n + 1 + 1 by omega)).2.2
                have h2 := h9.one (show i < n + 1 + 1 by omega)
                rw [fS_lt hiL, HFX.out] at h2
                exact ⟨_, _, _, h1, pairs_len h2.own, h2.at_, ⟨_, (h9.cells (show n < n + 1 + 1 by omega)).2.1⟩, h9.frozen _⟩)
              clear h3 o3 g4 s4 f4 h4 hB1 hB2 q1 r1 r2 r3 HS8 HK9 HF9 HOQ B3 hD1 hFx HS10 cSO
              go_wp2
              go_loopw [11] (fun p_ wr => ∃ (h : Nat) (p : Int) (A : Nat → Sm), p_ = .int .i64 p ∧ Hid ((p = -1 ∧ h = 0) ∨ ∃ j : Nat, j < n ∧ p = j ∧ tW L j <:+ u ∧ (tW L j).length ≤ m ∧ h = (tW L j).length + 1) ∧ Hid (StRows w w.heap.size wr (some ⟨gh, 0, none⟩) (n + 1 + 1) c4 D1 A (fS L (edG u L a q h) Fq))) (fun p_ _ => if intOf p_ < 0 then 0 else (tW L (intOf p_).toNat).length + 1)
              case atStart => exact ⟨m + 1, (i : Int), B0, rfl, HP0, HS11⟩
              case round =>
                clear HS11 HP0 m9 f9
                obtain ⟨h, p, A2, rfl, HP, HS⟩ := hrel
                have z8 : (0 : Int) ≤ (n : Int) := by omega
                have z9 : (n : Int) < (n : Int) + 1 + 1 := by omega
                have z10 : (i : Int) < (n : Int) + 1 + 1 := by omega
                have z11 : (n : Int) < ((n + 1 + 1 : Nat) : Int) := by omega
                have z12 : (i : Int) < ((n + 1 + 1 : Nat) : Int) := by omega
                rcases HP.out with ⟨rfl, rfl⟩ | ⟨j, hj, rfl, hpj, hle, rfl⟩
                · have HSE := Lib.hid (HS.out.congr (F' := fS L (fun e => (up2 u a L.length q (L.map (up1 u a L.length)) e).2.2) Fq) (fun _ _ => rfl) (fun e he => by
                    by_cases h : e < L.length
                    · rw [fS_lt h, fS_lt h, edG_zero h]
                    · rw [fS, if_neg h, fS, if_neg h]))
                  obtain ⟨ax, nx, cx, k3, hnx, hatx, ⟨v9, k4⟩, k5⟩ := HEND.out wr A2 HSE.out
                  have cX := implBy_any Fx (a.toNat : Int) ax nx cx wr hnx (by omega) hatx
                  rw [HXT.out] at cX
                  have HG2 := Lib.hid (HFIN.out wr A2 HSE.out)
                  clear HS HP HSE hnx hatx
                  go_wp2_with fail
                  refine cX.mono ?_
                  rintro e w11 ⟨rfl, rfl⟩
                  clear cX
                  go_wp2
                  go_roundw
                  case rel => exact ⟨k + 1, n + 1 + 1, n, gh, c4, A2, by omega, by go_num, rfl, by go_num, HLN, HLW, HG2⟩
                  case measure => simp [intOf]; omega
                · have hjL : j < L.length := by have := HNL.out; omega
                  have hpcj := HPC.out j hjL hpj hle
                  obtain ⟨q2, hq2, e1, _⟩ := HM.out.inv.yes j hjL a hpcj
                  have hjq : j ≠ q := fun e => by subst e; have := HMQ.out; omega
                  have hcell := HS.out.cells (show j < n + 1 + 1 by omega)
                  have hone := HS.out.one (show j < n + 1 + 1 by omega)
                  rw [HD1.out, dT_ne hjL hjq, dOf] at hcell
                  rw [fS_lt hjL, edG_below hpcj (Nat.lt_succ_self _)] at hone
                  obtain ⟨aj, nj, cj, hAj⟩ : ∃ a n c, A2 j = (a, n, c) := ⟨_, _, _, rfl⟩
                  rw [hAj] at hcell hone
                  have hnj : nj = (tE L j).length := pairs_len hone.own
                  have hnc : nj ≤ cj := hone.cap.1
                  have hfew := edges_few HM.out hjL
                  obtain ⟨m2, hm2⟩ : ∃ m, (tW L j).length = m := ⟨_, rfl⟩
                  obtain ⟨k2, hk2⟩ : ∃ x, tK L j = x := ⟨_, rfl⟩
                  rw [hm2, hk2] at hcell
                  have q2' := hcell.2.1
                  have q3 : wr.cell? ⟨gh, j * 3 + 2, none⟩ = some (.slice aj nj cj) := hcell.2.2
                  have HCE := Lib.hid hone.at_
                  have cT := implBy_any (tE L j) (a.toNat : Int) aj nj cj wr hnj (by omega) HCE.out
                  rw [show toE (tE L j) (a.toNat : Int) = (q2 : Int) from e1] at cT
                  have y4 : (0 : Int) ≤ (j : Int) := by omega
                  have y5 : (j : Int) < (n : Int) + 1 + 1 := by omega
                  have y6 : (j : Int) < ((n + 1 + 1 : Nat) : Int) := by omega
                  have hnj9 : nj ≤ 256 := by omega
                  have HNJ := Lib.hid hnj
                  have HAJ := Lib.hid hAj
                  have HJQ := Lib.hid hjq
                  clear hcell hone hnj hfew hAj hjq
                  by_cases heq : q2 = q
                  · subst heq
                    obtain ⟨R, hR⟩ : ∃ R, setE (tE L j) (a.toNat : Int) ((n : Int) + 1) = R := ⟨_, rfl⟩
                    have cS := fun w' hat => implWith_any (tE L j) (a.toNat : Int) ((n : Int) + 1) R aj nj cj w' hR HNJ.out (by omega) hnc hat
                    have HRF := Lib.hid (show fS L (edG u L a q2 m2) Fq j = R by
                      rw [fS_lt hjL, ← hm2, edG_one hpj hpcj e1, ← HNL.out, show ((n + 1 : Nat) : Int) = (n : Int) + 1 by omega]; exact hR)
                    have HOTH := Lib.hid (show ∀ e, e < n + 1 + 1 → e ≠ j → fS L (edG u L a q2 m2) Fq e = fS L (edG u L a q2 (m2 + 1)) Fq e from fun e he hne => by
                      by_cases h : e < L.length
                      · rw [fS_lt h, fS_lt h, ← hm2]; exact edG_other HM.out hjL h hpj hne
                      · rw [fS, if_neg h, fS, if_neg h])
                    have t6 : ((q2 : Int) == (q2 : Int)) = true := by rw [beq_iff_eq]
                    have HCASE : (k2 = -1 ∧ j = 0) ∨ ∃ j' : Nat, j' < n ∧ k2 = j' ∧ tW L j' <:+ u ∧ (tW L j').length < m2 ∧ ∀ e, e < L.length → tW L e <:+ u → (tW L e).length < m2 → (tW L e).length ≤ (tW L j').length := by
                      rcases Nat.eq_zero_or_pos j with h0 | h0
                      · subst h0
                        exact .inl ⟨by rw [← hk2]; exact HM.out.inv.k0, rfl⟩
                      · obtain ⟨j', hj', e1, e2, e3, e4⟩ := path_link HM.out hjL h0 hpj
                        rw [hm2] at e3 e4
                        exact .inr ⟨j', by have := HNL.out; omega, by rw [← hk2, e1], e2, e3, e4⟩
                    have HCASE := Lib.hid HCASE
                    have HM2 := Lib.hid hm2
                    have HK2 := Lib.hid hk2
                    have HLE := Lib.hid hle
                    rw [hm2] at HS
                    clear hR hk2 hm2 HP hpcj hpj e1 hle
                    go_wp2_with fail
                    refine cT.mono ?_
                    rintro e w7 ⟨rfl, rfl⟩
                    clear cT q2'
                    go_wp2_with fail
                    refine (cS _ HCE.out).mono ?_
                    rintro e w8 ⟨a8, n8, c8, rfl, o8⟩
                    have hs8 := HS.out.later o8.below
                    have x8 := (hs8.cells (show j < n + 1 + 1 by omega)).2.2
                    have y8 := hs8.frozen (j * 3 + 2)
                    obtain ⟨A9, hA1, hA2⟩ : ∃ A9 : Nat → Sm, A9 j = (a8, n8, c8) ∧ ∀ e, e ≠ j → A9 e = A2 e := ⟨fun e => if e = j then (a8, n8, c8) else A2 e, by simp, fun e he => by simp [he]⟩
                    have hs9 := HS.out.put (i := j) (A' := A9) (F' := fS L (edG u L a q2 m2) Fq) (by omega) (by rw [HRF.out]; exact o8) hA1 (fun e he hne => ⟨hA2 e hne, HOTH.out e he hne⟩)
                    have k9 := (hs9.cells (show j < n + 1 + 1 by omega)).2.1
                    rw [HD1.out, dT_ne hjL HJQ.out] at k9
                    replace k9 : (w8.setCell ⟨gh, j * 3 + 2, none⟩ (.slice a8 n8 c8)).cell? ⟨gh, j * 3 + 1, none⟩ = some (.int .i64 k2) := by rw [← HK2.out]; exact k9
                    have HS9 := Lib.hid hs9
                    clear hs8 hs9 o8 hA1 hA2 cS q3
                    go_wp2
                    go_roundw
                    case rel =>
                      rcases HCASE.out with ⟨e1, e2⟩ | ⟨j', hj', e1, e2, e3, e4⟩
                      · have hm0 : m2 = 0 := by rw [← HM2.out, e2, HM.out.inv.w0]; rfl
                        rw [hm0] at HS9
                        exact ⟨0, k2, A9, rfl, Lib.hid (.inl ⟨e1, rfl⟩), HS9⟩
                      · refine ⟨(tW L j').length + 1, k2, A9, rfl, Lib.hid (.inr ⟨j', hj', e1, e2, by have := HLE.out; have := HM2.out; omega, rfl⟩), Lib.hid (HS9.out.congr (fun _ _ => rfl) (fun e he => ?_))⟩
                        by_cases h : e < L.length
                        · rw [fS_lt h, fS_lt h, ← HM2.out]
                          exact edG_link h (by rw [HM2.out]; exact e3) (by rw [HM2.out]; exact e4)
                        · rw [fS, if_neg h, fS, if_neg h]
                    case measure =>
                      have h1 := HM2.out
                      rcases HCASE.out with ⟨e1, e2⟩ | ⟨j', hj', e1, e2, e3, e4⟩
                      · have x1 : ¬ (j : Int) < 0 := by omega
                        simp only [intOf, e1]
                        first
                          | (rw [if_pos (by decide), if_neg x1]; omega)
                          | (simp [x1])
                          | (simp [x1]; omega)
                      · have x1 : ¬ (j : Int) < 0 := by omega
                        have x2 : ¬ (j' : Int) < 0 := by omega
                        simp [intOf, e1, h1, x1, x2]
                        omega
                  · have t6 : ((q2 : Int) == (q : Int)) = false := beq_eq_false_iff_ne.2 (by omega)
                    have HSE := Lib.hid (HS.out.congr (F' := fS L (fun e => (up2 u a L.length q (L.map (up1 u a L.length)) e).2.2) Fq) (fun _ _ => rfl) (fun e he => by
                      by_cases h : e < L.length
                      · rw [fS_lt h, fS_lt h, edG_done HM.out HTOP.out HQT.out hjL hpj hpcj (by rw [show tT L j a = (q2 : Int) from e1]; omega) h]
                      · rw [fS, if_neg h, fS, if_neg h]))
                    obtain ⟨ax, nx, cx, k3, hnx, hatx, ⟨v9, k4⟩, k5⟩ := HEND.out wr A2 HSE.out
                    have cX := implBy_any Fx (a.toNat : Int) ax nx cx wr hnx (by omega) hatx
                    rw [HXT.out] at cX
                    have HG2 := Lib.hid (HFIN.out wr A2 HSE.out)
                    clear heq HP hpcj hpj e1 hle hm2 hk2 hnc HS HSE hnx hatx
                    go_wp2_with fail
                    refine cT.mono ?_
                    rintro e w7 ⟨rfl, rfl⟩
                    clear cT q2' q3
                    go_wp2_with fail
                    refine cX.mono ?_
                    rintro e w11 ⟨rfl, rfl⟩
                    clear cX
                    go_wp2
                    go_roundw
                    case rel => exact ⟨k + 1, n + 1 + 1, n, gh, c4, A2, by omega, by go_num, rfl, by go_num, HLN, HLW, HG2⟩
                    case measure => simp [intOf]; omega
          · have t1 : ((i : Int) == p) = false := beq_eq_false_iff_ne.2 hxp
            have t1' : ((i : Int) != p) = true := by rw [bne, t1]; rfl
            have hnp : ¬ pcIn u (tW L i ++ [a]) := fun e => by
              rcases HTOPS.out with ⟨_, e1⟩ | ⟨j2, e1, e2⟩
              · exact e1 i hiL hpi e
              · have h1 := e2.top i hiL hpi e
                have h2 := hjp j2 e1
                have h3 := HM.out.same_len hiL e2.lt hpi e2.path (by omega)
                subst h3
                exact hxp e1.symm
            obtain ⟨R, hR⟩ : ∃ R, setE (tE L i) (a.toNat : Int) (n : Int) = R := ⟨_, rfl⟩
            have cS := fun w' hat => implWith_any (tE L i) (a.toNat : Int) (n : Int) R ai ni ci w' hR HNI.out (by omega) hnc hat
            have HRF := Lib.hid (show fM L (edH u L a m) i = R by rw [fM_lt hiL, ← hm, edH_one hpi hnp, ← HNL.out]; exact hR)
            have HOTH := Lib.hid (show ∀ e, e < n + 1 → e ≠ i → fM L (edH u L a m) e = fM L (edH u L a (m + 1)) e from fun e he hne => by
              by_cases h : e < L.length
              · rw [fM_lt h, fM_lt h, ← hm]; exact edH_other HM.out hiL h hpi hne
              · rw [fM, if_neg h, fM, if_neg h])
            have HCASE : (kk = -1 ∧ i = 0 ∧ p = -1) ∨ ∃ j : Nat, j < n ∧ kk = j ∧ tW L j <:+ u ∧ (tW L j).length < m ∧ (∀ e, e < L.length → tW L e <:+ u → (tW L e).length < m → (tW L e).length ≤ (tW L j).length) ∧ ∀ j2 : Nat, p = (j2 : Int) → (tW L j2).length ≤ (tW L j).length := by
              rcases Nat.eq_zero_or_pos i with h0 | h0
              · subst h0
                refine .inl ⟨by rw [← hkk]; exact HM.out.inv.k0, rfl, ?_⟩
                rcases HTOPS.out with ⟨e1, _⟩ | ⟨j2, e1, e2⟩
                · exact e1
                · have h1 := hjp j2 e1
                  have h4 : (tW L 0).length = 0 := by rw [HM.out.inv.w0]; rfl
                  have h3 := HM.out.same_len hiL e2.lt hpi e2.path (by omega)
                  subst h3
                  exact absurd e1.symm hxp
              · obtain ⟨j, hj, e1, e2, e3, e4⟩ := path_link HM.out hiL h0 hpi
                refine .inr ⟨j, by have := HNL.out; omega, by rw [← hkk, e1], e2, by rw [← hm]; exact e3, by rw [← hm]; exact e4, fun j2 hj2 => ?_⟩
                rcases HTOPS.out with ⟨g1, _⟩ | ⟨j3, g1, g2⟩
                · omega
                · obtain rfl : j2 = j3 := by omega
                  refine e4 j2 g2.lt g2.path ?_
                  rcases Nat.lt_or_ge (tW L j2).length (tW L i).length with h5 | h5
                  · exact h5
                  · have h6 := hjp j2 g1
                    have h7 := HM.out.same_len hiL g2.lt hpi g2.path (by omega)
                    subst h7
                    exact absurd g1.symm hxp
            have HCASE := Lib.hid HCASE
            have HHM := Lib.hid hm
            have HKK := Lib.hid hkk
            rw [hm] at HS
            clear hR hkk hnp hm HP hjp hxp
            go_wp2_with fail
            refine (cS _ HCE.out).mono ?_
            rintro e w8 ⟨a8, n8, c8, rfl, o8⟩
            have hs8 := HS.out.later o8.below
            have x8 := (hs8.cells (show i < n + 1 by omega)).2.2
            have y8 := hs8.frozen (i * 3 + 2)
            obtain ⟨A9, hA1, hA2⟩ : ∃ A9 : Nat → Sm, A9 i = (a8, n8, c8) ∧ ∀ e, e ≠ i → A9 e = A e := ⟨fun e => if e = i then (a8, n8, c8) else A e, by simp, fun e he => by simp [he]⟩
            have hs9 := HS.out.put (i := i) (A' := A9) (F' := fM L (edH u L a m)) (by omega) (by rw [HRF.out]; exact o8) hA1 (fun e he hne => ⟨hA2 e hne, HOTH.out e he hne⟩)
            have k9 := (hs9.cells (show i < n + 1 by omega)).2.1
            rw [dM_lt hiL] at k9
            replace k9 : (w8.setCell ⟨gg, i * 3 + 2, none⟩ (.slice a8 n8 c8)).cell? ⟨gg, i * 3 + 1, none⟩ = some (.int .i64 kk) := by rw [← HKK.out]; exact k9
            have HS9 := Lib.hid hs9
            clear hs8 hs9 o8 hA1 hA2 cS q1 q2 q3
            go_wp2
            go_roundw
            case rel =>
              rcases HCASE.out with ⟨e1, e2, e3⟩ | ⟨j, hj, e1, e2, e3, e4, e5⟩
              · have hm0 : m = 0 := by rw [← HHM.out, e2, HM.out.inv.w0]; rfl
                rw [hm0] at HS9
                exact ⟨0, kk, A9, rfl, Lib.hid (.inl ⟨e1, rfl, e3⟩), HS9⟩
              · refine ⟨(tW L j).length + 1, kk, A9, rfl, Lib.hid (.inr ⟨j, hj, e1, e2, rfl, e5⟩), Lib.hid (HS9.out.congr (fun _ _ => rfl) (fun e he => ?_))⟩
                by_cases h : e < L.length
                · rw [fM_lt h, fM_lt h, ← HHM.out]
                  exact edH_link h (by rw [HHM.out]; exact e3) (by rw [HHM.out]; exact e4)
                · rw [fM, if_neg h, fM, if_neg h]
            case measure =>
              have h1 := HHM.out
              rcases HCASE.out with ⟨e1, e2, e3⟩ | ⟨j, hj, e1, e2, e3, e4, e5⟩
              · have x1 : ¬ (i : Int) < 0 := by omega
                simp only [intOf, e1]
                first
                  | (rw [if_pos (by decide), if_neg x1]; omega)
                  | (simp [x1])
                  | (simp [x1]; omega)
              · have x1 : ¬ (i : Int) < 0 := by omega
                have x2 : ¬ (j : Int) < 0 := by omega
                simp [intOf, e1, h1, x1, x2]
                omega
    · have HE := Lib.hid (show k = t.length by have := HSZ.out; omega)
      have HFIN := Lib.hid (show StRows w w.heap.size wr (some ⟨g, 0, none⟩) (machL t).length c (dOf (machL t)) A (tE (machL t)) by
        have h := HS.out
        have hn := HN.out
        rw [HE.out] at h hn
        rw [hn] at h
        exact h)
      have HN2 := Lib.hid (show n = (machL t).length by have hn := HN.out; rw [HE.out] at hn; exact hn)
      clear HS HLA HN
      go_wp2
      go_ret
      exact ⟨g, c, A, by rw [← HN2.out]; rfl, HFIN.out⟩

end Go.Proofs.Ytehppjilnacjlaa
