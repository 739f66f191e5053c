/-
  The walks of the laws MachineOf and AnyMachineOf: each answers true, and nothing that was there is written. No conditions. (Written by wip/tools/ch9_laws.py.)
-/
import Derived.Test.YtehppjilnacjlaaHelpQ
import Derived.Test.YtehppjilnacjlaaDraw9
import Derived.Test.YtehppjilnacjlaaMachI
import Derived.Test.YtehppjilnacjlaaPcsM
namespace Go.Proofs.Ytehppjilnacjlaa
open Go.RowKit

def sumT (L : List Sta) (k : Nat) : Nat := ((List.range k).map fun i => (tE L i).length).sum
theorem sumT_next (L : List Sta) (k : Nat) : sumT L (k + 1) = sumT L k + (tE L k).length := by
  rw [sumT, List.range_succ, List.map_append, List.sum_append]; simp [sumT]
theorem sumT_le {u : Wd} {L : List Sta} (h : MInv u L) {k : Nat} (hk : k ≤ L.length) : sumT L k ≤ k * 256 := by
  induction k with
  | zero => exact Nat.le_refl _
  | succ k ih =>
    have h1 := ih (by omega)
    have h2 := edges_few h (i := k) (by omega)
    rw [sumT_next]; omega
theorem edge_less {L : List (Int × Int)} (h : L.Pairwise (fun p q => p.1 < q.1)) {p : Nat} (hp : p + 1 < L.length) : L[p].1 < L[p + 1].1 := List.pairwise_iff_getElem.1 h p (p + 1) (by omega) hp (by omega)

set_option maxRecDepth 4000 in
set_option maxHeartbeats 8000000 in
theorem walkFnMachineOf (a : Option Addr) (len cap : Nat) (zs : List Int) (w : World) (h : IsRowK .u8 w a len cap zs) :
    Calls Try.prog 3 #[.slice a len cap] w fun e w' => e = .returned (.bool true) ∧ Below w.heap.size w w' := by
  by_cases hs : 1048576 < len
  · have h2 : (1048576 : Int) < (len : Int) := by omega
    go_enter Try.func3, Try.ntmps3
    go_wp2
    go_ret
    exact ⟨rfl, Below.refl _ _⟩
  go_enter Try.func3, Try.ntmps3
  go_wp2_with fail
  refine (DrawMachineOf_any _ _ _ _ _ h).mono ?_
  rintro e w0 ⟨s, hs9, rfl, BB⟩
  clear h hs
  have hul : s.data.toList.length = s.size := rfl
  have c1 := fun w => implMach_any s w (by omega)
  have c2 := fun w => specMach_any s w (by omega)
  obtain ⟨u, hu⟩ : ∃ u, s.data.toList = u := ⟨_, rfl⟩
  rw [hu] at hul c1 c2
  have hi := machL_inv u
  have hmost := mach_most u (by omega)
  have hsmall := mach_small u
  have hl9 : (machL u).length ≤ 2001 := by
    have h := machK_len u u.length (Nat.le_refl _)
    unfold machL
    by_cases h2 : u.length ≤ 2
    · have := h.1 h2; omega
    · have := h.2 (by omega); omega
  obtain ⟨L, hL⟩ : ∃ L, machL u = L := ⟨_, rfl⟩
  rw [hL] at c1 c2 hi hl9 hsmall
  have HSM := Lib.hid (show 3 ≤ s.size → L.length + 1 ≤ 2 * s.size ∧ sumT L L.length + 4 ≤ 3 * s.size from fun h => by
    have h1 := hsmall (by omega)
    rw [allE_len] at h1
    rw [hul] at h1
    exact h1)
  have HI := Lib.hid hi
  have HFEW := Lib.hid (mach_few9 hi)
  obtain ⟨n, hn⟩ : ∃ n, L.length = n := ⟨_, rfl⟩
  have HN := Lib.hid hn
  have h0 : 0 < n := by have := hi.inv.pos; omega
  have HB := Lib.hid BB
  clear hul hu hL hi hmost hsmall hn BB
  go_wp2_with fail
  refine (c1 _).mono ?_
  rintro e w1 ⟨g, c, A, rfl, hS1⟩
  have S1 := Lib.hid hS1
  clear c1 hS1
  go_wp2_with fail
  refine (c2 _).mono ?_
  rintro e w2 ⟨g2, c2', A2, rfl, hS2⟩
  have cS := sameStates_same (datL L) (some ⟨g, 0, none⟩) (some ⟨g2, 0, none⟩) L.length c c2' A A2 w2 (datL_len _).symm (by have := HN.out; omega) HFEW.out (S1.out.later hS2.outer.below).at_ hS2.at_
  have S2 := Lib.hid (S1.out.later hS2.outer.below)
  have HB2 := Lib.hid (HB.out.trans ((S1.out.outer.below.trans (hS2.outer.below.mono S1.out.outer.below.size)).mono HB.out.size))
  clear c2 hS2 S1 HB
  go_wp2_with fail
  refine cS.mono ?_
  rintro e w3 ⟨rfl, q3, rfl⟩
  have S3 := Lib.hid (S2.out.later (below_drewN' (Below.refl _ _) q3))
  have HB3 := Lib.hid (below_drewN' HB2.out q3)
  clear cS S2 HB2
  generalize w2.drewN q3 = w4 at S3 HB3 ⊢
  rw [HN.out] at S3
  have HB4 := Lib.hid (Below.refl w4.heap.size w4)
  have y0 : w4.cell? ⟨g, 0, none⟩ = some (.int .i64 0) := by
    have h := (S3.out.cells h0).1
    rw [dOf, HI.out.inv.w0] at h
    simpa using h
  have y1 : w4.cell? ⟨g, 1, none⟩ = some (.int .i64 (-1)) := by
    have h := (S3.out.cells h0).2.1
    rw [dOf, show tK L 0 = -1 from HI.out.inv.k0] at h
    simpa using h
  have t0 : ¬ ((n : Int) < 1) := by omega
  have z0 : (0 : Int) < (n : Int) := by omega
  rw [HN.out]
  go_wp2
  clear y0 y1 t0
  go_loopw [5, 6] (fun s_ k_ wr => ∃ k v : Nat, k ≤ n ∧ v ≤ k * 256 ∧ s_ = .int .i64 (v : Int) ∧ k_ = .int .i64 (k : Int) ∧ Hid (v = sumT L k) ∧ Hid (Below w4.heap.size w4 wr)) (fun _ k_ _ => n - (intOf k_).toNat)
  case atStart => exact ⟨0, 0, Nat.zero_le _, Nat.zero_le _, rfl, rfl, Lib.hid rfl, HB4⟩
  case round =>
    clear HB4
    obtain ⟨k, v, hk, hv, rfl, rfl, HV, HB⟩ := hrel
    by_cases hlt : k < n
    · have hkL : k < L.length := by have := HN.out; omega
      have hs := S3.out.later HB.out
      obtain ⟨ax, nx, cx, hA⟩ : ∃ a n c, A k = (a, n, c) := ⟨_, _, _, rfl⟩
      obtain ⟨d1, hd1⟩ : ∃ d : Nat, (tW L k).length = d := ⟨_, rfl⟩
      obtain ⟨d2, hd2⟩ : ∃ d, tK L k = d := ⟨_, rfl⟩
      obtain ⟨q1, q2, q3'⟩ := hs.cells hlt
      have hone := hs.one hlt
      rw [hA] at q3' hone
      rw [dOf, hd1, hd2] at q1 q2
      replace q1 : wr.cell? ⟨g, k * 3, none⟩ = some (.int .i64 (d1 : Int)) := q1
      replace q2 : wr.cell? ⟨g, k * 3 + 1, none⟩ = some (.int .i64 d2) := q2
      replace q3' : wr.cell? ⟨g, k * 3 + 2, none⟩ = some (.slice ax nx cx) := q3'
      have hnx : nx = (tE L k).length := pairs_len hone.own
      have hfew := edges_few HI.out hkL
      have hnx9 : nx ≤ 256 := by omega
      have z1 : (0 : Int) ≤ (k : Int) := by omega
      have z2 : (k : Int) < (n : Int) := by omega
      have HNX := Lib.hid hnx
      have HSV := Lib.hid (show v + nx = sumT L (k + 1) by rw [sumT_next, ← HV.out, hnx])
      have HAT := Lib.hid hone.at_
      have HD1 := Lib.hid hd1
      have HD2 := Lib.hid hd2
      have v0 : IntKind.i64.wrap ((v : Int) + (nx : Int)) = (v : Int) + (nx : Int) := IntWalk.i64_in _ (by omega)
      clear hs hA hone hnx hfew hd1 hd2 HV
      go_wp2
      have ha := (Below.refl wr.heap.size wr).alloc (Nat.le_refl _) (.cells #[.int .i64 (d1 : Int), .int .i64 d2, .slice ax nx cx] 29)
      have S5 := Side.fresh (w := wr) (B := 0) (v := .slice none 0 0) 29 [.int .i64 (d1 : Int), .int .i64 d2, .slice ax nx cx] (Nat.zero_le _) (by intro k hk; simp [Value.ownBlock] at hk)
      obtain ⟨w5, hw5⟩ : ∃ w9, wr.alloc (.cells #[.int .i64 (d1 : Int), .int .i64 d2, .slice ax nx cx] 29) = w9 := ⟨_, rfl⟩
      obtain ⟨gx, hgx⟩ : ∃ g, wr.heap.size = g := ⟨_, rfl⟩
      replace S5 : Side w5 0 (.slice none 0 0) 29 gx [.int .i64 (d1 : Int), .int .i64 d2, .slice ax nx cx] := by rw [← hw5, ← hgx]; exact S5
      have HB5 := Lib.hid (show Below w4.heap.size w4 w5 by rw [← hw5]; exact HB.out.trans (ha.mono HB.out.size))
      have HAT5 := Lib.hid (show CellsAt w5 ax (pairsC (tE L k)) by rw [← hw5]; exact HAT.out.below ha)
      have HLONG := Lib.hid (show ∀ wz, Below w5.heap.size w5 wz → ∀ j, j < n → wz.cell? ⟨g, j * 3, none⟩ = some (.int .i64 ((tW L j).length : Int)) from fun wz hz j hj => by
        have h := ((S3.out.later HB5.out).later hz).cells hj
        exact h.1)
      rw [hw5, hgx]
      have HSD := Lib.hid S5
      clear ha hw5 hgx S5 q1 q2 q3' HAT HB
      have b0 := HSD.out.cell 0 _ rfl
      have b1 := HSD.out.cell 1 _ rfl
      have b2 := HSD.out.cell 2 _ rfl
      rcases Nat.eq_zero_or_pos k with hk0 | hk0
      · have g0 : ¬ ((k : Int) > 0) := by omega
        have g0' : decide (0 < (k : Int)) = false := decide_eq_false (by omega)
        go_quiet (fail)
        have W6 := Lib.hid (show ∃ q, w5.drewN nq = w5.drewN q from ⟨nq, rfl⟩)
        clear b0 b1 b2 
        generalize w5.drewN nq = w6 at W6 ⊢
        go_wp2
        go_loopw [8] (fun j_ wr => ∃ j : Nat, j ≤ nx ∧ j_ = .int .i64 (j : Int) ∧ Hid (∃ q, wr = w5.drewN q)) (fun j_ _ => nx - (intOf j_).toNat)
        case atStart => exact ⟨0, Nat.zero_le _, rfl, W6⟩
        case round =>
          clear W6
          obtain ⟨j, hj, rfl, HW⟩ := hrel
          have hsd : Side wr 0 (.slice none 0 0) 29 gx [.int .i64 (d1 : Int), .int .i64 d2, .slice ax nx cx] := by obtain ⟨q, hq⟩ := HW.out; rw [hq]; exact HSD.out.drewN q
          have b0 := hsd.cell 0 _ rfl
          have b1 := hsd.cell 1 _ rfl
          have b2 := hsd.cell 2 _ rfl
          by_cases hjl : j < nx
          · have hjE : j < (tE L k).length := by have := HNX.out; omega
            have hat : CellsAt wr ax (pairsC (tE L k)) := by obtain ⟨q, hq⟩ := HW.out; rw [hq]; exact HAT5.out.drewN q
            obtain ⟨be, oe, rfl, _, hce⟩ := hat.pair (fun e => by rw [e] at hjE; simp at hjE)
            obtain ⟨e1, e2⟩ := hce j hjE
            obtain ⟨sg, hsg⟩ : ∃ x, (tE L k)[j].1 = x := ⟨_, rfl⟩
            obtain ⟨to, hto, hto0, hton, htol⟩ := mach_edge (k := (tE L k)[j].1) (t := (tE L k)[j].2) HI.out hkL (List.getElem_mem hjE)
            rw [hto] at e2
            rw [hsg] at e1
            obtain ⟨lq, hlq⟩ : ∃ x : Nat, (tW L to).length = x := ⟨_, rfl⟩
            have e3 : wr.cell? ⟨g, to * 3, none⟩ = some (.int .i64 (lq : Int)) := by
              have h := HLONG.out wr (by obtain ⟨q, hq⟩ := HW.out; rw [hq]; exact below_drewN' (Below.refl _ _) q) to (by have := HN.out; omega)
              rw [hlq] at h
              exact h
            have u1 : ¬ ((to : Int) < 1) := by omega
            have u2 : ¬ ((to : Int) ≥ (n : Int)) := by have := HN.out; omega
            have u2' : (to : Int) < (n : Int) := by have := HN.out; omega
            have u3 : ¬ ((lq : Int) ≤ (d1 : Int)) := by have := HD1.out; omega
            have u4 : (0 : Int) ≤ (to : Int) := by omega
            have u5 : (0 : Int) ≤ (j : Int) := by omega
            have u6' : (j : Int) < (nx : Int) := by omega
            have w1' : decide ((to : Int) < 1) = false := decide_eq_false u1
            have w2' : decide ((n : Int) ≤ (to : Int)) = false := decide_eq_false (by omega)
            have w3' : decide ((lq : Int) ≤ (d1 : Int)) = false := decide_eq_false u3
            have m1' : decide (to < 1) = false := decide_eq_false (by omega)
            have m2' : decide (n ≤ to) = false := decide_eq_false (by omega)
            have m3' : decide (lq ≤ d1) = false := decide_eq_false (by omega)
            rcases Nat.eq_zero_or_pos j with hj0 | hj0
            · subst hj0
              clear hce hsg hto hlq hat hsd hjE hton htol
              go_wp2
              go_quiet (fail)
              have HW2 := Lib.hid (show ∃ q, wr.drewN nq = w5.drewN q by
                obtain ⟨q, hq⟩ := HW.out
                exact ⟨q + nq, by rw [hq, World.drewN_drewN]⟩)
              go_wp2
              go_roundw
              case rel => exact ⟨0 + 1, by omega, by go_num, HW2⟩
              case measure => simp [intOf]; omega
            · obtain ⟨p, rfl⟩ : ∃ p, j = p + 1 := ⟨j - 1, by omega⟩
              have hlt2 := edge_less (HI.out.asc k hkL) hjE
              obtain ⟨sp, hsp⟩ : ∃ x, (tE L k)[p].1 = x := ⟨_, rfl⟩
              have e5 := (hce p (by omega)).1
              rw [hsp] at e5
              rw [hsp, hsg] at hlt2
              have x1 : ((p : Int) + 1).toNat = p + 1 := by omega
              have x2 : (p : Int) + 1 - 1 = (p : Int) := by omega
              have x3 : IntKind.i64.wrap (p : Int) = (p : Int) := IntWalk.i64_in _ (by omega)
              have x4 : ¬ (sp ≥ sg) := by omega
              have w4' : decide (sg ≤ sp) = false := decide_eq_false (by omega)
              have x5 : (0 : Int) < (p : Int) + 1 := by omega
              have x6 : (0 : Int) ≤ (p : Int) + 1 := by omega
              have x7 : (p : Int) + 1 < (nx : Int) := by omega
              have x8 : (p : Int) < (nx : Int) := by omega
              have x9 : (0 : Int) ≤ (p : Int) := by omega
              clear hce hsg hto hlq hat hsd hjE hton htol hsp hlt2
              rw [show ((p + 1 : Nat) : Int) = (p : Int) + 1 by omega]
              go_wp2
              go_quiet (fail)
              have HW2 := Lib.hid (show ∃ q, wr.drewN nq = w5.drewN q by
                obtain ⟨q, hq⟩ := HW.out
                exact ⟨q + nq, by rw [hq, World.drewN_drewN]⟩)
              go_wp2
              go_roundw
              case rel => exact ⟨p + 1 + 1, by omega, by go_num, HW2⟩
              case measure => simp [intOf]; omega
          · have HB6 := Lib.hid (show Below w4.heap.size w4 wr by obtain ⟨q, hq⟩ := HW.out; rw [hq]; exact below_drewN' HB5.out q)
            clear hsd
            go_wp2
            go_roundw
            case rel => exact ⟨k + 1, v + nx, by omega, by omega, by go_num, by go_num, HSV, HB6⟩
            case measure => simp [intOf]; omega
      · obtain ⟨jl, hjl, el1, el2⟩ := mach_link HI.out hkL hk0
        obtain ⟨ll, hll⟩ : ∃ x : Nat, (tW L jl).length = x := ⟨_, rfl⟩
        obtain rfl : d2 = (jl : Int) := by rw [← HD2.out]; exact el1
        have l1 : w5.cell? ⟨g, jl * 3, none⟩ = some (.int .i64 (ll : Int)) := by
          have h := HLONG.out w5 (Below.refl _ _) jl (by have := HN.out; omega)
          rw [hll] at h
          exact h
        have g1 : (0 : Int) < (k : Int) := by omega
        have g2' : ¬ ((jl : Int) < 0) := by omega
        have g3 : ¬ ((jl : Int) ≥ (n : Int)) := by have := HN.out; omega
        have g4 : (jl : Int) < (n : Int) := by have := HN.out; omega
        have g5 : (0 : Int) ≤ (jl : Int) := by omega
        have g6 : ¬ ((ll : Int) ≥ (d1 : Int)) := by have := HD1.out; omega
        have f1 : decide ((jl : Int) < 0) = false := decide_eq_false g2'
        have f2 : decide ((n : Int) ≤ (jl : Int)) = false := decide_eq_false (by omega)
        have f3 : decide ((d1 : Int) ≤ (ll : Int)) = false := decide_eq_false (by omega)
        have f4 : decide (n ≤ jl) = false := decide_eq_false (by omega)
        have f5 : decide (d1 ≤ ll) = false := decide_eq_false (by omega)
        clear hjl el1 el2 hll
        go_quiet (fail)
        have W6 := Lib.hid (show ∃ q, w5.drewN nq = w5.drewN q from ⟨nq, rfl⟩)
        clear b0 b1 b2 l1
        generalize w5.drewN nq = w6 at W6 ⊢
        go_wp2
        go_loopw [8] (fun j_ wr => ∃ j : Nat, j ≤ nx ∧ j_ = .int .i64 (j : Int) ∧ Hid (∃ q, wr = w5.drewN q)) (fun j_ _ => nx - (intOf j_).toNat)
        case atStart => exact ⟨0, Nat.zero_le _, rfl, W6⟩
        case round =>
          clear W6
          obtain ⟨j, hj, rfl, HW⟩ := hrel
          have hsd : Side wr 0 (.slice none 0 0) 29 gx [.int .i64 (d1 : Int), .int .i64 (jl : Int), .slice ax nx cx] := by obtain ⟨q, hq⟩ := HW.out; rw [hq]; exact HSD.out.drewN q
          have b0 := hsd.cell 0 _ rfl
          have b1 := hsd.cell 1 _ rfl
          have b2 := hsd.cell 2 _ rfl
          by_cases hjl : j < nx
          · have hjE : j < (tE L k).length := by have := HNX.out; omega
            have hat : CellsAt wr ax (pairsC (tE L k)) := by obtain ⟨q, hq⟩ := HW.out; rw [hq]; exact HAT5.out.drewN q
            obtain ⟨be, oe, rfl, _, hce⟩ := hat.pair (fun e => by rw [e] at hjE; simp at hjE)
            obtain ⟨e1, e2⟩ := hce j hjE
            obtain ⟨sg, hsg⟩ : ∃ x, (tE L k)[j].1 = x := ⟨_, rfl⟩
            obtain ⟨to, hto, hto0, hton, htol⟩ := mach_edge (k := (tE L k)[j].1) (t := (tE L k)[j].2) HI.out hkL (List.getElem_mem hjE)
            rw [hto] at e2
            rw [hsg] at e1
            obtain ⟨lq, hlq⟩ : ∃ x : Nat, (tW L to).length = x := ⟨_, rfl⟩
            have e3 : wr.cell? ⟨g, to * 3, none⟩ = some (.int .i64 (lq : Int)) := by
              have h := HLONG.out wr (by obtain ⟨q, hq⟩ := HW.out; rw [hq]; exact below_drewN' (Below.refl _ _) q) to (by have := HN.out; omega)
              rw [hlq] at h
              exact h
            have u1 : ¬ ((to : Int) < 1) := by omega
            have u2 : ¬ ((to : Int) ≥ (n : Int)) := by have := HN.out; omega
            have u2' : (to : Int) < (n : Int) := by have := HN.out; omega
            have u3 : ¬ ((lq : Int) ≤ (d1 : Int)) := by have := HD1.out; omega
            have u4 : (0 : Int) ≤ (to : Int) := by omega
            have u5 : (0 : Int) ≤ (j : Int) := by omega
            have u6' : (j : Int) < (nx : Int) := by omega
            have w1' : decide ((to : Int) < 1) = false := decide_eq_false u1
            have w2' : decide ((n : Int) ≤ (to : Int)) = false := decide_eq_false (by omega)
            have w3' : decide ((lq : Int) ≤ (d1 : Int)) = false := decide_eq_false u3
            have m1' : decide (to < 1) = false := decide_eq_false (by omega)
            have m2' : decide (n ≤ to) = false := decide_eq_false (by omega)
            have m3' : decide (lq ≤ d1) = false := decide_eq_false (by omega)
            rcases Nat.eq_zero_or_pos j with hj0 | hj0
            · subst hj0
              clear hce hsg hto hlq hat hsd hjE hton htol
              go_wp2
              go_quiet (fail)
              have HW2 := Lib.hid (show ∃ q, wr.drewN nq = w5.drewN q by
                obtain ⟨q, hq⟩ := HW.out
                exact ⟨q + nq, by rw [hq, World.drewN_drewN]⟩)
              go_wp2
              go_roundw
              case rel => exact ⟨0 + 1, by omega, by go_num, HW2⟩
              case measure => simp [intOf]; omega
            · obtain ⟨p, rfl⟩ : ∃ p, j = p + 1 := ⟨j - 1, by omega⟩
              have hlt2 := edge_less (HI.out.asc k hkL) hjE
              obtain ⟨sp, hsp⟩ : ∃ x, (tE L k)[p].1 = x := ⟨_, rfl⟩
              have e5 := (hce p (by omega)).1
              rw [hsp] at e5
              rw [hsp, hsg] at hlt2
              have x1 : ((p : Int) + 1).toNat = p + 1 := by omega
              have x2 : (p : Int) + 1 - 1 = (p : Int) := by omega
              have x3 : IntKind.i64.wrap (p : Int) = (p : Int) := IntWalk.i64_in _ (by omega)
              have x4 : ¬ (sp ≥ sg) := by omega
              have w4' : decide (sg ≤ sp) = false := decide_eq_false (by omega)
              have x5 : (0 : Int) < (p : Int) + 1 := by omega
              have x6 : (0 : Int) ≤ (p : Int) + 1 := by omega
              have x7 : (p : Int) + 1 < (nx : Int) := by omega
              have x8 : (p : Int) < (nx : Int) := by omega
              have x9 : (0 : Int) ≤ (p : Int) := by omega
              clear hce hsg hto hlq hat hsd hjE hton htol hsp hlt2
              rw [show ((p + 1 : Nat) : Int) = (p : Int) + 1 by omega]
              go_wp2
              go_quiet (fail)
              have HW2 := Lib.hid (show ∃ q, wr.drewN nq = w5.drewN q by
                obtain ⟨q, hq⟩ := HW.out
                exact ⟨q + nq, by rw [hq, World.drewN_drewN]⟩)
              go_wp2
              go_roundw
              case rel => exact ⟨p + 1 + 1, by omega, by go_num, HW2⟩
              case measure => simp [intOf]; omega
          · have HB6 := Lib.hid (show Below w4.heap.size w4 wr by obtain ⟨q, hq⟩ := HW.out; rw [hq]; exact below_drewN' HB5.out q)
            clear hsd
            go_wp2
            go_roundw
            case rel => exact ⟨k + 1, v + nx, by omega, by omega, by go_num, by go_num, HSV, HB6⟩
            case measure => simp [intOf]; omega
    · obtain rfl : k = n := by omega
      have hsm := HSM.out
      have hv2 := HV.out
      rw [HN.out] at hsm
      have BB := Lib.hid (HB3.out.trans (HB.out.mono HB3.out.size))
      have z3 : ¬ ((k : Int) < (k : Int)) := by omega
      obtain ⟨m, hm⟩ : ∃ m, s.size = m := ⟨_, rfl⟩
      have HM := Lib.hid hm
      rw [hm] at hsm
      have hm9 : m ≤ 1000 := by omega
      clear hm HV HB
      by_cases h3 : m < 3
      · have HT := Lib.hid (show ((s.size : Nat) : Int) < 3 by rw [HM.out]; omega)
        have t3 := HT.out
        clear hsm hv2
        go_wp2_with fail
        refine (alive_any _).mono ?_
        rintro e wq ⟨rfl, rfl⟩
        go_wp2
        go_ret
        exact ⟨rfl, BB.out⟩
      · obtain ⟨s1, s2⟩ := hsm (by omega)
        rw [← hv2] at s2
        have HT := Lib.hid (show ¬ ((s.size : Nat) : Int) < 3 ∧ (k : Int) ≤ 2 * ((s.size : Nat) : Int) - 1 ∧ (v : Int) ≤ 3 * ((s.size : Nat) : Int) - 4 ∧ IntKind.i64.wrap (2 * ((s.size : Nat) : Int)) = 2 * ((s.size : Nat) : Int) ∧ IntKind.i64.wrap (2 * ((s.size : Nat) : Int) - 1) = 2 * ((s.size : Nat) : Int) - 1 ∧ IntKind.i64.wrap (3 * ((s.size : Nat) : Int)) = 3 * ((s.size : Nat) : Int) ∧ IntKind.i64.wrap (3 * ((s.size : Nat) : Int) - 4) = 3 * ((s.size : Nat) : Int) - 4 by
          rw [HM.out]
          exact ⟨by omega, by omega, by omega, IntWalk.i64_in _ (by omega), IntWalk.i64_in _ (by omega), IntWalk.i64_in _ (by omega), IntWalk.i64_in _ (by omega)⟩)
        obtain ⟨t3, t4, t5, t6, t7, t8, t9⟩ := HT.out
        clear hv2 s1 s2
        go_wp2_with fail
        refine (alive_any _).mono ?_
        rintro e wq ⟨rfl, rfl⟩
        go_wp2
        go_ret
        exact ⟨rfl, BB.out⟩

set_option maxRecDepth 4000 in
set_option maxHeartbeats 8000000 in
theorem walkFnAnyMachineOf (s : ByteArray) (w : World) (_ws : s.size ≤ maxLen) :
    Calls Try.prog 10 #[.string s] w fun e w' => e = .returned (.bool true) ∧ Below w.heap.size w w' := by
  by_cases hs : 1000 < s.size
  · have cb := fun w => bigText_is true s 1000 w (decide_eq_true (by omega))
    have BB : Below w.heap.size w w := Below.refl _ _
    go_enter Try.func10, Try.ntmps10
    go_wp2_with fail
    refine (cb _).mono ?_
    rintro e wq ⟨rfl, rfl⟩
    go_wp2_with fail
    refine (alive_any _).mono ?_
    rintro e wq ⟨rfl, rfl⟩
    go_wp2
    go_ret
    exact ⟨rfl, BB⟩
  have cbs := fun w => bigText_is false s 1000 w (decide_eq_false (by omega))
  have hs9 : s.size ≤ 1000 := by omega
  clear hs
  go_enter Try.func10, Try.ntmps10
  go_wp2_with fail
  refine (cbs _).mono ?_
  rintro e wq ⟨rfl, rfl⟩
  have BB : Below w.heap.size w w := Below.refl _ _
  clear cbs
  have hul : s.data.toList.length = s.size := rfl
  have c1 := fun w => implMach_any s w (by omega)
  have c2 := fun w => specMach_any s w (by omega)
  obtain ⟨u, hu⟩ : ∃ u, s.data.toList = u := ⟨_, rfl⟩
  rw [hu] at hul c1 c2
  have hi := machL_inv u
  have hmost := mach_most u (by omega)
  have hsmall := mach_small u
  have hl9 : (machL u).length ≤ 2001 := by
    have h := machK_len u u.length (Nat.le_refl _)
    unfold machL
    by_cases h2 : u.length ≤ 2
    · have := h.1 h2; omega
    · have := h.2 (by omega); omega
  obtain ⟨L, hL⟩ : ∃ L, machL u = L := ⟨_, rfl⟩
  rw [hL] at c1 c2 hi hl9 hsmall
  have HSM := Lib.hid (show 3 ≤ s.size → L.length + 1 ≤ 2 * s.size ∧ sumT L L.length + 4 ≤ 3 * s.size from fun h => by
    have h1 := hsmall (by omega)
    rw [allE_len] at h1
    rw [hul] at h1
    exact h1)
  have HI := Lib.hid hi
  have HFEW := Lib.hid (mach_few9 hi)
  obtain ⟨n, hn⟩ : ∃ n, L.length = n := ⟨_, rfl⟩
  have HN := Lib.hid hn
  have h0 : 0 < n := by have := hi.inv.pos; omega
  have HB := Lib.hid BB
  clear hul hu hL hi hmost hsmall hn BB
  go_wp2_with fail
  refine (c1 _).mono ?_
  rintro e w1 ⟨g, c, A, rfl, hS1⟩
  have S1 := Lib.hid hS1
  clear c1 hS1
  go_wp2_with fail
  refine (c2 _).mono ?_
  rintro e w2 ⟨g2, c2', A2, rfl, hS2⟩
  have cS := sameStates_same (datL L) (some ⟨g, 0, none⟩) (some ⟨g2, 0, none⟩) L.length c c2' A A2 w2 (datL_len _).symm (by have := HN.out; omega) HFEW.out (S1.out.later hS2.outer.below).at_ hS2.at_
  have S2 := Lib.hid (S1.out.later hS2.outer.below)
  have HB2 := Lib.hid (HB.out.trans ((S1.out.outer.below.trans (hS2.outer.below.mono S1.out.outer.below.size)).mono HB.out.size))
  clear c2 hS2 S1 HB
  go_wp2_with fail
  refine cS.mono ?_
  rintro e w3 ⟨rfl, q3, rfl⟩
  have S3 := Lib.hid (S2.out.later (below_drewN' (Below.refl _ _) q3))
  have HB3 := Lib.hid (below_drewN' HB2.out q3)
  clear cS S2 HB2
  generalize w2.drewN q3 = w4 at S3 HB3 ⊢
  rw [HN.out] at S3
  have HB4 := Lib.hid (Below.refl w4.heap.size w4)
  have y0 : w4.cell? ⟨g, 0, none⟩ = some (.int .i64 0) := by
    have h := (S3.out.cells h0).1
    rw [dOf, HI.out.inv.w0] at h
    simpa using h
  have y1 : w4.cell? ⟨g, 1, none⟩ = some (.int .i64 (-1)) := by
    have h := (S3.out.cells h0).2.1
    rw [dOf, show tK L 0 = -1 from HI.out.inv.k0] at h
    simpa using h
  have t0 : ¬ ((n : Int) < 1) := by omega
  have z0 : (0 : Int) < (n : Int) := by omega
  rw [HN.out]
  go_wp2
  clear y0 y1 t0
  go_loopw [4, 5] (fun s_ k_ wr => ∃ k v : Nat, k ≤ n ∧ v ≤ k * 256 ∧ s_ = .int .i64 (v : Int) ∧ k_ = .int .i64 (k : Int) ∧ Hid (v = sumT L k) ∧ Hid (Below w4.heap.size w4 wr)) (fun _ k_ _ => n - (intOf k_).toNat)
  case atStart => exact ⟨0, 0, Nat.zero_le _, Nat.zero_le _, rfl, rfl, Lib.hid rfl, HB4⟩
  case round =>
    clear HB4
    obtain ⟨k, v, hk, hv, rfl, rfl, HV, HB⟩ := hrel
    by_cases hlt : k < n
    · have hkL : k < L.length := by have := HN.out; omega
      have hs := S3.out.later HB.out
      obtain ⟨ax, nx, cx, hA⟩ : ∃ a n c, A k = (a, n, c) := ⟨_, _, _, rfl⟩
      obtain ⟨d1, hd1⟩ : ∃ d : Nat, (tW L k).length = d := ⟨_, rfl⟩
      obtain ⟨d2, hd2⟩ : ∃ d, tK L k = d := ⟨_, rfl⟩
      obtain ⟨q1, q2, q3'⟩ := hs.cells hlt
      have hone := hs.one hlt
      rw [hA] at q3' hone
      rw [dOf, hd1, hd2] at q1 q2
      replace q1 : wr.cell? ⟨g, k * 3, none⟩ = some (.int .i64 (d1 : Int)) := q1
      replace q2 : wr.cell? ⟨g, k * 3 + 1, none⟩ = some (.int .i64 d2) := q2
      replace q3' : wr.cell? ⟨g, k * 3 + 2, none⟩ = some (.slice ax nx cx) := q3'
      have hnx : nx = (tE L k).length := pairs_len hone.own
      have hfew := edges_few HI.out hkL
      have hnx9 : nx ≤ 256 := by omega
      have z1 : (0 : Int) ≤ (k : Int) := by omega
      have z2 : (k : Int) < (n : Int) := by omega
      have HNX := Lib.hid hnx
      have HSV := Lib.hid (show v + nx = sumT L (k + 1) by rw [sumT_next, ← HV.out, hnx])
      have HAT := Lib.hid hone.at_
      have HD1 := Lib.hid hd1
      have HD2 := Lib.hid hd2
      have v0 : IntKind.i64.wrap ((v : Int) + (nx : Int)) = (v : Int) + (nx : Int) := IntWalk.i64_in _ (by omega)
      clear hs hA hone hnx hfew hd1 hd2 HV
      go_wp2
      have ha := (Below.refl wr.heap.size wr).alloc (Nat.le_refl _) (.cells #[.int .i64 (d1 : Int), .int .i64 d2, .slice ax nx cx] 29)
      have S5 := Side.fresh (w := wr) (B := 0) (v := .slice none 0 0) 29 [.int .i64 (d1 : Int), .int .i64 d2, .slice ax nx cx] (Nat.zero_le _) (by intro k hk; simp [Value.ownBlock] at hk)
      obtain ⟨w5, hw5⟩ : ∃ w9, wr.alloc (.cells #[.int .i64 (d1 : Int), .int .i64 d2, .slice ax nx cx] 29) = w9 := ⟨_, rfl⟩
      obtain ⟨gx, hgx⟩ : ∃ g, wr.heap.size = g := ⟨_, rfl⟩
      replace S5 : Side w5 0 (.slice none 0 0) 29 gx [.int .i64 (d1 : Int), .int .i64 d2, .slice ax nx cx] := by rw [← hw5, ← hgx]; exact S5
      have HB5 := Lib.hid (show Below w4.heap.size w4 w5 by rw [← hw5]; exact HB.out.trans (ha.mono HB.out.size))
      have HAT5 := Lib.hid (show CellsAt w5 ax (pairsC (tE L k)) by rw [← hw5]; exact HAT.out.below ha)
      have HLONG := Lib.hid (show ∀ wz, Below w5.heap.size w5 wz → ∀ j, j < n → wz.cell? ⟨g, j * 3, none⟩ = some (.int .i64 ((tW L j).length : Int)) from fun wz hz j hj => by
        have h := ((S3.out.later HB5.out).later hz).cells hj
        exact h.1)
      rw [hw5, hgx]
      have HSD := Lib.hid S5
      clear ha hw5 hgx S5 q1 q2 q3' HAT HB
      have b0 := HSD.out.cell 0 _ rfl
      have b1 := HSD.out.cell 1 _ rfl
      have b2 := HSD.out.cell 2 _ rfl
      rcases Nat.eq_zero_or_pos k with hk0 | hk0
      · have g0 : ¬ ((k : Int) > 0) := by omega
        have g0' : decide (0 < (k : Int)) = false := decide_eq_false (by omega)
        go_quiet (fail)
        have W6 := Lib.hid (show ∃ q, w5.drewN nq = w5.drewN q from ⟨nq, rfl⟩)
        clear b0 b1 b2 
        generalize w5.drewN nq = w6 at W6 ⊢
        go_wp2
        go_loopw [7] (fun j_ wr => ∃ j : Nat, j ≤ nx ∧ j_ = .int .i64 (j : Int) ∧ Hid (∃ q, wr = w5.drewN q)) (fun j_ _ => nx - (intOf j_).toNat)
        case atStart => exact ⟨0, Nat.zero_le _, rfl, W6⟩
        case round =>
          clear W6
          obtain ⟨j, hj, rfl, HW⟩ := hrel
          have hsd : Side wr 0 (.slice none 0 0) 29 gx [.int .i64 (d1 : Int), .int .i64 d2, .slice ax nx cx] := by obtain ⟨q, hq⟩ := HW.out; rw [hq]; exact HSD.out.drewN q
          have b0 := hsd.cell 0 _ rfl
          have b1 := hsd.cell 1 _ rfl
          have b2 := hsd.cell 2 _ rfl
          by_cases hjl : j < nx
          · have hjE : j < (tE L k).length := by have := HNX.out; omega
            have hat : CellsAt wr ax (pairsC (tE L k)) := by obtain ⟨q, hq⟩ := HW.out; rw [hq]; exact HAT5.out.drewN q
            obtain ⟨be, oe, rfl, _, hce⟩ := hat.pair (fun e => by rw [e] at hjE; simp at hjE)
            obtain ⟨e1, e2⟩ := hce j hjE
            obtain ⟨sg, hsg⟩ : ∃ x, (tE L k)[j].1 = x := ⟨_, rfl⟩
            obtain ⟨to, hto, hto0, hton, htol⟩ := mach_edge (k := (tE L k)[j].1) (t := (tE L k)[j].2) HI.out hkL (List.getElem_mem hjE)
            rw [hto] at e2
            rw [hsg] at e1
            obtain ⟨lq, hlq⟩ : ∃ x : Nat, (tW L to).length = x := ⟨_, rfl⟩
            have e3 : wr.cell? ⟨g, to * 3, none⟩ = some (.int .i64 (lq : Int)) := by
              have h := HLONG.out wr (by obtain ⟨q, hq⟩ := HW.out; rw [hq]; exact below_drewN' (Below.refl _ _) q) to (by have := HN.out; omega)
              rw [hlq] at h
              exact h
            have u1 : ¬ ((to : Int) < 1) := by omega
            have u2 : ¬ ((to : Int) ≥ (n : Int)) := by have := HN.out; omega
            have u2' : (to : Int) < (n : Int) := by have := HN.out; omega
            have u3 : ¬ ((lq : Int) ≤ (d1 : Int)) := by have := HD1.out; omega
            have u4 : (0 : Int) ≤ (to : Int) := by omega
            have u5 : (0 : Int) ≤ (j : Int) := by omega
            have u6' : (j : Int) < (nx : Int) := by omega
            have w1' : decide ((to : Int) < 1) = false := decide_eq_false u1
            have w2' : decide ((n : Int) ≤ (to : Int)) = false := decide_eq_false (by omega)
            have w3' : decide ((lq : Int) ≤ (d1 : Int)) = false := decide_eq_false u3
            have m1' : decide (to < 1) = false := decide_eq_false (by omega)
            have m2' : decide (n ≤ to) = false := decide_eq_false (by omega)
            have m3' : decide (lq ≤ d1) = false := decide_eq_false (by omega)
            rcases Nat.eq_zero_or_pos j with hj0 | hj0
            · subst hj0
              clear hce hsg hto hlq hat hsd hjE hton htol
              go_wp2
              go_quiet (fail)
              have HW2 := Lib.hid (show ∃ q, wr.drewN nq = w5.drewN q by
                obtain ⟨q, hq⟩ := HW.out
                exact ⟨q + nq, by rw [hq, World.drewN_drewN]⟩)
              go_wp2
              go_roundw
              case rel => exact ⟨0 + 1, by omega, by go_num, HW2⟩
              case measure => simp [intOf]; omega
            · obtain ⟨p, rfl⟩ : ∃ p, j = p + 1 := ⟨j - 1, by omega⟩
              have hlt2 := edge_less (HI.out.asc k hkL) hjE
              obtain ⟨sp, hsp⟩ : ∃ x, (tE L k)[p].1 = x := ⟨_, rfl⟩
              have e5 := (hce p (by omega)).1
              rw [hsp] at e5
              rw [hsp, hsg] at hlt2
              have x1 : ((p : Int) + 1).toNat = p + 1 := by omega
              have x2 : (p : Int) + 1 - 1 = (p : Int) := by omega
              have x3 : IntKind.i64.wrap (p : Int) = (p : Int) := IntWalk.i64_in _ (by omega)
              have x4 : ¬ (sp ≥ sg) := by omega
              have w4' : decide (sg ≤ sp) = false := decide_eq_false (by omega)
              have x5 : (0 : Int) < (p : Int) + 1 := by omega
              have x6 : (0 : Int) ≤ (p : Int) + 1 := by omega
              have x7 : (p : Int) + 1 < (nx : Int) := by omega
              have x8 : (p : Int) < (nx : Int) := by omega
              have x9 : (0 : Int) ≤ (p : Int) := by omega
              clear hce hsg hto hlq hat hsd hjE hton htol hsp hlt2
              rw [show ((p + 1 : Nat) : Int) = (p : Int) + 1 by omega]
              go_wp2
              go_quiet (fail)
              have HW2 := Lib.hid (show ∃ q, wr.drewN nq = w5.drewN q by
                obtain ⟨q, hq⟩ := HW.out
                exact ⟨q + nq, by rw [hq, World.drewN_drewN]⟩)
              go_wp2
              go_roundw
              case rel => exact ⟨p + 1 + 1, by omega, by go_num, HW2⟩
              case measure => simp [intOf]; omega
          · have HB6 := Lib.hid (show Below w4.heap.size w4 wr by obtain ⟨q, hq⟩ := HW.out; rw [hq]; exact below_drewN' HB5.out q)
            clear hsd
            go_wp2
            go_roundw
            case rel => exact ⟨k + 1, v + nx, by omega, by omega, by go_num, by go_num, HSV, HB6⟩
            case measure => simp [intOf]; omega
      · obtain ⟨jl, hjl, el1, el2⟩ := mach_link HI.out hkL hk0
        obtain ⟨ll, hll⟩ : ∃ x : Nat, (tW L jl).length = x := ⟨_, rfl⟩
        obtain rfl : d2 = (jl : Int) := by rw [← HD2.out]; exact el1
        have l1 : w5.cell? ⟨g, jl * 3, none⟩ = some (.int .i64 (ll : Int)) := by
          have h := HLONG.out w5 (Below.refl _ _) jl (by have := HN.out; omega)
          rw [hll] at h
          exact h
        have g1 : (0 : Int) < (k : Int) := by omega
        have g2' : ¬ ((jl : Int) < 0) := by omega
        have g3 : ¬ ((jl : Int) ≥ (n : Int)) := by have := HN.out; omega
        have g4 : (jl : Int) < (n : Int) := by have := HN.out; omega
        have g5 : (0 : Int) ≤ (jl : Int) := by omega
        have g6 : ¬ ((ll : Int) ≥ (d1 : Int)) := by have := HD1.out; omega
        have f1 : decide ((jl : Int) < 0) = false := decide_eq_false g2'
        have f2 : decide ((n : Int) ≤ (jl : Int)) = false := decide_eq_false (by omega)
        have f3 : decide ((d1 : Int) ≤ (ll : Int)) = false := decide_eq_false (by omega)
        have f4 : decide (n ≤ jl) = false := decide_eq_false (by omega)
        have f5 : decide (d1 ≤ ll) = false := decide_eq_false (by omega)
        clear hjl el1 el2 hll
        go_quiet (fail)
        have W6 := Lib.hid (show ∃ q, w5.drewN nq = w5.drewN q from ⟨nq, rfl⟩)
        clear b0 b1 b2 l1
        generalize w5.drewN nq = w6 at W6 ⊢
        go_wp2
        go_loopw [7] (fun j_ wr => ∃ j : Nat, j ≤ nx ∧ j_ = .int .i64 (j : Int) ∧ Hid (∃ q, wr = w5.drewN q)) (fun j_ _ => nx - (intOf j_).toNat)
        case atStart => exact ⟨0, Nat.zero_le _, rfl, W6⟩
        case round =>
          clear W6
          obtain ⟨j, hj, rfl, HW⟩ := hrel
          have hsd : Side wr 0 (.slice none 0 0) 29 gx [.int .i64 (d1 : Int), .int .i64 (jl : Int), .slice ax nx cx] := by obtain ⟨q, hq⟩ := HW.out; rw [hq]; exact HSD.out.drewN q
          have b0 := hsd.cell 0 _ rfl
          have b1 := hsd.cell 1 _ rfl
          have b2 := hsd.cell 2 _ rfl
          by_cases hjl : j < nx
          · have hjE : j < (tE L k).length := by have := HNX.out; omega
            have hat : CellsAt wr ax (pairsC (tE L k)) := by obtain ⟨q, hq⟩ := HW.out; rw [hq]; exact HAT5.out.drewN q
            obtain ⟨be, oe, rfl, _, hce⟩ := hat.pair (fun e => by rw [e] at hjE; simp at hjE)
            obtain ⟨e1, e2⟩ := hce j hjE
            obtain ⟨sg, hsg⟩ : ∃ x, (tE L k)[j].1 = x := ⟨_, rfl⟩
            obtain ⟨to, hto, hto0, hton, htol⟩ := mach_edge (k := (tE L k)[j].1) (t := (tE L k)[j].2) HI.out hkL (List.getElem_mem hjE)
            rw [hto] at e2
            rw [hsg] at e1
            obtain ⟨lq, hlq⟩ : ∃ x : Nat, (tW L to).length = x := ⟨_, rfl⟩
            have e3 : wr.cell? ⟨g, to * 3, none⟩ = some (.int .i64 (lq : Int)) := by
              have h := HLONG.out wr (by obtain ⟨q, hq⟩ := HW.out; rw [hq]; exact below_drewN' (Below.refl _ _) q) to (by have := HN.out; omega)
              rw [hlq] at h
              exact h
            have u1 : ¬ ((to : Int) < 1) := by omega
            have u2 : ¬ ((to : Int) ≥ (n : Int)) := by have := HN.out; omega
            have u2' : (to : Int) < (n : Int) := by have := HN.out; omega
            have u3 : ¬ ((lq : Int) ≤ (d1 : Int)) := by have := HD1.out; omega
            have u4 : (0 : Int) ≤ (to : Int) := by omega
            have u5 : (0 : Int) ≤ (j : Int) := by omega
            have u6' : (j : Int) < (nx : Int) := by omega
            have w1' : decide ((to : Int) < 1) = false := decide_eq_false u1
            have w2' : decide ((n : Int) ≤ (to : Int)) = false := decide_eq_false (by omega)
            have w3' : decide ((lq : Int) ≤ (d1 : Int)) = false := decide_eq_false u3
            have m1' : decide (to < 1) = false := decide_eq_false (by omega)
            have m2' : decide (n ≤ to) = false := decide_eq_false (by omega)
            have m3' : decide (lq ≤ d1) = false := decide_eq_false (by omega)
            rcases Nat.eq_zero_or_pos j with hj0 | hj0
            · subst hj0
              clear hce hsg hto hlq hat hsd hjE hton htol
              go_wp2
              go_quiet (fail)
              have HW2 := Lib.hid (show ∃ q, wr.drewN nq = w5.drewN q by
                obtain ⟨q, hq⟩ := HW.out
                exact ⟨q + nq, by rw [hq, World.drewN_drewN]⟩)
              go_wp2
              go_roundw
              case rel => exact ⟨0 + 1, by omega, by go_num, HW2⟩
              case measure => simp [intOf]; omega
            · obtain ⟨p, rfl⟩ : ∃ p, j = p + 1 := ⟨j - 1, by omega⟩
              have hlt2 := edge_less (HI.out.asc k hkL) hjE
              obtain ⟨sp, hsp⟩ : ∃ x, (tE L k)[p].1 = x := ⟨_, rfl⟩
              have e5 := (hce p (by omega)).1
              rw [hsp] at e5
              rw [hsp, hsg] at hlt2
              have x1 : ((p : Int) + 1).toNat = p + 1 := by omega
              have x2 : (p : Int) + 1 - 1 = (p : Int) := by omega
              have x3 : IntKind.i64.wrap (p : Int) = (p : Int) := IntWalk.i64_in _ (by omega)
              have x4 : ¬ (sp ≥ sg) := by omega
              have w4' : decide (sg ≤ sp) = false := decide_eq_false (by omega)
              have x5 : (0 : Int) < (p : Int) + 1 := by omega
              have x6 : (0 : Int) ≤ (p : Int) + 1 := by omega
              have x7 : (p : Int) + 1 < (nx : Int) := by omega
              have x8 : (p : Int) < (nx : Int) := by omega
              have x9 : (0 : Int) ≤ (p : Int) := by omega
              clear hce hsg hto hlq hat hsd hjE hton htol hsp hlt2
              rw [show ((p + 1 : Nat) : Int) = (p : Int) + 1 by omega]
              go_wp2
              go_quiet (fail)
              have HW2 := Lib.hid (show ∃ q, wr.drewN nq = w5.drewN q by
                obtain ⟨q, hq⟩ := HW.out
                exact ⟨q + nq, by rw [hq, World.drewN_drewN]⟩)
              go_wp2
              go_roundw
              case rel => exact ⟨p + 1 + 1, by omega, by go_num, HW2⟩
              case measure => simp [intOf]; omega
          · have HB6 := Lib.hid (show Below w4.heap.size w4 wr by obtain ⟨q, hq⟩ := HW.out; rw [hq]; exact below_drewN' HB5.out q)
            clear hsd
            go_wp2
            go_roundw
            case rel => exact ⟨k + 1, v + nx, by omega, by omega, by go_num, by go_num, HSV, HB6⟩
            case measure => simp [intOf]; omega
    · obtain rfl : k = n := by omega
      have hsm := HSM.out
      have hv2 := HV.out
      rw [HN.out] at hsm
      have BB := Lib.hid (HB3.out.trans (HB.out.mono HB3.out.size))
      have z3 : ¬ ((k : Int) < (k : Int)) := by omega
      obtain ⟨m, hm⟩ : ∃ m, s.size = m := ⟨_, rfl⟩
      have HM := Lib.hid hm
      rw [hm] at hsm
      have hm9 : m ≤ 1000 := by omega
      clear hm HV HB
      by_cases h3 : m < 3
      · have HT := Lib.hid (show ((s.size : Nat) : Int) < 3 by rw [HM.out]; omega)
        have t3 := HT.out
        clear hsm hv2
        go_wp2_with fail
        refine (alive_any _).mono ?_
        rintro e wq ⟨rfl, rfl⟩
        go_wp2
        go_ret
        exact ⟨rfl, BB.out⟩
      · obtain ⟨s1, s2⟩ := hsm (by omega)
        rw [← hv2] at s2
        have HT := Lib.hid (show ¬ ((s.size : Nat) : Int) < 3 ∧ (k : Int) ≤ 2 * ((s.size : Nat) : Int) - 1 ∧ (v : Int) ≤ 3 * ((s.size : Nat) : Int) - 4 ∧ IntKind.i64.wrap (2 * ((s.size : Nat) : Int)) = 2 * ((s.size : Nat) : Int) ∧ IntKind.i64.wrap (2 * ((s.size : Nat) : Int) - 1) = 2 * ((s.size : Nat) : Int) - 1 ∧ IntKind.i64.wrap (3 * ((s.size : Nat) : Int)) = 3 * ((s.size : Nat) : Int) ∧ IntKind.i64.wrap (3 * ((s.size : Nat) : Int) - 4) = 3 * ((s.size : Nat) : Int) - 4 by
          rw [HM.out]
          exact ⟨by omega, by omega, by omega, IntWalk.i64_in _ (by omega), IntWalk.i64_in _ (by omega), IntWalk.i64_in _ (by omega), IntWalk.i64_in _ (by omega)⟩)
        obtain ⟨t3, t4, t5, t6, t7, t8, t9⟩ := HT.out
        clear hv2 s1 s2
        go_wp2_with fail
        refine (alive_any _).mono ?_
        rintro e wq ⟨rfl, rfl⟩
        go_wp2
        go_ret
        exact ⟨rfl, BB.out⟩

end Go.Proofs.Ytehppjilnacjlaa
