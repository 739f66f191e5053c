/-
  The contract of the model's function AskShelf. Conditions: rows of at most 2^20 entries, texts of at most 2^20 bytes together. (Written by wip/tools/ch8_ask.py.)
-/
import Derived.Test.YtclblnkeakkdeaaMg30
import Derived.Test.YtclblnkeakkdeaaMg25
import Derived.Deep.Cut
import Derived.Deep.DeepCutAuto
namespace Go.Proofs.Ytclblnkeakkdeaa
open Go.RowKit

/-- What one entry tells of one mark. -/
theorem entry_ways {D : List ByteArray} {s : ByteArray} {K q : Nat} {n : Int} {p0 x0 d at_ : Int} (_hK : 1 ≤ K) (hok : enOk (x0, d, at_)) :
    ((D.length : Int) ≤ d ∧ askE D s K n (p0, (q : Int)) (x0, d, at_) = none) ∨
    (∃ (dn : Nat) (h : dn < D.length), d = dn ∧ (D[dn].size : Int) < K ∧ askE D s K n (p0, (q : Int)) (x0, d, at_) = none) ∨
    (∃ (dn : Nat) (h : dn < D.length), d = dn ∧ (K : Int) ≤ D[dn].size ∧ (D[dn].size : Int) - K < at_ ∧ askE D s K n (p0, (q : Int)) (x0, d, at_) = none) ∨
    (∃ (dn An : Nat) (h : dn < D.length), d = dn ∧ at_ = An ∧ An + K ≤ D[dn].size ∧ askE D s K n (p0, (q : Int)) (x0, d, at_) = (aroundP D[dn] s K n An q).map fun p => (d, p)) := by
  have hok2 : 0 ≤ x0 ∧ x0 < 1000003 ∧ 0 ≤ d ∧ 0 ≤ at_ := hok
  by_cases h1 : d < D.length
  · obtain ⟨dn, rfl⟩ : ∃ m : Nat, d = m := ⟨d.toNat, by omega⟩
    have hd : dn < D.length := by omega
    have hdoc : docAt D dn = D[dn] := docAt_get hd
    by_cases h2 : (D[dn].size : Int) < K
    · exact .inr (.inl ⟨dn, hd, rfl, h2, by rw [askE, if_neg]; simp only [Int.toNat_natCast, hdoc]; omega⟩)
    · by_cases h3 : (D[dn].size : Int) - K < at_
      · exact .inr (.inr (.inl ⟨dn, hd, rfl, by omega, h3, by rw [askE, if_neg]; simp only [Int.toNat_natCast, hdoc]; omega⟩))
      · obtain ⟨An, rfl⟩ : ∃ m : Nat, at_ = m := ⟨at_.toNat, by omega⟩
        refine .inr (.inr (.inr ⟨dn, An, hd, rfl, rfl, by omega, ?_⟩))
        rw [askE, if_pos (by simp only [Int.toNat_natCast, hdoc]; omega)]
        simp only [Int.toNat_natCast, hdoc]
  · exact .inl ⟨by omega, by rw [askE, if_neg (fun e => h1 e.1)]⟩
theorem below_call8 {w w' : World} (hb : Below w.drew.heap.size w.drew w') : Below w.heap.size w w' := (Below.refl w.heap.size w).drew.trans hb
theorem below_acall8 {w w' : World} {o : Obj} (hb : Below (w.alloc o).drew.heap.size (w.alloc o).drew w') : Below w.heap.size w w' :=
  (((Below.refl w.heap.size w).alloc (Nat.le_refl _) o).drew).trans (hb.mono (by show w.heap.size ≤ (w.alloc o).heap.size; simp))
theorem cells_own8 {w w' : World} {xs : Array Value} {e : TypeId} (hb : Below (w.alloc (.cells xs e)).drew.heap.size (w.alloc (.cells xs e)).drew w') : w'.heap[w.heap.size]? = some (.cells xs e (0, 0)) :=
  (hb.block w.heap.size (by show w.heap.size < (w.alloc (.cells xs e)).heap.size; simp)).trans (heap_alloc_new w _)
theorem cell_own8 {w w' : World} {xs : Array Value} {e : TypeId} (hb : Below (w.alloc (.cells xs e)).drew.heap.size (w.alloc (.cells xs e)).drew w') (i : Nat) (v : Value) (h : xs[i]? = some v) : w'.cell? ⟨w.heap.size, i, none⟩ = some v :=
  (cell_of_row w' w.heap.size i _ _ (0, 0) (cells_own8 hb)).trans h
theorem frozen_own8 {w w' : World} {xs : Array Value} {e : TypeId} (hb : Below (w.alloc (.cells xs e)).drew.heap.size (w.alloc (.cells xs e)).drew w') (i : Nat) : w'.frozen? ⟨w.heap.size, i, none⟩ = false := by
  simp [World.frozen?, cells_own8 hb]
theorem piece_set8 (w : World) (g : Nat) (x y z : Int) {u v s : Value} {e : TypeId} (h : w.heap[g]? = some (.cells #[u, v, s] e (0, 0))) :
    (((w.setCell ⟨g, 0, none⟩ (.int .i64 x)).setCell ⟨g, 1, none⟩ (.int .i64 y)).setCell ⟨g, 2, none⟩ (.int .i64 z)).heap[g]? = some (.cells #[.int .i64 x, .int .i64 y, .int .i64 z] e (0, 0)) := by
  have h1 : Side w 0 (.slice none 0 0) e g [u, v, s] := ⟨h, Nat.zero_le _, by simp [Value.ownBlock]⟩
  exact (((h1.set_self 0 (.int .i64 x)).set_self 1 (.int .i64 y)).set_self 2 (.int .i64 z)).at_
theorem rowF_room {S : List En} {D : List ByteArray} {s : ByteArray} {k n : Int} {M : List (Int × Int)} {i : Nat} {X : List Fd} (hi : i ≤ M.length) (hM : M.length ≤ 1048576) (hS : S.length ≤ 1048576) (hX : X.length ≤ 1048576) :
    (rowF (askTo S D s k n (M.take i) ++ X)).length ≤ 2199023255552 := by
  have h1 := rowF_len (askTo S D s k n (M.take i) ++ X)
  have h2 := askTo_len S D s k n (M.take i)
  rw [List.length_take, Nat.min_eq_left hi] at h2
  have h3 : i * S.length ≤ 1048576 * 1048576 := Nat.mul_le_mul (by omega) hS
  rw [List.length_append] at h1
  omega

set_option maxRecDepth 8000 in
set_option maxHeartbeats 32000000 in
theorem specAsk8_any (S : List En) (D : List ByteArray) (s : ByteArray) (k v n : Int) (a : Option Addr) (nS cS : Nat) (b : Option Addr) (nD cD : Nat) (R : List Fd) (w : World) (hR : ask8 S D s k v n = R) (hnS : nS = S.length) (hnD : nD = D.length) (hS9 : nS ≤ 1048576) (_hD9 : nD ≤ 1048576) (hScap : nS ≤ cS) (hSmax : cS ≤ maxLen)
    (hT : totalS D ≤ 1048576) (hs : s.size ≤ 1048576) (hk9 : k ≤ 9223372036854775807) (hv9 : v ≤ 9223372036854775807) (hatS : CellsAt w a (entsC S)) (hatD : CellsAt w b (strsC D)) :
    Calls Try.prog 57 #[.slice a nS cS, .slice b nD cD, .string s, .int .i64 k, .int .i64 v, .int .i64 n] w fun e w' => ∃ g m c, e = .returned (.slice (some ⟨g, 0, none⟩) m c) ∧ One w w.heap.size w' 79 4 (some ⟨g, 0, none⟩) m c (fdsC R) := by
  subst hR
  have HS := Lib.hid hatS
  have HD := Lib.hid hatD
  have HNS := Lib.hid hnS
  have HND := Lib.hid hnD
  clear hatS hatD hnS hnD
  by_cases hok : shOk S
  · have c0 := fun w h => specShelfOk_is true S a nS cS w ⟨fun _ => hok, fun _ => rfl⟩ HNS.out (by omega) h
    by_cases hk : k < 1
    · have HR := Lib.hid (ask8_not (L := S) (D := D) (s := s) (k := k) (w := v) (n := n) (fun h => by omega))
      have dk : decide (k < 1) = true := decide_eq_true hk
      clear hok
      go_enter Try.func57, Try.ntmps57
      go_wp2_with fail
      refine (c0 _ (HS.out.below ((Below.refl _ _).alloc (Nat.le_refl _) _))).mono ?_
      rintro e w1 ⟨rfl, b1⟩
      go_wp2
      go_ret
      exact ⟨_, _, _, rfl, by rw [HR.out]; exact (One.empty w 79 4).later b1⟩
    by_cases hv : v < 1
    · have HR := Lib.hid (ask8_not (L := S) (D := D) (s := s) (k := k) (w := v) (n := n) (fun h => by omega))
      have dk : decide (k < 1) = false := decide_eq_false hk
      have dv : decide (v < 1) = true := decide_eq_true hv
      clear hok
      go_enter Try.func57, Try.ntmps57
      go_wp2_with fail
      refine (c0 _ (HS.out.below ((Below.refl _ _).alloc (Nat.le_refl _) _))).mono ?_
      rintro e w1 ⟨rfl, b1⟩
      go_wp2
      go_ret
      exact ⟨_, _, _, rfl, by rw [HR.out]; exact (One.empty w 79 4).later b1⟩
    by_cases hn : n < 1
    · have HR := Lib.hid (ask8_not (L := S) (D := D) (s := s) (k := k) (w := v) (n := n) (fun h => by omega))
      have dk : decide (k < 1) = false := decide_eq_false hk
      have dv : decide (v < 1) = false := decide_eq_false hv
      have dn0 : decide (n < 1) = true := decide_eq_true hn
      clear hok
      go_enter Try.func57, Try.ntmps57
      go_wp2_with fail
      refine (c0 _ (HS.out.below ((Below.refl _ _).alloc (Nat.le_refl _) _))).mono ?_
      rintro e w1 ⟨rfl, b1⟩
      go_wp2
      go_ret
      exact ⟨_, _, _, rfl, by rw [HR.out]; exact (One.empty w 79 4).later b1⟩
    have dk : decide (k < 1) = false := decide_eq_false hk
    have dv : decide (v < 1) = false := decide_eq_false hv
    have dn0 : decide (n < 1) = false := decide_eq_false hn
    have HR := Lib.hid (ask8_ok (L := S) (D := D) (s := s) (k := k) (w := v) (n := n) ⟨hok, by omega, by omega, by omega⟩)
    have HOK := Lib.hid hok
    obtain ⟨K, rfl⟩ : ∃ K : Nat, k = K := ⟨k.toNat, by omega⟩
    have hK1 : 1 ≤ K := by omega
    obtain ⟨M, hM⟩ : ∃ M, mkL s (K : Int) v = M := ⟨_, rfl⟩
    have cM := fun w => specMarks_any s (K : Int) v M w hM (by omega) hv9
    have hMl : M.length ≤ 1048576 := by rw [← hM]; exact Nat.le_trans (mkL_len s K v) hs
    have HMK := Lib.hid hM
    clear hok hM hk hv
    go_enter Try.func57, Try.ntmps57
    go_wp2_with fail
    refine (c0 _ (HS.out.below ((Below.refl _ _).alloc (Nat.le_refl _) _))).mono ?_
    rintro e w1 ⟨rfl, b1⟩
    have HO := Lib.hid ((One.empty w 79 4).later b1)
    clear c0 b1
    go_wp2_with fail
    refine (cM _).mono ?_
    rintro e w2 ⟨aM, nM, dM, rfl, oM⟩
    have HO := Lib.hid (HO.out.later oM.below)
    have HA := Lib.hid oM.at_
    have HNM := Lib.hid (pairs_len oM.own)
    have hnM : nM ≤ 1048576 := by have h1 := pairs_len oM.own; omega
    clear oM cM
    go_wp2
    go_loopw [13, 15] (fun u i_ wr => ∃ (i g m c : Nat), i ≤ nM ∧ i_ = .int .i64 (i : Int) ∧ u = .slice (some ⟨g, 0, none⟩) m c ∧ Hid (m = (rowF (askTo S D s (K : Int) n (M.take i))).length) ∧ Hid (One w w.heap.size wr 79 4 (some ⟨g, 0, none⟩) m c (fdsC (rowF (askTo S D s (K : Int) n (M.take i))))) ∧ Hid (Below w2.heap.size w2 wr)) (fun _ i_ _ => nM - (intOf i_).toNat)
    case atStart => exact ⟨0, _, _, _, Nat.zero_le _, rfl, rfl, Lib.hid rfl, HO, Lib.hid (Below.refl _ _)⟩
    case round =>
      clear HO
      obtain ⟨i, g, m, c, hi, rfl, rfl, HLEN, HO, HB⟩ := hrel
      by_cases hlt : i < nM
      · have hil : i < M.length := by have := HNM.out; omega
        obtain ⟨q, K2, hKK, _, hpq, hq9, _⟩ := mkL_in (show M[i] ∈ mkL s (K : Int) v by rw [HMK.out]; exact List.getElem_mem hil)
        obtain rfl : K = K2 := by omega
        obtain ⟨p0, hp0⟩ : ∃ p : Int, ((prN (pieceL s.data.toList K q) : Nat) : Int) = p := ⟨_, rfl⟩
        rw [hp0] at hpq
        obtain ⟨bM, oM, rfl, hbM, hcM⟩ := (HA.out.below HB.out).pair (fun e => by rw [e] at hil; simp at hil)
        obtain ⟨e1, e2⟩ := hcM i hil
        rw [hpq] at e1 e2
        have z1 : (i : Int) < (nM : Int) := by omega
        have z0 : (0 : Int) ≤ (i : Int) := by omega
        have cF := fun w h => specFind5_any S p0 a nS cS w HNS.out (by omega) hScap hSmax h
        rw [findL5_ok HOK.out] at cF
        obtain ⟨E, hE⟩ : ∃ E, S.filter (fun x => x.1 == p0) = E := ⟨_, rfl⟩
        rw [hE] at cF
        have HE1 := Lib.hid (show withP S p0 = E from hE)
        have hEl : E.length ≤ 1048576 := by rw [← hE]; have h1 := List.length_filter_le (fun x : En => x.1 == p0) S; have := HNS.out; omega
        have HEO := Lib.hid (show ∀ x ∈ E, enOk x from fun x hx => by rw [← hE] at hx; exact HOK.out.1 x (List.mem_filter.1 hx).1)
        have HPQ := Lib.hid hpq
        have hww := HO.out.below
        clear hE hKK hp0 hcM hpq
        go_wp2_with fail
        refine (cF _ (HS.out.below hww)).mono ?_
        rintro e w3 ⟨aE, nE, dE, rfl, oE⟩
        have HE2 := Lib.hid oE.at_
        have HNE := Lib.hid (ents_len oE.own)
        have hnE : nE ≤ 1048576 := by have h1 := ents_len oE.own; omega
        have HON := Lib.hid (HO.out.later oE.below)
        have HB3 := Lib.hid (HB.out.trans (oE.below.mono HB.out.size))
        have HKM := Lib.hid (show ∀ w', Below w3.heap.size w3 w' → w'.cell? ⟨bM, oM + i * 2, none⟩ = some (.int .i64 p0) ∧ w'.cell? ⟨bM, oM + i * 2 + 1, none⟩ = some (.int .i64 (q : Int)) from fun w' h => by
          have h1 := oE.below.trans (h.mono oE.below.size)
          exact ⟨below_ents7 h1 hbM e1, below_ents7 h1 hbM e2⟩)
        clear oE cF hww e1 e2 HO HB
        go_wp2
        go_loopw [13, 17] (fun u j_ wr => ∃ (j g m c : Nat), j ≤ nE ∧ j_ = .int .i64 (j : Int) ∧ u = .slice (some ⟨g, 0, none⟩) m c ∧ Hid (m = (rowF (askTo S D s (K : Int) n (M.take i) ++ (E.take j).filterMap (askE D s (K : Int) n (p0, (q : Int))))).length) ∧ Hid (One w w.heap.size wr 79 4 (some ⟨g, 0, none⟩) m c (fdsC (rowF (askTo S D s (K : Int) n (M.take i) ++ (E.take j).filterMap (askE D s (K : Int) n (p0, (q : Int))))))) ∧ Hid (Below w3.heap.size w3 wr)) (fun _ j_ _ => nE - (intOf j_).toNat)
        case atStart => exact ⟨0, g, m, c, Nat.zero_le _, rfl, rfl, Lib.hid (by rw [List.take_zero, List.filterMap_nil, List.append_nil]; exact HLEN.out), Lib.hid (by rw [List.take_zero, List.filterMap_nil, List.append_nil]; exact HON.out), Lib.hid (Below.refl _ _)⟩
        case round =>
          clear HON HLEN
          obtain ⟨j, g, m, c, hj, rfl, rfl, HLEN, HO, HB⟩ := hrel
          by_cases hlj : j < nE
          · have hjl : j < E.length := by have := HNE.out; omega
            obtain ⟨x0, hx0⟩ : ∃ x, E[j].1 = x := ⟨_, rfl⟩
            obtain ⟨d, hd0⟩ : ∃ x, E[j].2.1 = x := ⟨_, rfl⟩
            obtain ⟨at_, ha0⟩ : ∃ x, E[j].2.2 = x := ⟨_, rfl⟩
            have hm : E[j] = (x0, d, at_) := by rw [← hx0, ← hd0, ← ha0]
            obtain ⟨bE, oE, rfl, hbE, g1, g2, g3⟩ := ent_cells (HE2.out.below HB.out) hjl hm
            have hen : enOk (x0, d, at_) := by rw [← hm]; exact HEO.out _ (List.getElem_mem hjl)
            have hen2 : 0 ≤ x0 ∧ x0 < 1000003 ∧ 0 ≤ d ∧ 0 ≤ at_ := hen
            obtain ⟨_, _, hd1, ha1⟩ := hen2
            have hways := entry_ways (D := D) (s := s) (q := q) (n := n) (p0 := p0) hK1 hen
            have u1 : (j : Int) < (nE : Int) := by omega
            have u0 : (0 : Int) ≤ (j : Int) := by omega
            have hm9 : m ≤ 2199023255552 := by
              rw [HLEN.out]
              refine rowF_room (by omega) hMl (by have := HNS.out; omega) (Nat.le_trans (List.length_filterMap_le _ _) ?_)
              rw [List.length_take]
              omega
            have ha := (Below.refl wr.heap.size wr).alloc (Nat.le_refl _) (.cells #[.int .i64 x0, .int .i64 d, .int .i64 at_] 31)
            have S5 := Side.fresh (w := wr) (B := 0) (v := .slice none 0 0) 31 [.int .i64 x0, .int .i64 d, .int .i64 at_] (Nat.zero_le _) (by intro k hk; simp [Value.ownBlock] at hk)
            have hone := HO.out.later ha
            have hbb := HB.out.trans (ha.mono HB.out.size)
            clear hx0 hd0 ha0 hen HO HB
            go_wp2
            obtain ⟨w5, hw5⟩ : ∃ w9, wr.alloc (.cells #[.int .i64 x0, .int .i64 d, .int .i64 at_] 31) = w9 := ⟨_, rfl⟩
            obtain ⟨gt, hgt⟩ : ∃ g, wr.heap.size = g := ⟨_, rfl⟩
            rw [hw5] at ha S5 hone hbb
            rw [hgt] at S5
            rw [hw5, hgt]
            have HONE := Lib.hid hone
            have HBB := Lib.hid hbb
            clear hw5 hgt ha hone hbb g1 g2 g3
            have k0 := S5.cell 0 _ rfl
            have k1 := S5.cell 1 _ rfl
            have k2 := S5.cell 2 _ rfl
            rcases hways with ⟨hc1, hap⟩ | ⟨dn, hdl, rfl, hc1, hap⟩ | ⟨dn, hdl, rfl, hc0, hc1, hap⟩ | ⟨dn, An, hdl, rfl, rfl, hc0, hap⟩
            · have y1 : (nD : Int) ≤ d := by have := HND.out; omega
              have dy : decide ((nD : Int) ≤ d) = true := decide_eq_true y1
              have HNX := Lib.hid (show askTo S D s (K : Int) n (M.take i) ++ (E.take (j + 1)).filterMap (askE D s (K : Int) n (p0, (q : Int))) = askTo S D s (K : Int) n (M.take i) ++ (E.take j).filterMap (askE D s (K : Int) n (p0, (q : Int))) by rw [fm_no hjl (by rw [hm]; exact hap)])
              clear hap hjl hm hc1 S5
              go_quiet (fail)
              go_wp2
              go_roundw
              case rel => exact ⟨j + 1, g, m, c, by omega, by go_num, rfl, Lib.hid (by rw [HNX.out]; exact HLEN.out), Lib.hid (by rw [HNX.out]; exact HONE.out.drewN _), Lib.hid (below_drewN' HBB.out _)⟩
              case measure => simp [intOf]; omega
            · obtain ⟨bD, oD, rfl, hbD, hcD⟩ := (HD.out.below HONE.out.below).str (fun e => by rw [e] at hdl; simp at hdl)
              obtain ⟨t, ht⟩ : ∃ t, D[dn] = t := ⟨_, rfl⟩
              have f1 := hcD dn hdl
              have htz : t.size ≤ 1048576 := by have h1 := totalS_get D dn hdl; rw [ht] at h1; omega
              rw [ht] at f1 hc1
              have y1 : (dn : Int) < (nD : Int) := by have := HND.out; omega
              have y0 : (0 : Int) ≤ (dn : Int) := by omega
              have dy : decide ((nD : Int) ≤ (dn : Int)) = false := decide_eq_false (by omega)
              have ny : ¬ (nD : Int) ≤ (dn : Int) := by omega
              have dz : decide ((t.size : Int) < (K : Int)) = true := decide_eq_true hc1
              have HNX := Lib.hid (show askTo S D s (K : Int) n (M.take i) ++ (E.take (j + 1)).filterMap (askE D s (K : Int) n (p0, (q : Int))) = askTo S D s (K : Int) n (M.take i) ++ (E.take j).filterMap (askE D s (K : Int) n (p0, (q : Int))) by rw [fm_no hjl (by rw [hm]; exact hap)])
              clear hap hjl hm S5 ht hcD
              go_quiet (fail)
              go_wp2
              go_roundw
              case rel => exact ⟨j + 1, g, m, c, by omega, by go_num, rfl, Lib.hid (by rw [HNX.out]; exact HLEN.out), Lib.hid (by rw [HNX.out]; exact HONE.out.drewN _), Lib.hid (below_drewN' HBB.out _)⟩
              case measure => simp [intOf]; omega
            · obtain ⟨bD, oD, rfl, hbD, hcD⟩ := (HD.out.below HONE.out.below).str (fun e => by rw [e] at hdl; simp at hdl)
              obtain ⟨t, ht⟩ : ∃ t, D[dn] = t := ⟨_, rfl⟩
              have f1 := hcD dn hdl
              have htz : t.size ≤ 1048576 := by have h1 := totalS_get D dn hdl; rw [ht] at h1; omega
              rw [ht] at f1 hc0 hc1
              have y1 : (dn : Int) < (nD : Int) := by have := HND.out; omega
              have y0 : (0 : Int) ≤ (dn : Int) := by omega
              have dy : decide ((nD : Int) ≤ (dn : Int)) = false := decide_eq_false (by omega)
              have ny : ¬ (nD : Int) ≤ (dn : Int) := by omega
              have dz : decide ((t.size : Int) < (K : Int)) = false := decide_eq_false (by omega)
              have nz : ¬ (t.size : Int) < (K : Int) := by omega
              have v1 : IntKind.i64.wrap ((t.size : Int) - (K : Int)) = (t.size : Int) - (K : Int) := IntWalk.i64_in _ (by omega)
              have da : decide ((t.size : Int) - (K : Int) < at_) = true := decide_eq_true hc1
              have HNX := Lib.hid (show askTo S D s (K : Int) n (M.take i) ++ (E.take (j + 1)).filterMap (askE D s (K : Int) n (p0, (q : Int))) = askTo S D s (K : Int) n (M.take i) ++ (E.take j).filterMap (askE D s (K : Int) n (p0, (q : Int))) by rw [fm_no hjl (by rw [hm]; exact hap)])
              clear hap hjl hm S5 ht hcD
              go_quiet (fail)
              go_wp2
              go_roundw
              case rel => exact ⟨j + 1, g, m, c, by omega, by go_num, rfl, Lib.hid (by rw [HNX.out]; exact HLEN.out), Lib.hid (by rw [HNX.out]; exact HONE.out.drewN _), Lib.hid (below_drewN' HBB.out _)⟩
              case measure => simp [intOf]; omega
            · obtain ⟨bD, oD, rfl, hbD, hcD⟩ := (HD.out.below HONE.out.below).str (fun e => by rw [e] at hdl; simp at hdl)
              obtain ⟨t, ht⟩ : ∃ t, D[dn] = t := ⟨_, rfl⟩
              have f1 := hcD dn hdl
              have htz : t.size ≤ 1048576 := by have h1 := totalS_get D dn hdl; rw [ht] at h1; omega
              rw [ht] at f1 hc0 hap
              have y1 : (dn : Int) < (nD : Int) := by have := HND.out; omega
              have y0 : (0 : Int) ≤ (dn : Int) := by omega
              have dy : decide ((nD : Int) ≤ (dn : Int)) = false := decide_eq_false (by omega)
              have ny : ¬ (nD : Int) ≤ (dn : Int) := by omega
              have dz : decide ((t.size : Int) < (K : Int)) = false := decide_eq_false (by omega)
              have nz : ¬ (t.size : Int) < (K : Int) := by omega
              have v1 : IntKind.i64.wrap ((t.size : Int) - (K : Int)) = (t.size : Int) - (K : Int) := IntWalk.i64_in _ (by omega)
              have da : decide ((t.size : Int) - (K : Int) < (An : Int)) = false := decide_eq_false (by omega)
              have na : ¬ (t.size : Int) - (K : Int) < (An : Int) := by omega
              have hways := around_ways t s K n An q hK1
              obtain ⟨P, hP⟩ : ∃ P, t.extract An (An + K) = P := ⟨_, rfl⟩
              obtain ⟨Q, hQ⟩ : ∃ P, s.extract q (q + K) = P := ⟨_, rfl⟩
              have hPQ : P = Q ↔ K ≤ runP t s An q := by rw [← hP, ← hQ]; exact extract_same hc0 hq9
              have sl1 : ∀ w, (Instr.slice 9 (.string t) (some (.int .i64 (An : Int))) (some (.int .i64 ((An : Int) + (K : Int)))) none).run Try.prog w = .ok (.string P) w := fun w => by
                have h1 := run_slice_string (P := Try.prog) w 9 t .i64 .i64 (An : Int) ((An : Int) + (K : Int)) Try.uls7 (by omega) (by omega) (by omega)
                rwa [Int.toNat_natCast, show ((An : Int) + (K : Int)).toNat = An + K by omega, hP] at h1
              have sl2 : ∀ w, (Instr.slice 9 (.string s) (some (.int .i64 (q : Int))) (some (.int .i64 ((q : Int) + (K : Int)))) none).run Try.prog w = .ok (.string Q) w := fun w => by
                have h1 := run_slice_string (P := Try.prog) w 9 s .i64 .i64 (q : Int) ((q : Int) + (K : Int)) Try.uls7 (by omega) (by omega) (by omega)
                rwa [Int.toNat_natCast, show ((q : Int) + (K : Int)).toNat = q + K by omega, hQ] at h1
              have v2 : IntKind.i64.wrap ((An : Int) + (K : Int)) = (An : Int) + (K : Int) := IntWalk.i64_in _ (by omega)
              have v3 : IntKind.i64.wrap ((q : Int) + (K : Int)) = (q : Int) + (K : Int) := IntWalk.i64_in _ (by omega)
              have hbD5 : bD < w5.heap.size := hbD
              have HSD := Lib.hid S5
              clear ht hcD hP hQ S5
              go_quiet (fail)
              have HKS := Lib.hid (show ∀ w', Below w5.heap.size w5 w' → (w'.cell? ⟨gt, 0, none⟩ = some (.int .i64 x0) ∧ w'.cell? ⟨gt, 1, none⟩ = some (.int .i64 (dn : Int)) ∧ w'.cell? ⟨gt, 2, none⟩ = some (.int .i64 (An : Int))) ∧ w'.cell? ⟨bD, oD + dn, none⟩ = some (.string t) ∧ w'.cell? ⟨bM, oM + i * 2, none⟩ = some (.int .i64 p0) ∧ w'.cell? ⟨bM, oM + i * 2 + 1, none⟩ = some (.int .i64 (q : Int)) from fun w' h =>
                ⟨⟨(HSD.out.later h).cell 0 _ rfl, (HSD.out.later h).cell 1 _ rfl, (HSD.out.later h).cell 2 _ rfl⟩, below_ents7 h hbD5 f1, HKM.out w' (HBB.out.trans (h.mono HBB.out.size))⟩)
              have hb6 := below_drewN' (Below.refl w5.heap.size w5) nq
              have HONE := Lib.hid (HONE.out.drewN nq)
              have HBB := Lib.hid (below_drewN' HBB.out nq)
              clear k0 k1 k2 f1
              obtain ⟨w6, hw6⟩ : ∃ w9, w5.drewN nq = w9 := ⟨_, rfl⟩
              rw [hw6] at hb6 HONE HBB
              rw [hw6]
              have HKS := Lib.hid (show ∀ w', Below w6.heap.size w6 w' → (w'.cell? ⟨gt, 0, none⟩ = some (.int .i64 x0) ∧ w'.cell? ⟨gt, 1, none⟩ = some (.int .i64 (dn : Int)) ∧ w'.cell? ⟨gt, 2, none⟩ = some (.int .i64 (An : Int))) ∧ w'.cell? ⟨bD, oD + dn, none⟩ = some (.string t) ∧ w'.cell? ⟨bM, oM + i * 2, none⟩ = some (.int .i64 p0) ∧ w'.cell? ⟨bM, oM + i * 2 + 1, none⟩ = some (.int .i64 (q : Int)) from fun w' h => HKS.out w' (hb6.trans (h.mono hb6.size)))
              clear hw6 hb6 HSD hbD5
              obtain ⟨⟨k0, k1, k2⟩, f1, e1, e2⟩ := HKS.out w6 (Below.refl _ _)
              rcases hways with ⟨hno, hap2⟩ | ⟨x, y, z, hok2, hg, hz, hap2⟩ | ⟨x, y, z, hok2, hg, hz, hap2⟩
              · have hb : (P.toList == Q.toList) = false := eq7_no (fun e => hno (hPQ.1 e))
                rw [hap2] at hap
                have HNX := Lib.hid (show askTo S D s (K : Int) n (M.take i) ++ (E.take (j + 1)).filterMap (askE D s (K : Int) n (p0, (q : Int))) = askTo S D s (K : Int) n (M.take i) ++ (E.take j).filterMap (askE D s (K : Int) n (p0, (q : Int))) by rw [fm_no hjl (by rw [hm]; exact hap)])
                clear hap hap2 hno hPQ hjl hm
                go_wp2
                go_quiet (fail)
                go_wp2
                go_roundw
                case rel => exact ⟨j + 1, g, m, c, by omega, by go_num, rfl, Lib.hid (by rw [HNX.out]; exact HLEN.out), Lib.hid (by rw [HNX.out]; exact HONE.out.drewN _), Lib.hid (below_drewN' HBB.out _)⟩
                case measure => simp [intOf]; omega
              · obtain rfl : P = Q := hPQ.2 hok2
                have cg := fun w => specGrow_any t s An q x y z true w hg (by omega) (by omega)
                rw [hap2] at hap
                have HNX := Lib.hid (show askTo S D s (K : Int) n (M.take i) ++ (E.take (j + 1)).filterMap (askE D s (K : Int) n (p0, (q : Int))) = askTo S D s (K : Int) n (M.take i) ++ (E.take j).filterMap (askE D s (K : Int) n (p0, (q : Int))) ++ [((dn : Int), x, y, z)] by rw [fm_yes hjl (by rw [hm]; exact hap), List.append_assoc])
                clear hap hap2 hok2 hPQ hjl hm hg
                go_wp2
                go_quiet (fail)
                have HONE := Lib.hid (HONE.out.drewN nq)
                have HBB := Lib.hid (below_drewN' HBB.out nq)
                have hb7 := below_drewN' (Below.refl w6.heap.size w6) nq
                obtain ⟨w7, hw7⟩ : ∃ w9, w6.drewN nq = w9 := ⟨_, rfl⟩
                rw [hw7] at hb7 HONE HBB
                rw [hw7]
                have HKS := Lib.hid (fun (w' : World) (h : Below w7.heap.size w7 w') => HKS.out w' (hb7.trans (h.mono hb7.size)))
                clear hw7 hb7 k0 k1 k2 f1 e1 e2
                obtain ⟨⟨k0, k1, k2⟩, f1, e1, e2⟩ := HKS.out w7 (Below.refl _ _)
                go_upto_region 15 with fail
                go_cut [19, 20] (fun s19 s20 wx => ∃ gp : Nat, s19 = .pointer (some ⟨gp, 0, none⟩) ∧ s20 = .bool true ∧ Hid (Below w7.heap.size w7 wx) ∧ Hid (wx.heap[gp]? = some (.cells #[.int .i64 x, .int .i64 y, .int .i64 z] 61 (0, 0))))
                case first =>
                  go_region_held3 (fun w' => (w'.cell? ⟨gt, 0, none⟩ = some (.int .i64 x0) ∧ w'.cell? ⟨gt, 1, none⟩ = some (.int .i64 (dn : Int)) ∧ w'.cell? ⟨gt, 2, none⟩ = some (.int .i64 (An : Int))) ∧ w'.cell? ⟨bD, oD + dn, none⟩ = some (.string t) ∧ w'.cell? ⟨bM, oM + i * 2, none⟩ = some (.int .i64 p0) ∧ w'.cell? ⟨bM, oM + i * 2 + 1, none⟩ = some (.int .i64 (q : Int))) (first | go_keep | exact HKS.out _ hc8 | exact HKS.out _ (hc8.alloc hc8.size _) | exact HKS.out _ (((hc8.setCell (p := ⟨w7.heap.size, 0, none⟩) (Nat.le_refl _) _).setCell (p := ⟨w7.heap.size, 1, none⟩) (Nat.le_refl _) _).setCell (p := ⟨w7.heap.size, 2, none⟩) (Nat.le_refl _) _) | exact HKS.out _ ((Below.refl _ _).alloc (Nat.le_refl _) _))
                    ((go_at_call 82; refine (cg _).mono ?_; rintro e w8 ⟨rfl, hb8⟩; have hc8 : Below w7.heap.size w7 w8 := (by first | exact below_call8 hb8 | exact below_acall8 hb8); (first | (have zz := cells_own8 hb8; have z1 := cell_own8 hb8 0 _ rfl; have z2 := cell_own8 hb8 1 _ rfl; have z3 := cell_own8 hb8 2 _ rfl; have y1 := frozen_own8 hb8 0; have y2 := frozen_own8 hb8 1; have y3 := frozen_own8 hb8 2) | skip)))
                  all_goals (
                    go_wp2
                    go_meet
                    first
                      | exact ⟨_, rfl, rfl, Lib.hid (hc8.alloc hc8.size _), Lib.hid (heap_alloc_new w8 _)⟩
                      | exact ⟨_, rfl, rfl, Lib.hid (((hc8.setCell (p := ⟨w7.heap.size, 0, none⟩) (Nat.le_refl _) _).setCell (p := ⟨w7.heap.size, 1, none⟩) (Nat.le_refl _) _).setCell (p := ⟨w7.heap.size, 2, none⟩) (Nat.le_refl _) _), Lib.hid (piece_set8 w8 w7.heap.size _ _ _ zz)⟩)
                case rest =>
                obtain ⟨gp, rfl, rfl, HC9, HGP⟩ := hcut
                have HONE := Lib.hid (HONE.out.later HC9.out)
                have HBB := Lib.hid (HBB.out.trans (HC9.out.mono HBB.out.size))
                obtain ⟨⟨k0, k1, k2⟩, f1, e1, e2⟩ := HKS.out _ HC9.out
                have j0 := cell_of_row wc gp 0 _ _ _ HGP.out
                have j1 := cell_of_row wc gp 1 _ _ _ HGP.out
                have j2 := cell_of_row wc gp 2 _ _ _ HGP.out
                clear HC9 HKS cg f1 e1 e2 k0 k2
                have hz2 : decide (n ≤ z) = true := decide_eq_true hz
                obtain ⟨L, hL⟩ : ∃ L, askTo S D s (K : Int) n (M.take i) ++ (E.take j).filterMap (askE D s (K : Int) n (p0, (q : Int))) = L := ⟨_, rfl⟩
                have HNX := Lib.hid (show putF ((dn : Int), x, y, z) (rowF L) = rowF (askTo S D s (K : Int) n (M.take i) ++ (E.take (j + 1)).filterMap (askE D s (K : Int) n (p0, (q : Int)))) by rw [HNX.out, ← hL, putF_snoc])
                rw [hL] at HLEN HONE
                clear hL
                have cp := specPut8_any (rowF L) (dn : Int) x y z g m c w.heap.size w _ HLEN.out hm9 HONE.out
                go_wp2_with fail
                refine cp.mono ?_
                rintro e w10 ⟨g8, n8, c8, rfl, hn8, o8, b8⟩
                have HN8 := Lib.hid hn8
                clear hn8 cp
                go_wp2
                go_roundw
                case rel => exact ⟨j + 1, g8, n8, c8, by omega, by go_num, rfl, Lib.hid (by rw [← HNX.out]; exact HN8.out), Lib.hid (by rw [← HNX.out]; exact o8), Lib.hid (HBB.out.trans (b8.mono HBB.out.size))⟩
                case measure => simp [intOf]; omega
              · obtain rfl : P = Q := hPQ.2 hok2
                have cg := fun w => specGrow_any t s An q x y z true w hg (by omega) (by omega)
                rw [hap2] at hap
                have HNX := Lib.hid (show askTo S D s (K : Int) n (M.take i) ++ (E.take (j + 1)).filterMap (askE D s (K : Int) n (p0, (q : Int))) = askTo S D s (K : Int) n (M.take i) ++ (E.take j).filterMap (askE D s (K : Int) n (p0, (q : Int))) by rw [fm_no hjl (by rw [hm]; exact hap)])
                clear hap hap2 hok2 hPQ hjl hm hg
                go_wp2
                go_quiet (fail)
                have HONE := Lib.hid (HONE.out.drewN nq)
                have HBB := Lib.hid (below_drewN' HBB.out nq)
                have hb7 := below_drewN' (Below.refl w6.heap.size w6) nq
                obtain ⟨w7, hw7⟩ : ∃ w9, w6.drewN nq = w9 := ⟨_, rfl⟩
                rw [hw7] at hb7 HONE HBB
                rw [hw7]
                have HKS := Lib.hid (fun (w' : World) (h : Below w7.heap.size w7 w') => HKS.out w' (hb7.trans (h.mono hb7.size)))
                clear hw7 hb7 k0 k1 k2 f1 e1 e2
                obtain ⟨⟨k0, k1, k2⟩, f1, e1, e2⟩ := HKS.out w7 (Below.refl _ _)
                go_upto_region 15 with fail
                go_cut [19, 20] (fun s19 s20 wx => ∃ gp : Nat, s19 = .pointer (some ⟨gp, 0, none⟩) ∧ s20 = .bool true ∧ Hid (Below w7.heap.size w7 wx) ∧ Hid (wx.heap[gp]? = some (.cells #[.int .i64 x, .int .i64 y, .int .i64 z] 61 (0, 0))))
                case first =>
                  go_region_held3 (fun w' => (w'.cell? ⟨gt, 0, none⟩ = some (.int .i64 x0) ∧ w'.cell? ⟨gt, 1, none⟩ = some (.int .i64 (dn : Int)) ∧ w'.cell? ⟨gt, 2, none⟩ = some (.int .i64 (An : Int))) ∧ w'.cell? ⟨bD, oD + dn, none⟩ = some (.string t) ∧ w'.cell? ⟨bM, oM + i * 2, none⟩ = some (.int .i64 p0) ∧ w'.cell? ⟨bM, oM + i * 2 + 1, none⟩ = some (.int .i64 (q : Int))) (first | go_keep | exact HKS.out _ hc8 | exact HKS.out _ (hc8.alloc hc8.size _) | exact HKS.out _ (((hc8.setCell (p := ⟨w7.heap.size, 0, none⟩) (Nat.le_refl _) _).setCell (p := ⟨w7.heap.size, 1, none⟩) (Nat.le_refl _) _).setCell (p := ⟨w7.heap.size, 2, none⟩) (Nat.le_refl _) _) | exact HKS.out _ ((Below.refl _ _).alloc (Nat.le_refl _) _))
                    ((go_at_call 82; refine (cg _).mono ?_; rintro e w8 ⟨rfl, hb8⟩; have hc8 : Below w7.heap.size w7 w8 := (by first | exact below_call8 hb8 | exact below_acall8 hb8); (first | (have zz := cells_own8 hb8; have z1 := cell_own8 hb8 0 _ rfl; have z2 := cell_own8 hb8 1 _ rfl; have z3 := cell_own8 hb8 2 _ rfl; have y1 := frozen_own8 hb8 0; have y2 := frozen_own8 hb8 1; have y3 := frozen_own8 hb8 2) | skip)))
                  all_goals (
                    go_wp2
                    go_meet
                    first
                      | exact ⟨_, rfl, rfl, Lib.hid (hc8.alloc hc8.size _), Lib.hid (heap_alloc_new w8 _)⟩
                      | exact ⟨_, rfl, rfl, Lib.hid (((hc8.setCell (p := ⟨w7.heap.size, 0, none⟩) (Nat.le_refl _) _).setCell (p := ⟨w7.heap.size, 1, none⟩) (Nat.le_refl _) _).setCell (p := ⟨w7.heap.size, 2, none⟩) (Nat.le_refl _) _), Lib.hid (piece_set8 w8 w7.heap.size _ _ _ zz)⟩)
                case rest =>
                obtain ⟨gp, rfl, rfl, HC9, HGP⟩ := hcut
                have HONE := Lib.hid (HONE.out.later HC9.out)
                have HBB := Lib.hid (HBB.out.trans (HC9.out.mono HBB.out.size))
                obtain ⟨⟨k0, k1, k2⟩, f1, e1, e2⟩ := HKS.out _ HC9.out
                have j0 := cell_of_row wc gp 0 _ _ _ HGP.out
                have j1 := cell_of_row wc gp 1 _ _ _ HGP.out
                have j2 := cell_of_row wc gp 2 _ _ _ HGP.out
                clear HC9 HKS cg f1 e1 e2 k0 k2
                have hz2 : decide (n ≤ z) = false := decide_eq_false (by omega)
                go_wp2
                go_roundw
                case rel => exact ⟨j + 1, g, m, c, by omega, by go_num, rfl, Lib.hid (by rw [HNX.out]; exact HLEN.out), Lib.hid (by rw [HNX.out]; exact HONE.out), HBB⟩
                case measure => simp [intOf]; omega
          · have u1 : ¬ (j : Int) < (nE : Int) := by omega
            have HEX := Lib.hid (show askTo S D s (K : Int) n (M.take i) ++ (E.take j).filterMap (askE D s (K : Int) n (p0, (q : Int))) = askTo S D s (K : Int) n (M.take (i + 1)) by
              rw [show E.take j = E from List.take_of_length_le (by have := HNE.out; omega), askTo_next hil, HPQ.out, askM, HE1.out])
            have HB4 := Lib.hid (HB3.out.trans (HB.out.mono HB3.out.size))
            go_wp2
            go_roundw
            case rel => exact ⟨i + 1, g, m, c, by omega, by go_num, rfl, Lib.hid (by rw [← HEX.out]; exact HLEN.out), Lib.hid (by rw [← HEX.out]; exact HO.out), HB4⟩
            case measure => simp [intOf]; omega
      · have z1 : ¬ (i : Int) < (nM : Int) := by omega
        have HEX := Lib.hid (show M.take i = M from List.take_of_length_le (by have := HNM.out; omega))
        go_wp2
        go_ret
        exact ⟨_, _, _, rfl, by rw [HR.out, askR, HMK.out]; have h := HO.out; rw [HEX.out] at h; exact h⟩
  · have c0 := fun w h => specShelfOk_is false S a nS cS w ⟨(fun h => absurd h (by decide)), (fun h => absurd h hok)⟩ HNS.out (by omega) h
    have HR := Lib.hid (ask8_not (L := S) (D := D) (s := s) (k := k) (w := v) (n := n) (fun h => hok h.1))
    clear hok
    go_enter Try.func57, Try.ntmps57
    go_wp2_with fail
    refine (c0 _ (HS.out.below ((Below.refl _ _).alloc (Nat.le_refl _) _))).mono ?_
    rintro e w1 ⟨rfl, b1⟩
    go_wp2
    go_ret
    exact ⟨_, _, _, rfl, by rw [HR.out]; exact (One.empty w 79 4).later b1⟩

end Go.Proofs.Ytclblnkeakkdeaa
