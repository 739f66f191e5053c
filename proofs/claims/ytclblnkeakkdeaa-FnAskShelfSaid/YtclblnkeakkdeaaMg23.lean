/-
  The contracts of the program's functions isTrueTwin, shiftsOf, grownAround, FoundBy and FalseTwins. Condition: texts have at most 2^20 bytes.
-/
import Derived.Test.YtclblnkeakkdeaaMg7
import Derived.Test.YtclblnkeakkdeaaMg10
import Derived.Test.YtclblnkeakkdeaaMg12
import Derived.Test.YtclblnkeakkdeaaMg14
import Derived.Test.YtclblnkeakkdeaaMg16
import Derived.Test.YtclblnkeakkdeaaMg21
import Derived.Test.YtclblnkeakkdeaaMg11
import Derived.Test.YtclblnkeakkdeaaMg22
import Derived.StillTailTactics
namespace Go.Proofs.Ytclblnkeakkdeaa
open Go.RowKit

theorem implTrue8_is (r : Bool) (s t : ByteArray) (x y k : Int) (w : World) (hr : r = true ↔ okP s t (x, y, k)) (hx : x ≤ 9223372036854775807) (hy : y ≤ 9223372036854775807) (hs : s.size ≤ 1048576) (ht : t.size ≤ 1048576) :
    Calls Try.prog 86 #[.string s, .string t, .agg #[.int .i64 x, .int .i64 y], .int .i64 k] w fun e w' => e = .returned (.bool r) ∧ Below w.heap.size w w' := by
  have c := fun w => implPieceOk_is r s t x y k w hr hx hy (by omega) (by omega)
  clear hr
  have ha := (Below.refl w.heap.size w).alloc (Nat.le_refl _) (.cells #[.int .i64 x, .int .i64 y] 101)
  go_enter Try.func86, Try.ntmps86
  go_wp2_with fail
  refine (c _).mono ?_
  rintro e w2 ⟨rfl, hb2⟩
  have hbb := ha.trans (hb2.mono ha.size)
  clear ha hb2 c
  go_wp2
  go_ret
  exact ⟨rfl, hbb⟩

/-- The shifts of the first twins, and zeros behind. -/
def shTo (T : List (Int × Int)) (i e : Nat) : Int := if e < i then (T.getD e (0, 0)).1 - (T.getD e (0, 0)).2 else 0
theorem shTo_zero (T : List (Int × Int)) (e : Nat) : shTo T 0 e = 0 := by simp [shTo]
theorem shTo_all (T : List (Int × Int)) : vecI T.length (shTo T T.length) = T.map fun x => x.1 - x.2 := by
  apply List.ext_getElem
  · simp [vecI_len]
  · intro e h1 h2
    have he : e < T.length := by simpa using h2
    rw [vecI_get _ _ _ he]
    simp [shTo, he]

set_option maxRecDepth 4000 in
set_option maxHeartbeats 8000000 in
theorem implShifts_any (T : List (Int × Int)) (a : Option Addr) (n c : Nat) (w : World) (hn : n = T.length) (h9 : n ≤ 1099511627776) (hP : PosT T) (hat : CellsAt w a (pairsC T)) :
    Calls Try.prog 110 #[.slice a n c] w fun e w' => ∃ a' n' c', e = .returned (.slice a' n' c') ∧ One w w.heap.size w' 3 1 a' n' c' (intCells (rowI (T.map fun x => x.1 - x.2))) := by
  have HN := Lib.hid hn
  have HAT := Lib.hid hat
  have HP := Lib.hid hP
  obtain ⟨w1, hmk, hone⟩ := make_zeros w n (by omega)
  obtain ⟨g, hg⟩ : ∃ g, w.heap.size = g := ⟨_, rfl⟩
  have HG := Lib.hid hg
  rw [hg] at hmk
  have hone1 : One w w.heap.size w1 3 1 (some ⟨g, 0, none⟩) n n (intCells (vecI n (shTo T 0))) := by
    rw [hg] at hone ⊢
    rw [vecI_same (f := shTo T 0) (g := fun _ => 0) (fun i _ => shTo_zero T i)]
    exact hone
  clear hn hat hP hg hone
  go_enter Try.func110, Try.ntmps110
  go_wp2
  clear hmk
  go_loopw [10] (fun j_ wr => ∃ j : Nat, j ≤ n ∧ j_ = .int .i64 j ∧ One w w.heap.size wr 3 1 (some ⟨g, 0, none⟩) n n (intCells (vecI n (shTo T j)))) (fun j_ _ => n - (intOf j_).toNat)
  case atStart => exact ⟨0, Nat.zero_le _, rfl, hone1⟩
  case round =>
    clear hone1
    obtain ⟨j, hj, rfl, hone⟩ := hrel
    by_cases hlj : j < n
    · have hjT : j < T.length := by have := HN.out; omega
      obtain ⟨x, hx⟩ : ∃ x, T[j].1 = x := ⟨_, rfl⟩
      obtain ⟨y, hy⟩ : ∃ y, T[j].2 = y := ⟨_, rfl⟩
      obtain ⟨b, o, rfl, hb9, hc⟩ := (HAT.out.below hone.below).pair (fun e => by rw [e] at hjT; simp at hjT)
      obtain ⟨e1, e2⟩ := hc j hjT
      rw [hx] at e1
      rw [hy] at e2
      have hp := HP.out T[j] (List.getElem_mem hjT)
      rw [hx, hy] at hp
      have v1 : IntKind.i64.wrap (x - y) = x - y := IntWalk.i64_in _ (by omega)
      have z1 : (j : Int) < (n : Int) := by omega
      have z0 : (0 : Int) ≤ (j : Int) := by omega
      obtain ⟨v, hv⟩ : ∃ v, shTo T j j = v := ⟨_, rfl⟩
      have kc := vec_cell hone hlj hv
      have hfz := hone.frozen j
      have hnx : shTo T (j + 1) j = x - y := by
        rw [shTo, if_pos (by omega), ← hx, ← hy, List.getD_eq_getElem?_getD, List.getElem?_eq_getElem hjT]; rfl
      have HST := Lib.hid (show ∀ s, One w w.heap.size ((wr.setCell ⟨g, j, none⟩ (.int .i64 (x - y))).drewN s) 3 1 (some ⟨g, 0, none⟩) n n (intCells (vecI n (shTo T (j + 1)))) from fun s =>
        (vec_stored hone hnx (fun i hi hne => by unfold shTo; by_cases h : i < j
                                                 · rw [if_pos (by omega), if_pos h]
                                                 · rw [if_neg (by omega), if_neg h])).drewN s)
      clear hx hy hc hone hnx hv hjT hp
      go_wp2
      go_still_tail 14, (by kernel_rfl)
      change wpList _ _ _ _ _ wr.drew
      go_wp2
      go_roundw
      case rel => exact ⟨j + 1, by omega, by go_num, HST.out 1⟩
      case measure => simp [intOf]; omega
    · obtain rfl : j = n := by omega
      have HO := Lib.hid (show One w w.heap.size wr 3 1 (some ⟨g, 0, none⟩) j j (intCells (T.map fun x => x.1 - x.2)) by
        have h := hone
        rw [HN.out] at h ⊢
        rwa [shTo_all] at h)
      have c3 := implUp_any j (T.map fun x => x.1 - x.2) (some ⟨g, 0, none⟩) j j wr (Nat.le_refl _) (by rw [List.length_map]; exact HN.out) (by omega) (Nat.le_refl _) HO.out.at_
      have HB := Lib.hid HO.out.below
      clear hone HO
      go_wp2_with fail
      refine c3.mono ?_
      rintro e w4 ⟨a5, n5, c5, rfl, h4⟩
      go_wp2
      go_ret
      exact ⟨_, _, _, rfl, h4.under HB.out HB.out.size⟩

theorem upI_of {l : List Int} (h : l.Pairwise ltI) : UpI l := fun i j hij hj => by
  by_cases e : i = j
  · subst e; exact Int.le_refl _
  · have h2 := gup_at h (show i < j by omega) hj
    unfold ltI at h2
    omega

/-- A row that was made whole is a block of its own. -/
theorem One.whole {W : World} {B : Nat} {w : World} {e : TypeId} {s g n : Nat} {xs : List Value} (h : One W B w e s (some ⟨g, 0, none⟩) n n xs) : w.heap[g]? = some (.cells xs.toArray e (0, 0)) := by
  rcases h.own.2 with ⟨hv, _⟩ | ⟨g', cap', cur, hv, _, hg, _, _, hcs, htake⟩
  · simp at hv
  · obtain ⟨rfl, rfl⟩ := (by simpa using hv : g = g' ∧ n = cap')
    rw [List.take_of_length_le (by rw [Array.length_toList, hcs]; exact Nat.le_refl _)] at htake
    rw [hg, ← htake]

/-- The ends by places of shifts. -/
def endV (E : Int → Int) (S : List Int) (e : Nat) : Int := E (S.getD e 0)

set_option maxRecDepth 4000 in
set_option maxHeartbeats 16000000 in
theorem implGrown_any (s t : ByteArray) (T : List (Int × Int)) (k n : Int) (a : Option Addr) (nT c : Nat) (R : List En) (w : World) (hR : rowE (foundTo s t k n T) = R) (hk : 1 ≤ k) (hn : nT = T.length) (h9 : nT ≤ 1099511627776) (hO : OrdT T) (hP : PosT T) (hs : s.size ≤ 1048576) (ht : t.size ≤ 1048576) (hat : CellsAt w a (pairsC T)) :
    Calls Try.prog 80 #[.string s, .string t, .slice a nT c, .int .i64 k, .int .i64 n] w fun e w' => ∃ a' n' c', e = .returned (.slice a' n' c') ∧ One w w.heap.size w' 61 3 a' n' c' (entsC R) := by
  have HR := Lib.hid hR
  have HN := Lib.hid hn
  have HO := Lib.hid hO
  have HP := Lib.hid hP
  have HAT := Lib.hid hat
  have c1 := implShifts_any T a nT c w hn h9 hP hat
  have HSM := Lib.hid (fun (i : Nat) (hi : i < T.length) => (rowI_mem (T.map fun x => x.1 - x.2) (T[i].1 - T[i].2)).2 (List.mem_map.2 ⟨T[i], List.getElem_mem hi, rfl⟩))
  have HSU := Lib.hid (rowI_is (T.map fun x => x.1 - x.2)).up
  have HSL := Lib.hid (rowI_len (T.map fun x => x.1 - x.2))
  obtain ⟨S, hS⟩ : ∃ S, rowI (T.map fun x => x.1 - x.2) = S := ⟨_, rfl⟩
  rw [hS] at c1 HSM HSU HSL
  clear hR hn hO hP hat hS
  go_enter Try.func80, Try.ntmps80
  go_wp2_with fail
  refine c1.mono ?_
  rintro e w2 ⟨aS, nS, cS, rfl, oS⟩
  have HNS := Lib.hid (ints_lenN oS.own)
  have HSA := Lib.hid oS.at_
  have HAT2 := Lib.hid (HAT.out.below oS.below)
  have HB2 := Lib.hid oS.below
  have hnS : nS ≤ 1099511627776 := by
    have h1 := HSL.out
    rw [List.length_map] at h1
    have := HNS.out
    have := HN.out
    omega
  obtain ⟨w3, hmk, hone⟩ := make_zeros w2 nS (by omega)
  obtain ⟨g, hg⟩ : ∃ g, w2.heap.size = g := ⟨_, rfl⟩
  have HG := Lib.hid hg
  rw [hg] at hmk
  have hone3 : One w2 w2.heap.size w3 3 1 (some ⟨g, 0, none⟩) nS nS (intCells (vecI nS (endV (fun _ => 0) S))) := by
    rw [hg] at hone ⊢
    exact hone
  have HSD := Lib.hid (show Side w3 w2.heap.size (.slice none 0 0) 3 g (intCells (vecI nS (endV (fun _ => 0) S))) from ⟨hone3.whole, by omega, by simp [Value.ownBlock]⟩)
  have HL := Lib.hid ((One.nil w3 61 3).under hone3.below hone3.below.size)
  clear c1 oS hone hone3 hg
  go_wp2
  clear hmk
  go_loopw [13, 26] (fun u i_ wr => ∃ (i m d : Nat) (aL : Option Addr) (E : Int → Int) (L : List En), i ≤ nT ∧ i_ = .int .i64 (i : Int) ∧ u = .slice aL m d ∧ Hid (GrownI s t k n T i E L) ∧ Hid (One w2 w2.heap.size wr 61 3 aL m d (entsC L)) ∧ Hid (Side wr w2.heap.size (.slice aL m d) 3 g (intCells (vecI nS (endV E S))))) (fun _ i_ _ => nT - (intOf i_).toNat)
  case atStart => exact ⟨0, 0, 0, none, fun _ => 0, [], Nat.zero_le _, rfl, rfl, Lib.hid (grown_start s t k n T), HL, HSD⟩
  case round =>
    clear HL HSD
    obtain ⟨i, m, d, aL, E, L, hi, rfl, rfl, HI, HL, HSD⟩ := hrel
    have hm9 : m ≤ 1099511627776 := by
      have h1 := ents_len7 HL.out.own
      have h2 := HI.out.len
      omega
    by_cases hlt : i < nT
    · have hil : i < T.length := by have := HN.out; omega
      obtain ⟨x, hx⟩ : ∃ x, T[i].1 = x := ⟨_, rfl⟩
      obtain ⟨y, hy⟩ : ∃ y, T[i].2 = y := ⟨_, rfl⟩
      obtain ⟨b, o, rfl, hb9, hc⟩ := (HAT2.out.below HL.out.below).pair (fun e => by rw [e] at hil; simp at hil)
      obtain ⟨e1, e2⟩ := hc i hil
      have hp := HP.out T[i] (List.getElem_mem hil)
      have hmem := HSM.out i hil
      have hwith := HI.out.within HO.out HP.out hk hil
      have hlies := HI.out.lies (n := n) hil
      have hgrows := fun E' => HI.out.grows (E' := E') (n := n) hk hil
      have hroom := HI.out.room (x - y)
      rw [hx, hy] at hp hmem hwith
      rw [hx] at e1
      rw [hy] at e2
      rw [hx, hy] at hlies
      simp only [hx, hy] at hgrows
      obtain ⟨q, hq⟩ : ∃ q, posI S (x - y) = q := ⟨_, rfl⟩
      obtain ⟨j, hj, hjS⟩ := List.getElem_of_mem hmem
      have hqj : j = q := by
        rw [← hq, ← hjS]
        exact (posI_mem HSU.out hj).symm
      subst hqj
      have hqn : j < nS := by have := HNS.out; omega
      have hSj : S.getD j 0 = x - y := by rw [List.getD_eq_getElem?_getD, List.getElem?_eq_getElem hj, hjS]; rfl
      have hSne : ∀ p, p < nS → p ≠ j → S.getD p 0 ≠ x - y := fun p hp hne e => by
        have hpS : p < S.length := by have := HNS.out; omega
        rw [List.getD_eq_getElem?_getD, List.getElem?_eq_getElem hpS] at e
        have e : S[p] = x - y := e
        have h1 := posI_mem HSU.out hpS
        rw [e, hq] at h1
        exact hne h1.symm
      obtain ⟨v, hv⟩ : ∃ v, E (x - y) = v := ⟨_, rfl⟩
      have hev : endV E S j = v := by rw [endV, hSj, hv]
      rw [hv] at hwith hroom
      have cF := fun w' (hb : Below w2.heap.size w2 w') => implFirstN_any S (x - y) aS nS cS w' HNS.out hnS (upI_of HSU.out) (HSA.out.below hb)
      simp only [hq] at cF
      have v1 : IntKind.i64.wrap (x - y) = x - y := IntWalk.i64_in _ (by omega)
      have z1 : (i : Int) < (nT : Int) := by omega
      have z0 : (0 : Int) ≤ (i : Int) := by omega
      have z3 : (j : Int) < (nS : Int) := by omega
      have z2 : (0 : Int) ≤ (j : Int) := by omega
      have ha := (Below.refl wr.heap.size wr).alloc (Nat.le_refl _) (.cells #[.int .i64 x, .int .i64 y] 101)
      have S5 := Side.fresh (w := wr) (B := 0) (v := .slice none 0 0) 101 [.int .i64 x, .int .i64 y] (Nat.zero_le _) (by intro k hk; simp [Value.ownBlock] at hk)
      have HL5 := Lib.hid (HL.out.later ha)
      have HSD5 := Lib.hid (HSD.out.later ha)
      have hgw := HSD.out.lt
      have HQ := Lib.hid hq
      have HSJ := Lib.hid hSj
      have HSN := Lib.hid hSne
      have HEV := Lib.hid hev
      have HX := Lib.hid hx
      have HY := Lib.hid hy
      clear hc hmem hj hjS hSj hSne hev hq hx hy HL HSD hv
      have hB5 := Lib.hid HL5.out.below
      go_wp2_with fail
      refine (cF _ hB5.out).mono ?_
      rintro e w6 ⟨rfl, rfl⟩
      clear cF hB5
      by_cases hvx : x < v
      · have HI2 := Lib.hid (hwith hvx)
        have t1 : decide (x < v) = true := decide_eq_true hvx
        have ke := HSD5.out.cell j (.int .i64 v) (by simp [intCells, hqn, vecI, HEV.out])
        have k0 := S5.cell 0 _ rfl
        have k1 := S5.cell 1 _ rfl
        clear hvx hwith hlies hgrows hroom hp
        go_wp2
        obtain ⟨w5, hw5⟩ : ∃ w9, wr.alloc (.cells #[.int .i64 x, .int .i64 y] 101) = w9 := ⟨_, rfl⟩
        obtain ⟨gt, hgt⟩ : ∃ g, wr.heap.size = g := ⟨_, rfl⟩
        rw [hw5] at HL5 HSD5 ke k0 k1
        rw [hgt] at k0 k1
        rw [hw5, hgt]
        have ha := Lib.hid ha
        clear hw5 S5
        have hgt := Lib.hid hgt
        go_quiet (fail)
        go_wp2
        go_roundw
        case rel => exact ⟨i + 1, m, d, aL, E, L, by omega, by go_num, rfl, HI2, Lib.hid (HL5.out.drewN _), Lib.hid (HSD5.out.drewN _)⟩
        case measure => simp [intOf]; omega
      · have t1 : decide (x < v) = false := decide_eq_false hvx
        have ke := HSD5.out.cell j (.int .i64 v) (by simp [intCells, hqn, vecI, HEV.out])
        have hg5 := HSD5.out.lt
        have k0 := S5.cell 0 _ rfl
        have k1 := S5.cell 1 _ rfl
        by_cases hrun : k.toNat ≤ runP s t x.toNat y.toNat
        · have cT := fun w => implTrue8_is true s t x y k w ⟨fun _ => (okP_run hp.1 hp.2.2.1 hk).2 hrun, fun _ => rfl⟩ hp.2.1 hp.2.2.2 hs ht
          obtain ⟨X, rfl⟩ : ∃ X : Nat, x = (X : Int) := ⟨x.toNat, by have := hp.1; omega⟩
          obtain ⟨Y, rfl⟩ : ∃ Y : Nat, y = (Y : Int) := ⟨y.toNat, by have := hp.2.2.1; omega⟩
          simp only [Int.toNat_natCast] at hgrows hrun
          have hsm : sm s t X Y := runP_same s t X Y 0 (by omega)
          have hrm := runP_room s t X Y (by have := hsm.1; omega) (by have := hsm.2.1; omega)
          have hend := growN_end s t X Y
          have hgt2 := growT_yes hsm
          obtain ⟨⟨p1, p2, p3⟩, hgn⟩ : ∃ r, growN s t X Y = r := ⟨_, rfl⟩
          rw [hgn] at hend hgt2 hgrows
          have cG := fun w => implGrow_any s t X Y p1 p2 p3 true w hgt2 (by omega) (by omega) (by omega) (by omega)
          have hp0 : 0 ≤ p1 + p3 ∧ p1 + p3 ≤ 1048576 := by simp only at hend; omega
          have v2 : IntKind.i64.wrap (p1 + p3) = p1 + p3 := IntWalk.i64_in _ (by omega)
          obtain ⟨E', hE'⟩ : ∃ E' : Int → Int, E' = fun dd => if dd = (X : Int) - (Y : Int) then p1 + p3 else E dd := ⟨_, rfl⟩
          have hE1 : E' ((X : Int) - (Y : Int)) = p1 + p3 := by rw [hE']; simp
          have hE2 : ∀ dd, dd ≠ (X : Int) - (Y : Int) → E' dd = E dd := fun dd h => by rw [hE']; simp [h]
          have hgr := hgrows E' hrun hE1 hE2
          have HEV2 := Lib.hid (show endV E' S j = p1 + p3 by rw [endV, HSJ.out]; exact hE1)
          have HEN := Lib.hid (show ∀ p, p < nS → p ≠ j → endV E' S p = endV E S p from fun p hp hne => hE2 _ (HSN.out p hp hne))
          simp only at hgr
          clear hvx hwith hlies hgrows hroom hp hrun hsm hrm hend hgt2 hgn hp0 hE1 hE2 hE'
          go_wp2
          obtain ⟨w5, hw5⟩ : ∃ w9, wr.alloc (.cells #[.int .i64 (X : Int), .int .i64 (Y : Int)] 101) = w9 := ⟨_, rfl⟩
          have hgt5 : wr.heap.size < w5.heap.size := by rw [← hw5]; simp
          obtain ⟨gt, hgt⟩ : ∃ g, wr.heap.size = g := ⟨_, rfl⟩
          rw [hw5] at HL5 HSD5 ke k0 k1 hg5
          rw [hgt] at k0 k1 hgt5
          rw [hw5, hgt]
          have HKS := Lib.hid (show ∀ w', Below w5.heap.size w5 w' → w'.cell? ⟨gt, 0, none⟩ = some (.int .i64 (X : Int)) ∧ w'.cell? ⟨gt, 1, none⟩ = some (.int .i64 (Y : Int)) ∧ w'.cell? ⟨g, j, none⟩ = some (.int .i64 v) from fun w' h => ⟨(h.cell hgt5).trans k0, (h.cell hgt5).trans k1, (h.cell hg5).trans ke⟩)
          have ha := Lib.hid ha
          clear hw5 S5 hg5 hgt5
          have hgt := Lib.hid hgt
          go_region_held3 (fun w' => w'.cell? ⟨gt, 0, none⟩ = some (.int .i64 (X : Int)) ∧ w'.cell? ⟨gt, 1, none⟩ = some (.int .i64 (Y : Int)) ∧ w'.cell? ⟨g, j, none⟩ = some (.int .i64 v)) (first | go_keep | exact HKS.out _ (Below.trans (by repeat (first | exact Below.refl _ _ | refine Below.drew ?_ | refine below_drewN' ?_ _)) (hb6.mono (by simp))))
            ((go_at_call 86; refine (cT _).mono ?_; rintro e w6 ⟨rfl, hb6⟩))
          have W6 : Below w5.heap.size w5 w6 := Below.trans (by repeat (first | exact Below.refl _ _ | refine Below.drew ?_ | refine below_drewN' ?_ _)) (hb6.mono (by simp))
          have HL6 := Lib.hid (HL5.out.later W6)
          have HSD6 := Lib.hid (HSD5.out.later W6)
          obtain ⟨k0, k1, ke⟩ := HKS.out w6 W6
          clear hb6 W6 HKS cT HL5 HSD5 ke
          go_wp2_with fail
          refine (cG _).mono ?_
          rintro e w7 ⟨rfl, b7⟩
          have hb7 := (Below.refl w7.heap.size w7).alloc (Nat.le_refl _) (.cells #[.int .i64 p1, .int .i64 p2, .int .i64 p3] 61)
          have S8 := Side.fresh (w := w7) (B := 0) (v := .slice none 0 0) 61 [.int .i64 p1, .int .i64 p2, .int .i64 p3] (Nat.zero_le _) (by intro k hk; simp [Value.ownBlock] at hk)
          have HL8 := Lib.hid ((HL6.out.later b7).later hb7)
          have HSD8 := Lib.hid ((HSD6.out.later b7).later hb7)
          have hne8 : w7.heap.size ≠ g := fun e => by
            have h1 := (HSD6.out.later b7).lt
            omega
          clear b7 hb7 k0 k1 cG HL6 HSD6
          have kj := HSD8.out.cell j (.int .i64 v) (by simp [intCells, hqn, vecI, HEV.out])
          have hfz := HSD8.out.frozen j
          have HL9 := Lib.hid (HL8.out.beside HSD8.out.base HSD8.out.apart j (.int .i64 (p1 + p3)))
          have HSD9 := Lib.hid (show Side ((w7.alloc (.cells #[.int .i64 p1, .int .i64 p2, .int .i64 p3] 61)).setCell ⟨g, j, none⟩ (.int .i64 (p1 + p3))) w2.heap.size (.slice aL m d) 3 g (intCells (vecI nS (endV E' S))) by
            have h := HSD8.out.set_self j (.int .i64 (p1 + p3))
            have e1 : (intCells (vecI nS (endV E S))).set j (.int .i64 (p1 + p3)) = intCells (vecI nS (endV E' S)) := by
              rw [← vecI_set HEV2.out (fun p hp hne => HEN.out p hp hne), intCells, intCells, List.map_set]
            rwa [e1] at h)
          have S9 := S8.set_other hne8 j (.int .i64 (p1 + p3))
          have q0 := S9.cell 0 _ rfl
          have q1 := S9.cell 1 _ rfl
          have q2 := S9.cell 2 _ rfl
          clear S8 S9 HL8 HSD8 hne8
          by_cases hz : n ≤ p3
          · have HI2 := Lib.hid (hgr.1 hz)
            have hz2 : decide (n ≤ p3) = true := decide_eq_true hz
            have HE3 := Lib.hid (show entsC (L ++ [(p1, p2, p3)]) = entsC L ++ [.int .i64 p1, .int .i64 p2, .int .i64 p3] from entsC_snoc L (p1, p2, p3))
            have hsz : ((w7.alloc (.cells #[.int .i64 p1, .int .i64 p2, .int .i64 p3] 61)).setCell ⟨g, j, none⟩ (.int .i64 (p1 + p3))).heap.size = w7.heap.size + 1 := by simp [World.setCell]
            clear hgr hz
            go_wp2_with (at_builtin; refine wpList_append_apart rfl (.tmp 74) (.tmp 76) 56 rfl Try.ulP7 Try.infoP7 rfl (by decide) HL9.out rfl #[.int .i64 p1, .int .i64 p2, .int .i64 p3] (by rw [hsz]; rfl) rfl (by simp [Value.oneCell']) (by unfold maxLen; omega) (by omega) ?_; intro a6 c6 w6 o6 g6 s6)
            have HSDA := Lib.hid (HSD9.out.grow g6 s6)
            clear g6 s6
            go_roundw
            case rel => exact ⟨i + 1, m + 1, c6, a6, E', L ++ [(p1, p2, p3)], by omega, by go_num, rfl, HI2, Lib.hid (by rw [HE3.out]; exact o6), HSDA⟩
            case measure => simp [intOf]; omega
          · have HI2 := Lib.hid (hgr.2 (by omega))
            have hz2 : decide (n ≤ p3) = false := decide_eq_false hz
            clear hgr hz
            go_wp2
            go_roundw
            case rel => exact ⟨i + 1, m, d, aL, E', L, by omega, by go_num, rfl, HI2, HL9, HSD9⟩
            case measure => simp [intOf]; omega
        · have cT := fun w => implTrue8_is false s t x y k w ⟨(fun h => absurd h (by decide)), fun h => absurd ((okP_run hp.1 hp.2.2.1 hk).1 h) hrun⟩ hp.2.1 hp.2.2.2 hs ht
          have HI2 := Lib.hid (hlies hrun)
          clear hvx hwith hlies hgrows hroom hp hrun
          go_wp2
          obtain ⟨w5, hw5⟩ : ∃ w9, wr.alloc (.cells #[.int .i64 x, .int .i64 y] 101) = w9 := ⟨_, rfl⟩
          have hgt5 : wr.heap.size < w5.heap.size := by rw [← hw5]; simp
          obtain ⟨gt, hgt⟩ : ∃ g, wr.heap.size = g := ⟨_, rfl⟩
          rw [hw5] at HL5 HSD5 ke k0 k1 hg5
          rw [hgt] at k0 k1 hgt5
          rw [hw5, hgt]
          have HKS := Lib.hid (show ∀ w', Below w5.heap.size w5 w' → w'.cell? ⟨gt, 0, none⟩ = some (.int .i64 x) ∧ w'.cell? ⟨gt, 1, none⟩ = some (.int .i64 y) ∧ w'.cell? ⟨g, j, none⟩ = some (.int .i64 v) from fun w' h => ⟨(h.cell hgt5).trans k0, (h.cell hgt5).trans k1, (h.cell hg5).trans ke⟩)
          have ha := Lib.hid ha
          clear hw5 S5 hg5 hgt5
          have hgt := Lib.hid hgt
          go_region_held3 (fun w' => w'.cell? ⟨gt, 0, none⟩ = some (.int .i64 x) ∧ w'.cell? ⟨gt, 1, none⟩ = some (.int .i64 y) ∧ w'.cell? ⟨g, j, none⟩ = some (.int .i64 v)) (first | go_keep | exact HKS.out _ (Below.trans (by repeat (first | exact Below.refl _ _ | refine Below.drew ?_ | refine below_drewN' ?_ _)) (hb6.mono (by simp))))
            ((go_at_call 86; refine (cT _).mono ?_; rintro e w6 ⟨rfl, hb6⟩))
          have W6 : Below w5.heap.size w5 w6 := Below.trans (by repeat (first | exact Below.refl _ _ | refine Below.drew ?_ | refine below_drewN' ?_ _)) (hb6.mono (by simp))
          have HL6 := Lib.hid (HL5.out.later W6)
          have HSD6 := Lib.hid (HSD5.out.later W6)
          clear hb6 W6 HKS cT HL5 HSD5 k0 k1 ke
          go_wp2
          go_roundw
          case rel => exact ⟨i + 1, m, d, aL, E, L, by omega, by go_num, rfl, HI2, HL6, HSD6⟩
          case measure => simp [intOf]; omega
    · have HIL := Lib.hid (show i = T.length by have := HN.out; omega)
      have HRR := Lib.hid (HI.out.done HIL.out)
      have c5 := implSorted7_any m L aL m d wr (Nat.le_refl _) (ents_len7 HL.out.own) (by omega) HL.out.cap.1 HL.out.at_
      have HB := Lib.hid (HB2.out.trans (HL.out.below.mono HB2.out.size))
      go_wp2_with fail
      refine c5.mono ?_
      rintro e w6 ⟨a6, n6, c6, rfl, o6⟩
      go_wp2
      go_ret
      exact ⟨_, _, _, rfl, by rw [← HR.out, ← HRR.out]; exact o6.under HB.out HB.out.size⟩

set_option maxHeartbeats 8000000 in
theorem implFound_any (s t : ByteArray) (k v n : Int) (R : List En) (w : World) (h : foundL s t k v n = R) (hs : s.size ≤ 1048576) (ht : t.size ≤ 1048576) (hv9 : v ≤ 9223372036854775807) :
    Calls Try.prog 39 #[.string s, .string t, .int .i64 k, .int .i64 v, .int .i64 n] w fun e w' => ∃ a m c, e = .returned (.slice a m c) ∧ One w w.heap.size w' 61 3 a m c (entsC R) := by
  subst h
  by_cases hno : k < 1 ∨ v < 1 ∨ n < 1
  · have HE := Lib.hid (foundL_none (s := s) (t := t) hno)
    have hc : decide (k < 1) = true ∨ (decide (k < 1) = false ∧ decide (v < 1) = true) ∨ (decide (k < 1) = false ∧ decide (v < 1) = false ∧ decide (n < 1) = true) := by
      by_cases h1 : k < 1
      · exact .inl (decide_eq_true h1)
      · by_cases h2 : v < 1
        · exact .inr (.inl ⟨decide_eq_false h1, decide_eq_true h2⟩)
        · exact .inr (.inr ⟨decide_eq_false h1, decide_eq_false h2, decide_eq_true (by omega)⟩)
    clear hno
    rcases hc with t1 | ⟨t1, t2⟩ | ⟨t1, t2, t3⟩
    all_goals (
      go_enter Try.func39, Try.ntmps39
      go_wp2
      go_ret
      exact ⟨_, _, _, rfl, by rw [HE.out]; exact One.nil w 61 3⟩)
  · have hk1 : 1 ≤ k := by omega
    obtain ⟨A, hA⟩ : ∃ A, mkL s k v = A := ⟨_, rfl⟩
    obtain ⟨B, hB⟩ : ∃ A, mkL t k v = A := ⟨_, rfl⟩
    have HR := Lib.hid (show rowE (foundTo s t k n (twinsL A B)) = foundL s t k v n by rw [foundL, if_neg (by omega), hA, hB])
    have HOT := Lib.hid (show OrdT (twinsL A B) by rw [← hA, ← hB]; exact twins_ord s t k v)
    have HPT := Lib.hid (show PosT (twinsL A B) by rw [← hA, ← hB]; exact twins_pos hs ht)
    have cA := fun w => implMarks_any s k v A w hA (by omega) hv9
    have cB := fun w => implMarks_any t k v B w hB (by omega) hv9
    have hAl : A.length ≤ 1048576 := by rw [← hA]; exact Nat.le_trans (mkL_len s k v) hs
    have hBl : B.length ≤ 1048576 := by rw [← hB]; exact Nat.le_trans (mkL_len t k v) ht
    have t1 : decide (k < 1) = false := decide_eq_false (by omega)
    have t2 : decide (v < 1) = false := decide_eq_false (by omega)
    have t3 : decide (n < 1) = false := decide_eq_false (by omega)
    clear hA hB hno
    go_enter Try.func39, Try.ntmps39
    go_wp2_with fail
    refine (cA _).mono ?_
    rintro e w1 ⟨aA, nA, dA, rfl, oA⟩
    go_wp2_with fail
    refine (cB _).mono ?_
    rintro e w2 ⟨aB, nB, dB, rfl, oB⟩
    have cT := implTwins_any A B aA nA dA aB nB dB w2 (pairs_len oA.own) (pairs_len oB.own) (by have := pairs_len oA.own; omega) (by have := pairs_len oB.own; omega) (oA.later oB.below).at_ oB.at_
    go_wp2_with fail
    refine cT.mono ?_
    rintro e w3 ⟨aT, nT, dT, rfl, oT⟩
    have hnT : nT ≤ 1099511627776 := by
      have h1 := pairs_len oT.own
      have h2 := twinsL_len A B 1048576 hBl
      have h3 : A.length * 1048576 ≤ 1048576 * 1048576 := Nat.mul_le_mul hAl (Nat.le_refl _)
      omega
    have cG := implGrown_any s t (twinsL A B) k n aT nT dT (foundL s t k v n) w3 HR.out hk1 (pairs_len oT.own) hnT HOT.out HPT.out hs ht oT.at_
    have HB3 := Lib.hid (show Below w.heap.size w w3 from (oA.below.trans (oB.below.mono oA.below.size)).trans (oT.below.mono (Nat.le_trans oA.below.size oB.below.size)))
    clear cA cB cT oA oB oT
    go_wp2_with fail
    refine cG.mono ?_
    rintro e w4 ⟨a4, n4, c4, rfl, o4⟩
    go_wp2
    go_ret
    exact ⟨_, _, _, rfl, o4.under HB3.out HB3.out.size⟩

set_option maxHeartbeats 8000000 in
theorem implFalse_any (s t : ByteArray) (k v : Int) (w : World) (hs : s.size ≤ 1048576) (ht : t.size ≤ 1048576) (hv9 : v ≤ 9223372036854775807) :
    Calls Try.prog 45 #[.string s, .string t, .int .i64 k, .int .i64 v] w fun e w' => e = .returned (.int .i64 ((falseN s t k v : Nat) : Int)) ∧ Below w.heap.size w w' := by
  obtain ⟨A, hA⟩ : ∃ A, mkL s k v = A := ⟨_, rfl⟩
  obtain ⟨B, hB⟩ : ∃ A, mkL t k v = A := ⟨_, rfl⟩
  have HR := Lib.hid (show falseN s t k v = falseTo s t k (twinsL A B) by rw [falseN, hA, hB])
  have cA := fun w => implMarks_any s k v A w hA (by omega) hv9
  have cB := fun w => implMarks_any t k v B w hB (by omega) hv9
  have hAl : A.length ≤ 1048576 := by rw [← hA]; exact Nat.le_trans (mkL_len s k v) hs
  have hBl : B.length ≤ 1048576 := by rw [← hB]; exact Nat.le_trans (mkL_len t k v) ht
  have HA := Lib.hid hA
  have HB2 := Lib.hid hB
  clear hA hB
  go_enter Try.func45, Try.ntmps45
  go_wp2_with fail
  refine (cA _).mono ?_
  rintro e w1 ⟨aA, nA, dA, rfl, oA⟩
  go_wp2_with fail
  refine (cB _).mono ?_
  rintro e w2 ⟨aB, nB, dB, rfl, oB⟩
  have cT := implTwins_any A B aA nA dA aB nB dB w2 (pairs_len oA.own) (pairs_len oB.own) (by have := pairs_len oA.own; omega) (by have := pairs_len oB.own; omega) (oA.later oB.below).at_ oB.at_
  go_wp2_with fail
  refine cT.mono ?_
  rintro e w3 ⟨aT, nT, dT, rfl, oT⟩
  obtain ⟨T, hT⟩ : ∃ T, twinsL A B = T := ⟨_, rfl⟩
  rw [hT] at oT
  have HT := Lib.hid oT.at_
  have HNT := Lib.hid (pairs_len oT.own)
  have HTE := Lib.hid hT
  have hnT : nT ≤ 1099511627776 := by
    have h1 := pairs_len oT.own
    have h2 := twinsL_len A B 1048576 hBl
    have h3 : A.length * 1048576 ≤ 1048576 * 1048576 := Nat.mul_le_mul hAl (Nat.le_refl _)
    rw [hT] at h2
    omega
  have B3 := Lib.hid (show Below w.heap.size w w3 from (oA.below.trans (oB.below.mono oA.below.size)).trans (oT.below.mono (Nat.le_trans oA.below.size oB.below.size)))
  clear cA cB cT oA oB oT hT
  go_wp2
  go_loopw [9, 22] (fun u i_ wr => ∃ (i c : Nat), i ≤ nT ∧ c ≤ i ∧ i_ = .int .i64 (i : Int) ∧ u = .int .i64 (c : Int) ∧ Hid (c = falseTo s t k (T.take i)) ∧ Hid (Below w3.heap.size w3 wr)) (fun _ i_ _ => nT - (intOf i_).toNat)
  case atStart => exact ⟨0, 0, Nat.zero_le _, Nat.le_refl _, rfl, rfl, Lib.hid rfl, Lib.hid (Below.refl _ _)⟩
  case round =>
    obtain ⟨i, c, hi, hci, rfl, rfl, HC, HB⟩ := hrel
    by_cases hlt : i < nT
    · have hil : i < T.length := by have := HNT.out; omega
      have hmem : T[i] ∈ twinsL (mkL s k v) (mkL t k v) := by rw [HA.out, HB2.out, HTE.out]; exact List.getElem_mem hil
      obtain ⟨X, Y, K, rfl, hk1, hxy, hX, hY, _⟩ := twin_in hmem
      obtain ⟨b, o, rfl, hb9, hc⟩ := (HT.out.below HB.out).pair (fun e => by rw [e] at hil; simp at hil)
      obtain ⟨e1, e2⟩ := hc i hil
      rw [hxy] at e1 e2
      have z1 : (i : Int) < (nT : Int) := by omega
      have z0 : (0 : Int) ≤ (i : Int) := by omega
      have hiff := okP_run (s := s) (t := t) (x := (X : Int)) (y := (Y : Int)) (k := (K : Int)) (by omega) (by omega) (by omega)
      simp only [Int.toNat_natCast] at hiff
      have ha := (Below.refl wr.heap.size wr).alloc (Nat.le_refl _) (.cells #[.int .i64 (X : Int), .int .i64 (Y : Int)] 101)
      have hbb := Lib.hid (HB.out.trans (ha.mono HB.out.size))
      clear hmem hc
      by_cases hok : K ≤ runP s t X Y
      · have HNX := Lib.hid (falseTo_no (s := s) (t := t) (k := (K : Int)) hil (by rw [hxy]; simpa using hok))
        have c4 := fun w => implTrue8_is true s t (X : Int) (Y : Int) (K : Int) w ⟨fun _ => hiff.2 hok, fun _ => rfl⟩ (by omega) (by omega) hs ht
        clear hok hxy hil HB hiff
        go_wp2_with fail
        refine (c4 _).mono ?_
        rintro e w5 ⟨rfl, hb5⟩
        have hbb := Lib.hid (hbb.out.trans (hb5.mono hbb.out.size))
        clear hb5 c4 ha
        go_wp2
        go_roundw
        case rel => exact ⟨i + 1, c, by omega, by omega, by go_num, rfl, Lib.hid (by rw [HNX.out, ← HC.out]), hbb⟩
        case measure => simp [intOf]; omega
      · have HNX := Lib.hid (falseTo_yes (s := s) (t := t) (k := (K : Int)) hil (by rw [hxy]; simpa using hok))
        have c4 := fun w => implTrue8_is false s t (X : Int) (Y : Int) (K : Int) w ⟨(fun h => absurd h (by decide)), fun h => absurd (hiff.1 h) hok⟩ (by omega) (by omega) hs ht
        clear hok hxy hil HB hiff
        go_wp2_with fail
        refine (c4 _).mono ?_
        rintro e w5 ⟨rfl, hb5⟩
        have hbb := Lib.hid (hbb.out.trans (hb5.mono hbb.out.size))
        clear hb5 c4 ha
        go_wp2
        go_roundw
        case rel => exact ⟨i + 1, c + 1, by omega, by omega, by go_num, by go_num, Lib.hid (by rw [HNX.out, ← HC.out]), hbb⟩
        case measure => simp [intOf]; omega
    · have z1 : ¬ (i : Int) < (nT : Int) := by omega
      have HE := Lib.hid (show T.take i = T from List.take_of_length_le (by have := HNT.out; omega))
      go_wp2
      go_ret
      exact ⟨by rw [HR.out, HTE.out, HC.out, HE.out]; rfl, B3.out.trans (HB.out.mono B3.out.size)⟩

end Go.Proofs.Ytclblnkeakkdeaa
