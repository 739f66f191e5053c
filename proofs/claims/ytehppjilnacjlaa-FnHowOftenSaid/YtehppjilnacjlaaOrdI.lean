/-
  The contracts of the program's functions statesByLong, endCounts and HowOften. Condition: texts have at most 2^20 bytes.
-/
import Derived.Test.YtehppjilnacjlaaPcsI
import Derived.Test.YtehppjilnacjlaaHowM
import Derived.Test.YtehppjilnacjlaaMathOrd
import Derived.Test.YtehppjilnacjlaaNums
import Derived.Test.YtehppjilnacjlaaSide
import Derived.StillTailTactics
namespace Go.Proofs.Ytehppjilnacjlaa
open Go.RowKit

set_option maxRecDepth 4000 in
set_option maxHeartbeats 16000000 in
theorem implByL_any (L : List Sta) (most : Nat) (g c : Nat) (A : Nat → Sm) (w : World) (hL : L.length ≤ 2097153) (hm9 : most ≤ 1048576) (hmost : ∀ i, i < L.length → (tW L i).length ≤ most) (hst : StAt w (some ⟨g, 0, none⟩) (datL L) A) :
    Calls Try.prog 59 #[.slice (some ⟨g, 0, none⟩) L.length c, .int .i64 most] w fun e w' => ∃ g', e = .returned (.slice (some ⟨g', 0, none⟩) L.length L.length) ∧
      One w w.heap.size w' 3 1 (some ⟨g', 0, none⟩) L.length L.length (intCells (vecI L.length (fun p => (ordN (fun i => (tW L i).length) L.length L.length p : Int)))) := by
  obtain ⟨n, hn⟩ : ∃ n, L.length = n := ⟨_, rfl⟩
  obtain ⟨f, hf⟩ : ∃ f : Nat → Nat, (fun i => (tW L i).length) = f := ⟨_, rfl⟩
  have HN := Lib.hid hn
  have hfi : ∀ i, i < n → f i ≤ most := fun i hi => by rw [← hf]; exact hmost i (by omega)
  have HC := Lib.hid (show ∀ w', Below w.heap.size w w' → ∀ i, i < n → w'.cell? ⟨g, i * 3, none⟩ = some (.int .i64 (f i : Int)) from fun w' hb i hi => by
    obtain ⟨b, o, e1, hb2, hc⟩ := hst.spot (by rw [datL_len]; omega)
    injection e1 with e1
    injection e1 with e1 e2 e3
    subst e1
    subst e2
    have h1 := (hc i (by rw [datL_len]; omega)).1
    rw [Nat.zero_add, datL_at (by omega)] at h1
    rw [← hf]
    exact (hb.cell (p := ⟨g, i * 3, none⟩) hb2).trans h1)
  have HFI := Lib.hid hfi
  rw [hf, hn]
  rw [hn] at hL
  obtain ⟨w1, hmk, hone⟩ := make_zeros w (most + 2) (by omega)
  obtain ⟨g1, hg1⟩ : ∃ g, w.heap.size = g := ⟨_, rfl⟩
  have HG1 := Lib.hid hg1
  rw [hg1] at hmk
  rw [show ((most + 2 : Nat) : Int) = (most : Int) + 2 by omega] at hmk
  have HO1 := Lib.hid (show One w w.heap.size w1 3 1 (some ⟨g1, 0, none⟩) (most + 2) (most + 2) (intCells (vecI (most + 2) (fun v => (plA f 0 v : Int)))) by
    rw [vecI_same (f := fun v => (plA f 0 v : Int)) (g := fun _ => 0) (fun i _ => by show ((plA f 0 i : Nat) : Int) = 0; unfold plA; split <;> simp [ce_zero]), ← hg1]
    exact hone)
  have vm : IntKind.i64.wrap ((most : Int) + 2) = (most : Int) + 2 := IntWalk.i64_in _ (by omega)
  have zm : (0 : Int) ≤ (most : Int) + 2 := by omega
  clear hn hf hst hmost hfi hone hg1
  go_enter Try.func59, Try.ntmps59
  go_wp2
  clear hmk vm zm
  go_loopw [16] (fun i_ wr => ∃ i : Nat, i ≤ n ∧ i_ = .int .i64 (i : Int) ∧ Hid (One w w.heap.size wr 3 1 (some ⟨g1, 0, none⟩) (most + 2) (most + 2) (intCells (vecI (most + 2) (fun v => (plA f i v : Int)))))) (fun i_ _ => n - (intOf i_).toNat)
  case atStart => exact ⟨0, Nat.zero_le _, rfl, HO1⟩
  case round =>
    clear HO1
    obtain ⟨i, hi, rfl, HO⟩ := hrel
    by_cases hlt : i < n
    · obtain ⟨m, hm⟩ : ∃ m, f i = m := ⟨_, rfl⟩
      have hmm := HFI.out i hlt
      rw [hm] at hmm
      have x1 := HC.out wr HO.out.below i hlt
      rw [hm] at x1
      obtain ⟨v, hv⟩ : ∃ v, plA f i (m + 1) = v := ⟨_, rfl⟩
      have hv9 : v ≤ n := by
        rw [← hv, plA, if_neg (by omega)]
        exact Nat.le_trans (ce_le _ _ _) hi
      have x2 := vec_cell HO.out (i := m + 1) (v := (v : Int)) (by omega) (by show ((plA f i (m + 1) : Nat) : Int) = (v : Int); rw [hv])
      have x3 := HO.out.frozen (m + 1)
      have HST := Lib.hid (vec_stored (f' := fun v => (plA f (i + 1) v : Int)) HO.out (i := m + 1) (v := (v : Int) + 1) (by show ((plA f (i + 1) (m + 1) : Nat) : Int) = (v : Int) + 1; rw [← hm, plA_at, hm, hv]; omega) (fun j hj hne => by show ((plA f (i + 1) j : Nat) : Int) = (plA f i j : Int); rw [plA_ne (by rw [hm]; exact hne)]))
      have z0 : (0 : Int) ≤ (i : Int) := by omega
      have z1 : (i : Int) < (n : Int) := by omega
      have z2 : (0 : Int) ≤ (m : Int) + 1 := by omega
      have z3 : (m : Int) + 1 < (most : Int) + 2 := by omega
      have z4 : ((m : Int) + 1).toNat = m + 1 := by omega
      have z5 : (m : Int) + 1 < ((most + 2 : Nat) : Int) := by omega
      have v1 : IntKind.i64.wrap ((m : Int) + 1) = (m : Int) + 1 := IntWalk.i64_in _ (by omega)
      have v2 : IntKind.i64.wrap ((v : Int) + 1) = (v : Int) + 1 := IntWalk.i64_in _ (by omega)
      clear hm hv HO hmm
      go_wp2
      go_roundw
      case rel => exact ⟨i + 1, by omega, by go_num, HST⟩
      case measure => simp [intOf]; omega
    · obtain rfl : i = n := by omega
      have HO2 := Lib.hid (show One w w.heap.size wr 3 1 (some ⟨g1, 0, none⟩) (most + 2) (most + 2) (intCells (vecI (most + 2) (fun v => (plB f i 1 v : Int)))) by
        rw [vecI_same (f := fun v => (plB f i 1 v : Int)) (g := fun v => (plA f i v : Int)) (fun v _ => by show ((plB f i 1 v : Nat) : Int) = _; rw [plB_one])]
        exact HO.out)
      clear HO
      go_wp2
      go_loopw [7] (fun l_ wr => ∃ l : Nat, l + 1 ≤ most + 2 ∧ l_ = .int .i64 ((l : Int) + 1) ∧ Hid (One w w.heap.size wr 3 1 (some ⟨g1, 0, none⟩) (most + 2) (most + 2) (intCells (vecI (most + 2) (fun v => (plB f i (l + 1) v : Int)))))) (fun l_ _ => most + 2 - (intOf l_).toNat)
      case atStart => exact ⟨0, by omega, rfl, HO2⟩
      case round =>
        clear HO2
        obtain ⟨l, hl, rfl, HO⟩ := hrel
        by_cases hll : l + 1 < most + 2
        · obtain ⟨x, hx⟩ : ∃ x, plB f i (l + 1) (l + 1) = x := ⟨_, rfl⟩
          obtain ⟨y, hy⟩ : ∃ x, plB f i (l + 1) l = x := ⟨_, rfl⟩
          have hx9 : x ≤ i := by rw [← hx]; exact plB_le _ _ _ _
          have hy9 : y ≤ i := by rw [← hy]; exact plB_le _ _ _ _
          have x1 := vec_cell HO.out (i := l + 1) (v := (x : Int)) (by omega) (by show ((plB f i (l + 1) (l + 1) : Nat) : Int) = (x : Int); rw [hx])
          have x2 := vec_cell HO.out (i := l) (v := (y : Int)) (by omega) (by show ((plB f i (l + 1) l : Nat) : Int) = (y : Int); rw [hy])
          have x3 := HO.out.frozen (l + 1)
          have HST := Lib.hid (show ∀ q, One w w.heap.size ((wr.setCell ⟨g1, l + 1, none⟩ (.int .i64 ((x : Int) + (y : Int)))).drewN q) 3 1 (some ⟨g1, 0, none⟩) (most + 2) (most + 2) (intCells (vecI (most + 2) (fun v => (plB f i (l + 1 + 1) v : Int)))) from fun q =>
            (vec_stored (f' := fun v => (plB f i (l + 1 + 1) v : Int)) HO.out (i := l + 1) (v := (x : Int) + (y : Int)) (by show ((plB f i (l + 1 + 1) (l + 1) : Nat) : Int) = (x : Int) + (y : Int); rw [plB_at (by omega), hx, Nat.add_sub_cancel, hy]; omega) (fun j hj hne => by show ((plB f i (l + 1 + 1) j : Nat) : Int) = (plB f i (l + 1) j : Int); rw [plB_ne hne])).drewN q)
          have z1 : (l : Int) + 1 < (most : Int) + 2 := by omega
          have z2 : (0 : Int) ≤ (l : Int) + 1 := by omega
          have z3 : ((l : Int) + 1).toNat = l + 1 := by omega
          have z4 : (l : Int) + 1 < ((most + 2 : Nat) : Int) := by omega
          have z5 : (0 : Int) ≤ (l : Int) := by omega
          have z6 : (l : Int) < ((most + 2 : Nat) : Int) := by omega
          have z7 : (l : Int) < (most : Int) + 2 := by omega
          have z8 : (l : Int) + 1 - 1 = (l : Int) := by omega
          have v0 : IntKind.i64.wrap (l : Int) = (l : Int) := IntWalk.i64_in _ (by omega)
          have v1 : IntKind.i64.wrap ((x : Int) + (y : Int)) = (x : Int) + (y : Int) := IntWalk.i64_in _ (by omega)
          have v2 : IntKind.i64.wrap ((l : Int) + 1 + 1) = (l : Int) + 1 + 1 := IntWalk.i64_in _ (by omega)
          clear hx hy HO
          go_wp2
          go_still_tail 11, (by kernel_rfl)
          change wpList _ _ _ _ _ wr.drew
          go_wp2
          go_roundw
          case rel => exact ⟨l + 1, by omega, by go_num, HST.out 1⟩
          case measure => simp [intOf]; omega
        · have hle : l + 1 = most + 2 := by omega
          have HO3 := Lib.hid (show One w w.heap.size wr 3 1 (some ⟨g1, 0, none⟩) (most + 2) (most + 2) (intCells (vecI (most + 2) (fun v => (plC f i 0 v : Int)))) by
            rw [vecI_same (f := fun v => (plC f i 0 v : Int)) (g := fun v => (plB f i (l + 1) v : Int)) (fun v hv => by show ((plC f i 0 v : Nat) : Int) = (plB f i (l + 1) v : Int); rw [plC_zero, plB, if_pos (by omega)])]
            exact HO.out)
          have zl : ¬ ((l : Int) + 1 < (most : Int) + 2) := by omega
          have zl2 : ¬ ((l : Int) + 1 < ((most + 2 : Nat) : Int)) := by omega
          obtain ⟨w2, hmk2, hone2⟩ := make_zeros wr i (by omega)
          obtain ⟨g2, hg2⟩ : ∃ g, wr.heap.size = g := ⟨_, rfl⟩
          have hne : (Value.slice (some ⟨g1, 0, none⟩) (most + 2) (most + 2)).ownBlock ≠ some g2 := fun e => by
            have h1 := HO3.out.block_lt _ e
            omega
          have hBg : w.heap.size ≤ g2 := by rw [← hg2]; exact HO3.out.below.size
          rw [hg2] at hmk2 hone2
          have HO4 := Lib.hid (show One w w.heap.size w2 3 1 (some ⟨g1, 0, none⟩) (most + 2) (most + 2) (intCells (vecI (most + 2) (fun v => (plC f i 0 v : Int)))) from HO3.out.later (by rw [hg2]; exact hone2.below))
          have HQ4 := Lib.hid (show One w w.heap.size w2 3 1 (some ⟨g2, 0, none⟩) i i (intCells (vecI i (fun p => (ordN f i 0 p : Int)))) by
            rw [vecI_same (f := fun p => (ordN f i 0 p : Int)) (g := fun _ => 0) (fun p _ => by show ((ordN f i 0 p : Nat) : Int) = 0; rw [ord_zero]; rfl)]
            exact hone2.under (by have h := HO3.out.below; exact h) (by exact hBg))
          have HNE := Lib.hid hne
          have HNE2 := Lib.hid (show (Value.slice (some ⟨g2, 0, none⟩) i i).ownBlock ≠ some g1 from fun e => by
            simp [Value.ownBlock] at e
            exact hne (by simp [Value.ownBlock, e]))
          have HBG := Lib.hid hBg
          have HBG1 := Lib.hid (show w.heap.size ≤ g1 by rw [HG1.out]; exact Nat.le_refl _)
          clear hone2 hg2 hne hBg HO3 HO
          go_wp2
          clear hmk2
          go_loopw [53] (fun k_ wr => ∃ k : Nat, k ≤ i ∧ k_ = .int .i64 (k : Int) ∧ Hid (One w w.heap.size wr 3 1 (some ⟨g1, 0, none⟩) (most + 2) (most + 2) (intCells (vecI (most + 2) (fun v => (plC f i k v : Int))))) ∧ Hid (One w w.heap.size wr 3 1 (some ⟨g2, 0, none⟩) i i (intCells (vecI i (fun p => (ordN f i k p : Int)))))) (fun k_ _ => i - (intOf k_).toNat)
          case atStart => exact ⟨0, Nat.zero_le _, rfl, HO4, HQ4⟩
          case round =>
            clear HO4 HQ4
            obtain ⟨k, hk, rfl, HO, HQ⟩ := hrel
            by_cases hkk : k < i
            · obtain ⟨m, hm⟩ : ∃ m, f k = m := ⟨_, rfl⟩
              have hmm := HFI.out k hkk
              have x1 := HC.out wr HO.out.below k hkk
              rw [hm] at hmm x1
              obtain ⟨p, hp⟩ : ∃ p, plC f i k m = p := ⟨_, rfl⟩
              have hpp : posN f i k = p := by rw [← hp, ← hm]; exact (plC_at f i k).symm
              have hpi : p < i := by rw [← hpp]; exact pos_lt hkk
              have x2 := vec_cell HO.out (i := m) (v := (p : Int)) (by omega) (by show ((plC f i k m : Nat) : Int) = (p : Int); rw [hp])
              have x3 := vec_cell HQ.out (i := p) (v := (ordN f i k p : Int)) hpi rfl
              have f3 := HQ.out.frozen p
              have HQ2 := Lib.hid (vec_stored (f' := fun p => (ordN f i (k + 1) p : Int)) HQ.out (i := p) (v := (k : Int)) (by show ((ordN f i (k + 1) p : Nat) : Int) = (k : Int); rw [← hpp, ord_at (Nat.lt_succ_self _) hkk]) (fun j hj hne => by show ((ordN f i (k + 1) j : Nat) : Int) = (ordN f i k j : Int); rw [ord_other hkk (by rw [hpp]; exact hne)]))
              have HO2 := Lib.hid (HO.out.beside HBG.out HNE.out p (.int .i64 (k : Int)))
              have x4 := vec_cell HO2.out (i := m) (v := (p : Int)) (by omega) (by show ((plC f i k m : Nat) : Int) = (p : Int); rw [hp])
              have f4 := HO2.out.frozen m
              have HO5 := Lib.hid (vec_stored (f' := fun v => (plC f i (k + 1) v : Int)) HO2.out (i := m) (v := (p : Int) + 1) (by show ((plC f i (k + 1) m : Nat) : Int) = (p : Int) + 1; rw [← hm, plC_step, hm, hp]; omega) (fun j hj hne => by show ((plC f i (k + 1) j : Nat) : Int) = (plC f i k j : Int); rw [plC_ne (by rw [hm]; exact hne)]))
              have HQ5 := Lib.hid (HQ2.out.beside HBG1.out HNE2.out m (.int .i64 ((p : Int) + 1)))
              have z0 : (0 : Int) ≤ (k : Int) := by omega
              have z1 : (k : Int) < (i : Int) := by omega
              have z2 : (0 : Int) ≤ (m : Int) := by omega
              have z3 : (m : Int) < (most : Int) + 2 := by omega
              have z4 : (m : Int) < ((most + 2 : Nat) : Int) := by omega
              have z5 : (0 : Int) ≤ (p : Int) := by omega
              have z6 : (p : Int) < (i : Int) := by omega
              have v1 : IntKind.i64.wrap ((p : Int) + 1) = (p : Int) + 1 := IntWalk.i64_in _ (by omega)
              clear hm hp hpp HO HQ HO2 HQ2 hmm
              go_wp2
              go_roundw
              case rel => exact ⟨k + 1, by omega, by go_num, HO5, HQ5⟩
              case measure => simp [intOf]; omega
            · obtain rfl : k = i := by omega
              clear HO
              go_wp2
              go_ret
              exact ⟨g2, rfl, HQ.out⟩

/-- The states at places behind one. -/
def behS (P : Nat → Nat) (n i r : Nat) : Prop := ∃ p, i < p ∧ p < n ∧ P p = r
theorem beh_last (P : Nat → Nat) {n : Nat} (h : 0 < n) : behS P n (n - 1) = fun _ => False := by
  funext r
  refine propext ⟨?_, fun e => e.elim⟩
  rintro ⟨p, h1, h2, _⟩
  omega
theorem beh_next (P : Nat → Nat) {n i : Nat} (h : i + 1 < n) : behS P n i = fun r => behS P n (i + 1) r ∨ r = P (i + 1) := by
  funext r
  refine propext ⟨?_, ?_⟩
  · rintro ⟨p, h1, h2, h3⟩
    by_cases e : p = i + 1
    · subst e; exact .inr h3.symm
    · exact .inl ⟨p, by omega, h2, h3⟩
  · rintro (⟨p, h1, h2, h3⟩ | e)
    · exact ⟨p, by omega, h2, h3⟩
    · exact ⟨i + 1, by omega, h, e.symm⟩
theorem ord_first {s : Wd} {L : List Sta} (hM : MInv s L) {P : Nat → Nat} (hP : IsOrd (fun i => (tW L i).length) L.length P) : (tW L (P 0)).length = 0 := by
  have h0 := hM.inv.pos
  obtain ⟨p, hp, e⟩ := hP.surj 0 h0
  rcases Nat.eq_zero_or_pos p with h | h
  · rw [h] at e
    rw [e, hM.inv.w0]; rfl
  · have h1 := hP.asc 0 p h0 hp h
    rw [e, hM.inv.w0] at h1
    simpa using h1
theorem cnt_hand {s : Wd} {L : List Sta} (hM : MInv s L) {P : Nat → Nat} (hP : IsOrd (fun i => (tW L i).length) L.length P) {i : Nat} (hi : i + 1 < L.length) : ∃ y : Nat, y < L.length ∧ P (i + 1) < L.length ∧ tK L (P (i + 1)) = (y : Int) ∧
    ecnt s L (behS P L.length i) y = ecnt s L (behS P L.length (i + 1)) y + ecnt s L (behS P L.length (i + 1)) (P (i + 1)) ∧ ∀ q, q < L.length → q ≠ y → ecnt s L (behS P L.length i) q = ecnt s L (behS P L.length (i + 1)) q := by
  have hx := hP.lt (i + 1) hi
  have h0 : 0 < P (i + 1) := by
    refine Nat.pos_of_ne_zero fun e => ?_
    have h1 := ord_first hM hP
    have h2 : tW L (P 0) = tW L (P (i + 1)) := by
      rw [e, hM.inv.w0]
      exact List.length_eq_zero_iff.1 h1
    have h3 := hM.inv.inj (P 0) (P (i + 1)) (hP.lt 0 (by omega)) hx (by rw [h2]; exact sameE.refl _ _)
    have := hP.inj 0 (i + 1) (by omega) hi h3
    omega
  obtain ⟨y, hy, e1, e2⟩ := mach_link hM hx h0
  refine ⟨y, hy, hx, e1, ?_⟩
  rw [beh_next P hi]
  refine ecnt_step hM hx hy h0 e1 ?_ (fun r hr hl => ?_) (fun r hr hl => ?_)
  · rintro ⟨p, h1, h2, h3⟩
    have := hP.inj p (i + 1) h2 hi h3
    omega
  · obtain ⟨p, hp, rfl⟩ := hP.surj r hr
    refine ⟨p, Nat.lt_of_not_le fun h => ?_, hp, rfl⟩
    by_cases e : p = i + 1
    · subst e; omega
    · have := hP.asc p (i + 1) hp hi (by omega)
      omega
  · rintro ⟨p, h1, h2, rfl⟩
    have := hP.asc (i + 1) p hi h2 h1
    omega
theorem cnt_all {s : Wd} {L : List Sta} (hM : MInv s L) {P : Nat → Nat} (hP : IsOrd (fun i => (tW L i).length) L.length P) {q : Nat} {t : Wd} (hs : sameE s t (tW L q)) : ecnt s L (behS P L.length 0) q = howTo s t s.length := by
  refine ecnt_end (fun r hr hl => ?_) hs
  obtain ⟨p, hp, rfl⟩ := hP.surj r hr
  refine ⟨p, Nat.pos_of_ne_zero fun e => ?_, hp, rfl⟩
  subst e
  have := ord_first hM hP
  omega

set_option maxRecDepth 4000 in
set_option maxHeartbeats 16000000 in
theorem implEndC_any (s : ByteArray) (L : List Sta) (g c : Nat) (A : Nat → Sm) (w : World) (hs : s.size ≤ 1048576) (hL : L.length ≤ 2097153) (hM : MInv s.data.toList L) (hst : StAt w (some ⟨g, 0, none⟩) (datL L) A) :
    Calls Try.prog 53 #[.slice (some ⟨g, 0, none⟩) L.length c, .string s] w fun e w' => ∃ g', e = .returned (.slice (some ⟨g', 0, none⟩) L.length L.length) ∧
      One w w.heap.size w' 3 1 (some ⟨g', 0, none⟩) L.length L.length (intCells (vecI L.length (fun q => (ecnt s.data.toList L (behS (ordN (fun i => (tW L i).length) L.length L.length) L.length 0) q : Int)))) := by
  have hsz : s.data.toList.length = s.size := rfl
  obtain ⟨u, hu⟩ : ∃ u, s.data.toList = u := ⟨_, rfl⟩
  have HU := Lib.hid hu
  rw [hu] at hsz hM ⊢
  have HSZ := Lib.hid hsz
  have HM := Lib.hid hM
  have HST := Lib.hid hst
  obtain ⟨n, hn⟩ : ∃ n, L.length = n := ⟨_, rfl⟩
  have HN := Lib.hid hn
  obtain ⟨P, hP⟩ : ∃ P, ordN (fun i => (tW L i).length) L.length L.length = P := ⟨_, rfl⟩
  have HP := Lib.hid (show IsOrd (fun i => (tW L i).length) L.length P by rw [← hP]; exact ord_is _ _)
  have HPE := Lib.hid hP
  rw [hP]
  have h0 : 0 < n := by have := hM.inv.pos; omega
  have hw0 : tW L 0 = u.take 0 := by rw [hM.inv.w0, List.take_zero]
  have HW0 := Lib.hid hw0
  rw [hn]
  rw [hn] at hL
  obtain ⟨w1, hmk, hone⟩ := make_zeros w n (by omega)
  obtain ⟨g1, hg1⟩ : ∃ g, w.heap.size = g := ⟨_, rfl⟩
  have HG1 := Lib.hid hg1
  rw [hg1] at hmk
  have HO1 := Lib.hid (show One w w.heap.size w1 3 1 (some ⟨g1, 0, none⟩) n n (intCells (vecI n (fun q => (begN u L 0 q : Int)))) by
    rw [vecI_same (f := fun q => (begN u L 0 q : Int)) (g := fun _ => 0) (fun i _ => by show ((begN u L 0 i : Nat) : Int) = 0; rw [beg_zero]; rfl), ← hg1]
    exact hone)
  clear hn hP hst hone hg1 hsz hu hM hw0
  go_enter Try.func53, Try.ntmps53
  go_wp2
  clear hmk
  go_loopw [6, 7] (fun q_ k_ wr => ∃ k q : Nat, k ≤ s.size ∧ q < n ∧ q_ = .int .i64 (q : Int) ∧ k_ = .int .i64 (k : Int) ∧ Hid (tW L q = u.take k) ∧ Hid (One w w.heap.size wr 3 1 (some ⟨g1, 0, none⟩) n n (intCells (vecI n (fun q => (begN u L k q : Int)))))) (fun _ k_ _ => s.size - (intOf k_).toNat)
  case atStart => exact ⟨0, 0, Nat.zero_le _, h0, rfl, rfl, HW0, HO1⟩
  case round =>
    clear HO1 HW0
    obtain ⟨k, q, hk, hq, rfl, rfl, HW, HO⟩ := hrel
    by_cases hlt : k < s.size
    · obtain ⟨x, hx⟩ : ∃ x, s[k] = x := ⟨_, rfl⟩
      have hku : k < u.length := by have := HSZ.out; omega
      have hqL : q < L.length := by have := HN.out; omega
      obtain ⟨j, hj, e1, e2⟩ := prefix_next HM.out hku hqL HW.out
      have hux : u[k] = x := by
        rw [← hx]
        have h1 := HU.out
        subst h1
        rfl
      rw [hux] at e1
      have hjn : j < n := by have := HN.out; omega
      have hs := HST.out.below HO.out.below
      obtain ⟨b, o, ea, hb, hc⟩ := hs.spot (by rw [datL_len]; omega)
      injection ea with ea
      injection ea with ea1 ea2 ea3
      subst ea1
      subst ea2
      obtain ⟨ai, ni, ci, hAi⟩ : ∃ a n c, A q = (a, n, c) := ⟨_, _, _, rfl⟩
      have hin := hs.inner q (by rw [datL_len]; exact hqL)
      rw [hAi, datL_at hqL] at hin
      have hfew := edges_few HM.out hqL
      have hlen : ni = (tE L q).length := hin.1
      have cT := fun r => implBy_any (tE L q) (x.toNat : Int) ai ni ci (wr.drewN r) hlen (by omega) (hin.2.drewN r)
      rw [show toE (tE L q) (x.toNat : Int) = (j : Int) from e1] at cT
      obtain ⟨g_1, g_2, g3⟩ := hc q (by rw [datL_len]; exact hqL)
      rw [hAi, Nat.zero_add] at g3
      replace g3 : wr.cell? ⟨g, q * 3 + 2, none⟩ = some (.slice ai ni ci) := g3
      have x3 := vec_cell HO.out (i := j) (v := (begN u L k j : Int)) hjn rfl
      have f3 := HO.out.frozen j
      have HO2 := Lib.hid (show ∀ r, One w w.heap.size ((wr.drewN r).setCell ⟨g1, j, none⟩ (.int .i64 1)) 3 1 (some ⟨g1, 0, none⟩) n n (intCells (vecI n (fun q => (begN u L (k + 1) q : Int)))) from fun r =>
        vec_stored (f' := fun q => (begN u L (k + 1) q : Int)) (HO.out.drewN r) (i := j) (v := 1) (by show ((begN u L (k + 1) j : Nat) : Int) = 1; rw [beg_at e2]; rfl) (fun e he hne => by
          show ((begN u L (k + 1) e : Nat) : Int) = (begN u L k e : Int)
          rw [beg_other (fun h => hne (HM.out.inv.inj e j (by have := HN.out; omega) hj (by rw [h, e2]; exact sameE.refl _ _)))]))
      have HW2 := Lib.hid e2
      have z0 : (0 : Int) ≤ (k : Int) := by omega
      have z1 : (k : Int) < (s.size : Int) := by omega
      have z2 : (0 : Int) ≤ (q : Int) := by omega
      have z3 : (q : Int) < (n : Int) := by omega
      have z4 : (0 : Int) ≤ (j : Int) := by omega
      have z5 : (j : Int) < (n : Int) := by omega
      have hb9 : (x.toNat : Int) ≤ 255 := by have := x.toNat_lt; omega
      have hni : ni ≤ 256 := by omega
      have va : IntKind.i64.wrap (x.toNat : Int) = (x.toNat : Int) := IntWalk.i64_in _ (by omega)
      clear hin hfew hlen hs hux hku hAi hqL hc g_1 g_2 e1 e2 hj hb HO HW
      go_wp2
      go_quiet ((go_at_call 43; (try rw [va]); exact Calls.quiet_of_same (cT _)))
      have x4 : (wr.drewN nq).cell? ⟨g1, j, none⟩ = some (.int .i64 (begN u L k j : Int)) := x3
      have f4 : (wr.drewN nq).frozen? ⟨g1, j, none⟩ = false := f3
      have HO3 := Lib.hid (HO2.out nq)
      clear cT x3 f3 g3 HO2
      go_wp2
      go_roundw
      case rel => exact ⟨k + 1, j, by omega, hjn, rfl, by go_num, HW2, HO3⟩
      case measure => simp [intOf]; omega
    · have hku : k = u.length := by have := HSZ.out; omega
      have hst := HST.out.below HO.out.below
      have cO := implByL_any L s.size g c A wr (by have := HN.out; omega) hs (fun i hi => by have := word_most HM.out hi; have := HSZ.out; omega) hst
      rw [HPE.out, HN.out] at cO
      have HO2 := Lib.hid (show One w w.heap.size wr 3 1 (some ⟨g1, 0, none⟩) n n (intCells (vecI n (fun q => (ecnt u L (behS P n (n - 1)) q : Int)))) by
        rw [vecI_same (f := fun q => (ecnt u L (behS P n (n - 1)) q : Int)) (g := fun q => (begN u L k q : Int)) (fun q hq => by
          show ((ecnt u L (behS P n (n - 1)) q : Nat) : Int) = (begN u L k q : Int)
          rw [beh_last P h0, ecnt_start HM.out, hku])]
        exact HO.out)
      clear HO HW hku hst
      go_wp2_with fail
      refine cO.mono ?_
      rintro e w5 ⟨g2, rfl, o5⟩
      have hne : (Value.slice (some ⟨g2, 0, none⟩) n n).ownBlock ≠ some g1 := fun e => by
        have h1 := (o5.own.lt g2 (by simp [Value.ownBlock])).1
        have h2 := HO2.out.block_lt g1 (by simp [Value.ownBlock])
        simp [Value.ownBlock] at e
        omega
      have HNE := Lib.hid hne
      have HO3 := Lib.hid (HO2.out.later o5.below)
      have HQ3 := Lib.hid (o5.under HO2.out.below HO2.out.base)
      have HBG1 := Lib.hid (show w.heap.size ≤ g1 by rw [HG1.out]; exact Nat.le_refl _)
      have v0 : IntKind.i64.wrap ((n : Int) - 1) = (n : Int) - 1 := IntWalk.i64_in _ (by omega)
      clear hne o5 HO2 cO
      go_wp2
      go_loopw [9] (fun i_ wr => ∃ i : Nat, i < n ∧ i_ = .int .i64 (i : Int) ∧ Hid (One w w.heap.size wr 3 1 (some ⟨g1, 0, none⟩) n n (intCells (vecI n (fun q => (ecnt u L (behS P n i) q : Int))))) ∧ Hid (One w w.heap.size wr 3 1 (some ⟨g2, 0, none⟩) n n (intCells (vecI n (fun p => (P p : Int)))))) (fun i_ _ => (intOf i_).toNat)
      case atStart => exact ⟨n - 1, by omega, by rw [show ((n - 1 : Nat) : Int) = (n : Int) - 1 by omega], HO3, HQ3⟩
      case round =>
        clear HO3 HQ3 v0
        obtain ⟨i, hi, rfl, HO, HQ⟩ := hrel
        rcases Nat.eq_zero_or_pos i with hi0 | hi0
        · subst hi0
          go_wp2
          go_ret
          exact ⟨g1, rfl, HO.out⟩
        · obtain ⟨i0, rfl⟩ : ∃ k, i = k + 1 := ⟨i - 1, by omega⟩
          obtain ⟨y, hy, hx, e1, e2, e3⟩ := cnt_hand HM.out HP.out (i := i0) (by have := HN.out; omega)
          obtain ⟨x, hxx⟩ : ∃ x, P (i0 + 1) = x := ⟨_, rfl⟩
          rw [hxx] at hx e1 e2
          rw [HN.out] at e2 e3
          have hs := HST.out.below HO.out.below
          obtain ⟨b, o, ea, hb, hc⟩ := hs.spot (by rw [datL_len]; omega)
          injection ea with ea
          injection ea with ea1 ea2 ea3
          subst ea1
          subst ea2
          have g2' := (hc x (by rw [datL_len]; exact hx)).2.1
          rw [datL_at hx, Nat.zero_add] at g2'
          replace g2' : wr.cell? ⟨g, x * 3 + 1, none⟩ = some (.int .i64 (y : Int)) := by rw [← e1]; exact g2'
          have hyn : y < n := by have := HN.out; omega
          have hxn : x < n := by have := HN.out; omega
          obtain ⟨cy, hcy⟩ : ∃ v, ecnt u L (behS P n (i0 + 1)) y = v := ⟨_, rfl⟩
          obtain ⟨cx, hcx⟩ : ∃ v, ecnt u L (behS P n (i0 + 1)) x = v := ⟨_, rfl⟩
          have hcy9 : cy ≤ 1048576 := by have := ecnt_le u L (behS P n (i0 + 1)) y; have := HSZ.out; omega
          have hcx9 : cx ≤ 1048576 := by have := ecnt_le u L (behS P n (i0 + 1)) x; have := HSZ.out; omega
          have k1 := vec_cell HQ.out (i := i0 + 1) (v := (x : Int)) hi (by show ((P (i0 + 1) : Nat) : Int) = (x : Int); rw [hxx])
          have k2 := vec_cell HO.out (i := y) (v := (cy : Int)) hyn (by show ((ecnt u L (behS P n (i0 + 1)) y : Nat) : Int) = (cy : Int); rw [hcy])
          have k3 := vec_cell HO.out (i := x) (v := (cx : Int)) hxn (by show ((ecnt u L (behS P n (i0 + 1)) x : Nat) : Int) = (cx : Int); rw [hcx])
          have f3 := HO.out.frozen y
          have HO2 := Lib.hid (show ∀ r, One w w.heap.size ((wr.setCell ⟨g1, y, none⟩ (.int .i64 ((cy : Int) + (cx : Int)))).drewN r) 3 1 (some ⟨g1, 0, none⟩) n n (intCells (vecI n (fun q => (ecnt u L (behS P n i0) q : Int)))) from fun r =>
            (vec_stored (f' := fun q => (ecnt u L (behS P n i0) q : Int)) HO.out (i := y) (v := (cy : Int) + (cx : Int)) (by show ((ecnt u L (behS P n i0) y : Nat) : Int) = _; rw [e2, hcy, hcx]; omega) (fun e he hne => by
              show ((ecnt u L (behS P n i0) e : Nat) : Int) = (ecnt u L (behS P n (i0 + 1)) e : Int)
              rw [e3 e (by have := HN.out; omega) hne])).drewN r)
          have HQ2 := Lib.hid (show ∀ r, One w w.heap.size ((wr.setCell ⟨g1, y, none⟩ (.int .i64 ((cy : Int) + (cx : Int)))).drewN r) 3 1 (some ⟨g2, 0, none⟩) n n (intCells (vecI n (fun p => (P p : Int)))) from fun r => (HQ.out.beside HBG1.out HNE.out y _).drewN r)
          have z1 : (0 : Int) < (i0 : Int) + 1 := by omega
          have z2 : (0 : Int) ≤ (i0 : Int) + 1 := by omega
          have z3 : (i0 : Int) + 1 < (n : Int) := by omega
          have z4 : ((i0 : Int) + 1).toNat = i0 + 1 := by omega
          have z5 : (0 : Int) ≤ (x : Int) := by omega
          have z6 : (x : Int) < (n : Int) := by omega
          have z7 : (0 : Int) ≤ (y : Int) := by omega
          have z8 : (y : Int) < (n : Int) := by omega
          have z9 : (i0 : Int) + 1 - 1 = (i0 : Int) := by omega
          have v1 : IntKind.i64.wrap ((cy : Int) + (cx : Int)) = (cy : Int) + (cx : Int) := IntWalk.i64_in _ (by omega)
          have v2 : IntKind.i64.wrap (i0 : Int) = (i0 : Int) := IntWalk.i64_in _ (by omega)
          clear hxx hcy hcx e1 e2 e3 hs hc hb hx hy HO HQ
          go_wp2
          go_still_tail 20, (by kernel_rfl)
          change wpList _ _ _ _ _ wr.drew
          go_wp2
          go_roundw
          case rel => exact ⟨i0, by omega, by go_num, HO2.out 1, HQ2.out 1⟩
          case measure => simp [intOf]

end Go.Proofs.Ytehppjilnacjlaa
