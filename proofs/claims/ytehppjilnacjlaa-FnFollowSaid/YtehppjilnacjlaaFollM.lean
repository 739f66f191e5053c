/-
  The contract of the model's function Follow, over any states that are there; what the machine of a text is, so read. Conditions: texts have at most 2^20 bytes, states at most 2^20 edges each, and there are at most 2^23 states.
-/
import Derived.Test.YtehppjilnacjlaaMachM
import Derived.Test.YtehppjilnacjlaaMathFoll
import Derived.Deep.RegionHeld3
namespace Go.Proofs.Ytehppjilnacjlaa
open Go.RowKit

/-- States that lie somewhere, each with its edges. -/
structure StAt (w : World) (a : Option Addr) (L : List Dt) (A : Nat → Sm) : Prop where
  outer : CellsAt w a (stC L.length (fun i => ((dtA L i).1, (dtA L i).2.1)) A)
  inner : ∀ i, i < L.length → (A i).2.1 = (dtA L i).2.2.length ∧ CellsAt w (A i).1 (pairsC (dtA L i).2.2)
theorem StAt.below {w w' : World} {a : Option Addr} {L : List Dt} {A : Nat → Sm} (h : StAt w a L A) (hb : Below w.heap.size w w') : StAt w' a L A :=
  ⟨h.outer.below hb, fun i hi => ⟨(h.inner i hi).1, (h.inner i hi).2.below hb⟩⟩
theorem StAt.spot {w : World} {a : Option Addr} {L : List Dt} {A : Nat → Sm} (h : StAt w a L A) (h0 : 0 < L.length) : ∃ b o, a = some ⟨b, o, none⟩ ∧ b < w.heap.size ∧ ∀ i, i < L.length → w.cell? ⟨b, o + i * 3, none⟩ = some (.int .i64 (dtA L i).1) ∧ w.cell? ⟨b, o + i * 3 + 1, none⟩ = some (.int .i64 (dtA L i).2.1) ∧ w.cell? ⟨b, o + i * 3 + 2, none⟩ = some (smV (A i)) := by
  obtain ⟨b, o, ha, hb, hc⟩ := h.outer.spot (fun e => by
    have h1 := congrArg List.length e
    rw [stC_len] at h1
    simp at h1
    omega)
  refine ⟨b, o, ha, hb, fun i hi => ⟨?_, ?_, ?_⟩⟩
  · have h1 := hc (i * 3 + 0) _ ((stC_get hi (by decide)).trans rfl)
    simpa using h1
  · have h1 := hc (i * 3 + 1) _ ((stC_get hi (by decide)).trans rfl)
    rwa [← Nat.add_assoc] at h1
  · have h1 := hc (i * 3 + 2) _ ((stC_get hi (by decide)).trans rfl)
    rwa [← Nat.add_assoc] at h1
theorem StRows.at_ {W : World} {B : Nat} {w : World} {a : Option Addr} {c : Nat} {M : List Sta} {A : Nat → Sm} (h : StRows W B w a M.length c (dOf M) A (tE M)) : StAt w a (datL M) A := by
  refine ⟨?_, fun i hi => ?_⟩
  · rw [datL_len]
    have h1 : stC M.length (fun i => ((dtA (datL M) i).1, (dtA (datL M) i).2.1)) A = stC M.length (dOf M) A := stC_same (fun i hi => by simp only [datL_at hi]; rfl) (fun _ _ => rfl)
    rw [h1]
    exact h.outer.at_
  · rw [datL_len] at hi
    rw [datL_at hi]
    exact ⟨pairs_len (h.one hi).own, (h.one hi).at_⟩

theorem folL_end {L : List Dt} {t : Wd} {k : Nat} (h : folL L (t.take k) = -1) : folL L t = -1 := by
  have h1 := folL_front (r := t.drop k) h
  rwa [List.take_append_drop] at h1

set_option maxHeartbeats 16000000 in
theorem specFol_any (L : List Dt) (t : ByteArray) (a : Option Addr) (n c : Nat) (A : Nat → Sm) (w : World) (hn : n = L.length) (hn9 : n ≤ 8388608) (few : ∀ i, i < L.length → (dtA L i).2.2.length ≤ 1048576) (ht : t.size ≤ 1048576) (h : StAt w a L A) :
    Calls Try.prog 21 #[.slice a n c, .string t] w fun e w' => e = .returned (.int .i64 (folL L t.data.toList)) ∧ Below w.heap.size w w' := by
  have hsz : t.data.toList.length = t.size := rfl
  obtain ⟨u, hu⟩ : ∃ u, t.data.toList = u := ⟨_, rfl⟩
  have HU := Lib.hid hu
  rw [hu] at hsz ⊢
  have HSZ := Lib.hid hsz
  have HN := Lib.hid hn
  have HF := Lib.hid few
  have HST := Lib.hid h
  by_cases h0 : n = 0
  · subst h0
    have HR := Lib.hid (show folL L u = -1 from folL_end (k := 0) (by rw [List.take_zero, folL, List.foldl_nil, if_pos hn.symm]))
    clear hu hsz hn few h
    go_enter Try.func21, Try.ntmps21
    go_wp2
    go_ret
    exact ⟨by rw [HR.out]; rfl, Below.refl _ _⟩
  · obtain ⟨b, o, rfl, hb, hc⟩ := h.spot (by omega)
    have HC := Lib.hid hc
    have e0 : ((n : Int) == 0) = false := beq_eq_false_iff_ne.2 (by omega)
    have HK0 := Lib.hid (show folL L (u.take 0) = ((0 : Nat) : Int) by rw [List.take_zero, folL, List.foldl_nil, if_neg (by omega)]; rfl)
    clear hu hsz hn few h hc
    go_enter Try.func21, Try.ntmps21
    go_wp2
    go_loopw [5, 6] (fun at_ k_ wr => ∃ k i : Nat, k ≤ t.size ∧ i < n ∧ at_ = .int .i64 (i : Int) ∧ k_ = .int .i64 (k : Int) ∧ Hid (folL L (u.take k) = (i : Int)) ∧ Hid (Below w.heap.size w wr)) (fun _ k_ _ => t.size - (intOf k_).toNat)
    case atStart => exact ⟨0, 0, Nat.zero_le _, by omega, rfl, rfl, HK0, Lib.hid (Below.refl _ _)⟩
    case round =>
      clear HK0
      obtain ⟨k, i, hk, hi, rfl, rfl, HFO, HB⟩ := hrel
      by_cases hlt : k < t.size
      · obtain ⟨x, hx⟩ : ∃ x, t[k] = x := ⟨_, rfl⟩
        have hku : k < u.length := by have := HSZ.out; omega
        have hux : u.take (k + 1) = u.take k ++ [x] := by
          rw [List.take_succ_eq_append_getElem hku, ← hx]
          have h1 := HU.out
          subst h1
          rfl
        have hiL : i < L.length := by have := HN.out; omega
        have hs := HST.out.below HB.out
        obtain ⟨v, hv⟩ : ∃ v, toE (dtA L i).2.2 (x.toNat : Int) = v := ⟨_, rfl⟩
        have HNX := Lib.hid (show folL L (u.take (k + 1)) = if v < 0 ∨ (n : Int) ≤ v then -1 else v by
          rw [hux, folL_snoc, HFO.out, folS, if_neg (by omega), HN.out, Int.toNat_natCast, hv])
        obtain ⟨ai, ni, ci, hAi⟩ : ∃ a n c, A i = (a, n, c) := ⟨_, _, _, rfl⟩
        obtain ⟨d1, hd1⟩ : ∃ d, (dtA L i).1 = d := ⟨_, rfl⟩
        obtain ⟨d2, hd2⟩ : ∃ d, (dtA L i).2.1 = d := ⟨_, rfl⟩
        have hin := hs.inner i hiL
        rw [hAi] at hin
        have HS := Lib.hid (show ∀ w', Below wr.heap.size wr w' → w'.cell? ⟨b, o + i * 3, none⟩ = some (.int .i64 d1) ∧ w'.cell? ⟨b, o + i * 3 + 1, none⟩ = some (.int .i64 d2) ∧ w'.cell? ⟨b, o + i * 3 + 2, none⟩ = some (.slice ai ni ci) from fun w' hb' => by
          have hbb := HB.out.trans (hb'.mono HB.out.size)
          obtain ⟨c1, c2, c3⟩ := HC.out i hiL
          rw [hd1] at c1
          rw [hd2] at c2
          rw [hAi] at c3
          exact ⟨(hbb.cell (p := ⟨b, o + i * 3, none⟩) hb).trans c1, (hbb.cell (p := ⟨b, o + i * 3 + 1, none⟩) hb).trans c2, (hbb.cell (p := ⟨b, o + i * 3 + 2, none⟩) hb).trans c3⟩)
        have hfi := HF.out i hiL
        have hlen : ni = (dtA L i).2.2.length := hin.1
        have HCE := Lib.hid (show ∀ w', Below wr.heap.size wr w' → CellsAt w' ai (pairsC (dtA L i).2.2) from fun w' hb' => hin.2.below hb')
        have cT := fun (w' : World) hb' => specTo_any d1 d2 (dtA L i).2.2 (x.toNat : Int) ai ni ci w' hlen (by omega) (HCE.out w' hb')
        rw [hv] at cT
        have HT := Lib.hid cT
        obtain ⟨g1, g2, g3⟩ := HS.out wr (Below.refl _ _)
        have z0 : (0 : Int) ≤ (k : Int) := by omega
        have z1 : (k : Int) < (t.size : Int) := by omega
        have z2 : (0 : Int) ≤ (i : Int) := by omega
        have z3 : (i : Int) < (n : Int) := by omega
        have hb9 : (x.toNat : Int) ≤ 255 := by have := x.toNat_lt; omega
        have hni : ni ≤ 1048576 := by omega
        have HV := Lib.hid (show IntKind.i64.wrap (x.toNat : Int) = (x.toNat : Int) from IntWalk.i64_in _ (by omega))
        clear hin hfi hlen hs hux hku hv hAi hd1 hd2 hiL cT
        by_cases hneg : v < 0
        · have t3 : decide (v < 0) = true := decide_eq_true hneg
          have HR := Lib.hid (show folL L u = -1 from folL_end (k := k + 1) (by rw [HNX.out, if_pos (.inl hneg)]))
          go_wp2
          go_region_held3 (fun w' => w'.cell? ⟨b, o + i * 3, none⟩ = some (.int .i64 d1) ∧ w'.cell? ⟨b, o + i * 3 + 1, none⟩ = some (.int .i64 d2) ∧ w'.cell? ⟨b, o + i * 3 + 2, none⟩ = some (.slice ai ni ci)) (first | go_keep | exact HS.out _ (Below.trans (by repeat (first | exact Below.refl _ _ | refine Below.drew ?_ | refine below_drewN' ?_ _)) (hb5.mono (by simp))))
            ((go_at_call 46; rw [HV.out]; refine (HT.out _ (by repeat (first | exact Below.refl _ _ | refine Below.drew ?_ | refine below_drewN' ?_ _))).mono ?_; rintro e w5 ⟨rfl, hb5⟩))
          go_wp2
          go_ret
          exact ⟨by rw [HR.out]; rfl, HB.out.trans ((Below.trans (by repeat (first | exact Below.refl _ _ | refine Below.drew ?_ | refine below_drewN' ?_ _)) (hb5.mono (by simp))).mono HB.out.size)⟩
        · have t3 : decide (v < 0) = false := decide_eq_false hneg
          by_cases hbig : (n : Int) ≤ v
          · have t4 : decide (v ≥ (n : Int)) = true := decide_eq_true hbig
            have HR := Lib.hid (show folL L u = -1 from folL_end (k := k + 1) (by rw [HNX.out, if_pos (.inr hbig)]))
            go_wp2
            go_region_held3 (fun w' => w'.cell? ⟨b, o + i * 3, none⟩ = some (.int .i64 d1) ∧ w'.cell? ⟨b, o + i * 3 + 1, none⟩ = some (.int .i64 d2) ∧ w'.cell? ⟨b, o + i * 3 + 2, none⟩ = some (.slice ai ni ci)) (first | go_keep | exact HS.out _ (Below.trans (by repeat (first | exact Below.refl _ _ | refine Below.drew ?_ | refine below_drewN' ?_ _)) (hb5.mono (by simp))))
              ((go_at_call 46; rw [HV.out]; refine (HT.out _ (by repeat (first | exact Below.refl _ _ | refine Below.drew ?_ | refine below_drewN' ?_ _))).mono ?_; rintro e w5 ⟨rfl, hb5⟩))
            go_wp2
            go_ret
            exact ⟨by rw [HR.out]; rfl, HB.out.trans ((Below.trans (by repeat (first | exact Below.refl _ _ | refine Below.drew ?_ | refine below_drewN' ?_ _)) (hb5.mono (by simp))).mono HB.out.size)⟩
          · have t4 : decide (v ≥ (n : Int)) = false := decide_eq_false hbig
            obtain ⟨j, rfl⟩ : ∃ j : Nat, v = (j : Int) := ⟨v.toNat, by omega⟩
            have HR := Lib.hid (show folL L (u.take (k + 1)) = (j : Int) by rw [HNX.out, if_neg (fun e => by omega)])
            have z4 : j < n := by omega
            go_wp2
            go_region_held3 (fun w' => w'.cell? ⟨b, o + i * 3, none⟩ = some (.int .i64 d1) ∧ w'.cell? ⟨b, o + i * 3 + 1, none⟩ = some (.int .i64 d2) ∧ w'.cell? ⟨b, o + i * 3 + 2, none⟩ = some (.slice ai ni ci)) (first | go_keep | exact HS.out _ (Below.trans (by repeat (first | exact Below.refl _ _ | refine Below.drew ?_ | refine below_drewN' ?_ _)) (hb5.mono (by simp))))
              ((go_at_call 46; rw [HV.out]; refine (HT.out _ (by repeat (first | exact Below.refl _ _ | refine Below.drew ?_ | refine below_drewN' ?_ _))).mono ?_; rintro e w5 ⟨rfl, hb5⟩))
            go_wp2
            go_roundw
            case rel => exact ⟨k + 1, j, by omega, z4, rfl, by go_num, HR, Lib.hid (HB.out.trans ((Below.trans (by repeat (first | exact Below.refl _ _ | refine Below.drew ?_ | refine below_drewN' ?_ _)) (hb5.mono (by simp))).mono HB.out.size))⟩
            case measure => simp [intOf]; omega
      · have HE := Lib.hid (show folL L u = (i : Int) by
          have h1 := HFO.out
          rwa [List.take_of_length_le (by have := HSZ.out; omega)] at h1)
        go_wp2
        go_ret
        exact ⟨by rw [HE.out]; rfl, HB.out⟩

end Go.Proofs.Ytehppjilnacjlaa
