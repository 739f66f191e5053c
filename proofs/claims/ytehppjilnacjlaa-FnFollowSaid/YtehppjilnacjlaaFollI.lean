/-
  The contracts of the program's functions Follow and HasPiece. Conditions: texts have at most 2^20 bytes, states at most 2^20 edges each, and there are at most 2^23 states.
-/
import Derived.Test.YtehppjilnacjlaaMachI
namespace Go.Proofs.Ytehppjilnacjlaa
open Go.RowKit

def inS (n : Nat) (v : Int) : Int := if 0 ≤ v ∧ v < (n : Int) then v else -1
theorem fol_next {L : List Dt} {t : Wd} {i : Nat} {x : UInt8} (h : folL L t = (i : Int)) : folL L (t ++ [x]) = inS L.length (toE (dtA L i).2.2 (x.toNat : Int)) := by
  rw [folL_snoc, h, folS, if_neg (by omega), Int.toNat_natCast, inS]
  split
  · rw [if_neg (fun e => by omega)]
  · rw [if_pos (by omega)]

set_option maxHeartbeats 16000000 in
theorem implFol_any (L : List Dt) (t : ByteArray) (a : Option Addr) (n c : Nat) (A : Nat → Sm) (w : World) (hn : n = L.length) (hn9 : n ≤ 8388608) (few : ∀ i, i < L.length → (dtA L i).2.2.length ≤ 1048576) (ht : t.size ≤ 1048576) (h : StAt w a L A) :
    Calls Try.prog 20 #[.slice a n c, .string t] w fun e w' => e = .returned (.int .i64 (folL L t.data.toList)) ∧ ∃ q, w' = w.drewN q := by
  have hsz : t.data.toList.length = t.size := rfl
  obtain ⟨u, hu⟩ : ∃ u, t.data.toList = u := ⟨_, rfl⟩
  have HU := Lib.hid hu
  rw [hu] at hsz ⊢
  have HSZ := Lib.hid hsz
  have HN := Lib.hid hn
  have HF := Lib.hid few
  have HST := Lib.hid h
  have HK0 := Lib.hid (show folL L (u.take 0) = inS n 0 by
    rw [List.take_zero, folL, List.foldl_nil, inS]
    by_cases h0 : n = 0
    · rw [if_pos (by omega), if_neg (by omega)]
    · rw [if_neg (by omega), if_pos (by omega)])
  clear hu hsz hn few h
  go_enter Try.func20, Try.ntmps20
  go_wp2
  go_loopw [5, 6] (fun at_ k_ wr => ∃ (k : Nat) (v : Int), k ≤ t.size ∧ at_ = .int .i64 v ∧ k_ = .int .i64 (k : Int) ∧ Hid (folL L (u.take k) = inS n v) ∧ Hid (∃ q, wr = w.drewN q)) (fun _ k_ _ => t.size - (intOf k_).toNat)
  case atStart => exact ⟨0, 0, Nat.zero_le _, rfl, rfl, HK0, Lib.hid ⟨0, rfl⟩⟩
  case round =>
    clear HK0
    obtain ⟨k, v, hk, rfl, rfl, HFO, HW⟩ := hrel
    have cI := fun w' => implIs_any a n c v w'
    by_cases hv : 0 ≤ v ∧ v < (n : Int)
    · obtain ⟨i, rfl⟩ : ∃ i : Nat, v = (i : Int) := ⟨v.toNat, by omega⟩
      rw [decide_eq_true hv] at cI
      have hi : i < n := by omega
      have hfo := HFO.out
      rw [inS, if_pos hv] at hfo
      clear hv
      by_cases hlt : k < t.size
      · obtain ⟨x, hx⟩ : ∃ x, t[k] = x := ⟨_, rfl⟩
        have hku : k < u.length := by have := HSZ.out; omega
        have hux : u.take (k + 1) = u.take k ++ [x] := by
          rw [List.take_succ_eq_append_getElem hku, ← hx]
          have h1 := HU.out
          subst h1
          rfl
        have hiL : i < L.length := by have := HN.out; omega
        obtain ⟨v2, hv2⟩ : ∃ v, toE (dtA L i).2.2 (x.toNat : Int) = v := ⟨_, rfl⟩
        have HNX := Lib.hid (show folL L (u.take (k + 1)) = inS n v2 by
          have h := fol_next (x := x) hfo
          rw [← hux, hv2, ← HN.out] at h
          exact h)
        have hs : StAt wr a L A := by
          obtain ⟨q, hq⟩ := HW.out
          rw [hq]
          exact HST.out.below (below_drewN' (Below.refl _ _) q)
        obtain ⟨b, o, rfl, hb, hc⟩ := hs.spot (by omega)
        obtain ⟨ai, ni, ci, hAi⟩ : ∃ a n c, A i = (a, n, c) := ⟨_, _, _, rfl⟩
        have hin := hs.inner i hiL
        rw [hAi] at hin
        have hfi := HF.out i hiL
        have hlen : ni = (dtA L i).2.2.length := hin.1
        have cT := fun q => implBy_any (dtA L i).2.2 (x.toNat : Int) ai ni ci (wr.drewN q) hlen (by omega) (hin.2.drewN q)
        rw [hv2] at cT
        obtain ⟨g1, g2, g3⟩ := hc i hiL
        rw [hAi] at g3
        replace g3 : wr.cell? ⟨b, o + i * 3 + 2, none⟩ = some (.slice ai ni ci) := g3
        have z0 : (0 : Int) ≤ (k : Int) := by omega
        have z1 : (k : Int) < (t.size : Int) := by omega
        have z2 : (0 : Int) ≤ (i : Int) := by omega
        have z3 : (i : Int) < (n : Int) := by omega
        have hb9 : (x.toNat : Int) ≤ 255 := by have := x.toNat_lt; omega
        have hni : ni ≤ 1048576 := by omega
        have va : IntKind.i64.wrap (x.toNat : Int) = (x.toNat : Int) := IntWalk.i64_in _ (by omega)
        clear hin hfi hlen hs hux hku hv2 hAi hiL hc g1 g2 hfo HFO
        go_wp2_with fail
        refine (cI _).mono ?_
        rintro e w5 ⟨rfl, rfl⟩
        clear cI
        go_wp2
        go_quiet ((go_at_call 43; (try rw [va]); exact Calls.quiet_of_same (cT _)))
        have HW2 := Lib.hid (show ∃ q, w5.drewN nq = w.drewN q by
          obtain ⟨q, hq⟩ := HW.out
          exact ⟨q + nq, by rw [hq, World.drewN_drewN]⟩)
        go_wp2
        go_roundw
        case rel => exact ⟨k + 1, v2, by omega, rfl, by go_num, HNX, HW2⟩
        case measure => simp [intOf]; omega
      · have HE := Lib.hid (show folL L u = (i : Int) by
          rwa [List.take_of_length_le (by have := HSZ.out; omega)] at hfo)
        clear hfo HFO
        go_wp2_with fail
        refine (cI _).mono ?_
        rintro e w5 ⟨rfl, rfl⟩
        clear cI
        go_wp2
        go_ret
        exact ⟨by rw [HE.out]; rfl, HW.out⟩
    · rw [decide_eq_false hv] at cI
      have hfo := HFO.out
      rw [inS, if_neg hv] at hfo
      have HE := Lib.hid (show folL L u = -1 from folL_end hfo)
      clear hfo HFO hv
      by_cases hlt : k < t.size
      · have z1 : (k : Int) < (t.size : Int) := by omega
        go_wp2_with fail
        refine (cI _).mono ?_
        rintro e w5 ⟨rfl, rfl⟩
        go_wp2_with fail
        refine (cI _).mono ?_
        rintro e w5 ⟨rfl, rfl⟩
        clear cI
        go_wp2
        go_ret
        exact ⟨by rw [HE.out]; rfl, HW.out⟩
      · go_wp2_with fail
        refine (cI _).mono ?_
        rintro e w5 ⟨rfl, rfl⟩
        clear cI
        go_wp2
        go_ret
        exact ⟨by rw [HE.out]; rfl, HW.out⟩

end Go.Proofs.Ytehppjilnacjlaa
