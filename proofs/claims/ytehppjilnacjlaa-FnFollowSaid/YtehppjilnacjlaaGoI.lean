/-
  The contract of the program's function stateGoingOn over any states whose links lead to fewer bytes. Condition: states have at most 2^20 edges each.
-/
import Derived.Test.YtehppjilnacjlaaEdgI
import Derived.Test.YtehppjilnacjlaaFollM
namespace Go.Proofs.Ytehppjilnacjlaa
open Go.RowKit

/-- The first state on the way along links that has an edge with a byte. -/
inductive Going (L : List Dt) (s : Int) : Int → Int → Prop
  | off : Going L s (-1) (-1)
  | stay {i : Nat} : i < L.length → 0 ≤ toE (dtA L i).2.2 s → Going L s (i : Int) (i : Int)
  | link {i : Nat} {p : Int} : i < L.length → toE (dtA L i).2.2 s < 0 → Going L s (dtA L i).2.1 p → Going L s (i : Int) p
def Links (L : List Dt) : Prop := ∀ i, i < L.length → (dtA L i).2.1 = -1 ∨ ∃ j : Nat, j < L.length ∧ (dtA L i).2.1 = (j : Int) ∧ (dtA L j).1.toNat < (dtA L i).1.toNat
def mGo (L : List Dt) (x : Int) : Nat := if x < 0 then 0 else (dtA L x.toNat).1.toNat + 1
theorem Going.cases_ {L : List Dt} {s x p : Int} (h : Going L s x p) : (x = -1 ∧ p = -1) ∨ ∃ i : Nat, i < L.length ∧ x = (i : Int) ∧ ((0 ≤ toE (dtA L i).2.2 s ∧ p = (i : Int)) ∨ (toE (dtA L i).2.2 s < 0 ∧ Going L s (dtA L i).2.1 p)) := by
  cases h with
  | off => exact .inl ⟨rfl, rfl⟩
  | stay h1 h2 => exact .inr ⟨_, h1, rfl, .inl ⟨h2, rfl⟩⟩
  | link h1 h2 h3 => exact .inr ⟨_, h1, rfl, .inr ⟨h2, h3⟩⟩
theorem mGo_link {L : List Dt} (h : Links L) {i : Nat} (hi : i < L.length) : mGo L (dtA L i).2.1 < mGo L (i : Int) := by
  rcases h i hi with e | ⟨j, hj, e, hl⟩
  · rw [e, mGo, if_pos (by decide), mGo, if_neg (by omega)]; omega
  · rw [e, mGo, if_neg (by omega), mGo, if_neg (by omega), Int.toNat_natCast, Int.toNat_natCast]; omega

set_option maxHeartbeats 8000000 in
theorem implGo_any (L : List Dt) (x p s : Int) (a : Option Addr) (n c : Nat) (A : Nat → Sm) (w : World) (hn : n = L.length) (few : ∀ i, i < L.length → (dtA L i).2.2.length ≤ 1048576) (hL : Links L) (hgo : Going L s x p) (h : StAt w a L A) :
    Calls Try.prog 40 #[.slice a n c, .int .i64 x, .int .i64 s] w fun e w' => e = .returned (.int .i64 p) ∧ w' = w := by
  have HN := Lib.hid hn
  have HF := Lib.hid few
  have HLK := Lib.hid hL
  have HST := Lib.hid h
  have HGO := Lib.hid hgo
  clear hn few hL hgo h
  go_enter Try.func40, Try.ntmps40
  go_wp2
  go_loopw [7] (fun x_ wr => ∃ x : Int, x_ = .int .i64 x ∧ Hid (Going L s x p) ∧ Hid (wr = w)) (fun x_ _ => mGo L (intOf x_))
  case atStart => exact ⟨x, rfl, HGO, Lib.hid rfl⟩
  case round =>
    clear HGO
    obtain ⟨x, rfl, HG, HW⟩ := hrel
    obtain rfl := HW.out
    clear HW
    rcases HG.out.cases_ with ⟨rfl, rfl⟩ | ⟨i, hiL, rfl, hcase⟩
    · clear HG
      go_wp2
      go_ret
      exact ⟨rfl, rfl⟩
    · obtain ⟨b, o, rfl, hb, hc⟩ := HST.out.spot (by omega)
      obtain ⟨v, hv⟩ : ∃ v, toE (dtA L i).2.2 s = v := ⟨_, rfl⟩
      obtain ⟨ai, ni, ci, hAi⟩ : ∃ a n c, A i = (a, n, c) := ⟨_, _, _, rfl⟩
      obtain ⟨d1, hd1⟩ : ∃ d, (dtA L i).1 = d := ⟨_, rfl⟩
      obtain ⟨d2, hd2⟩ : ∃ d, (dtA L i).2.1 = d := ⟨_, rfl⟩
      have hin := HST.out.inner i hiL
      rw [hAi] at hin
      have hfi := HF.out i hiL
      have hlen : ni = (dtA L i).2.2.length := hin.1
      have cT := implBy_any (dtA L i).2.2 s ai ni ci wr hlen (by omega) hin.2
      obtain ⟨q1, q2, q3⟩ := hc i hiL
      rw [hd2] at q2
      rw [hAi] at q3
      replace q3 : wr.cell? ⟨b, o + i * 3 + 2, none⟩ = some (.slice ai ni ci) := q3
      have HME := Lib.hid (mGo_link HLK.out hiL)
      rw [hv] at cT hcase
      rw [hd2] at hcase HME
      have z2 : (0 : Int) ≤ (i : Int) := by omega
      have z3 : (i : Int) < (n : Int) := by have := HN.out; omega
      have hni : ni ≤ 1048576 := by omega
      clear hin hfi hlen hv hAi hd1 hd2 hiL hc q1 HG
      rcases hcase with ⟨hp, rfl⟩ | ⟨hneg, hgo⟩
      · have t3 : decide (v < 0) = false := decide_eq_false (by omega)
        clear HME
        go_wp2_with fail
        refine cT.mono ?_
        rintro e w7 ⟨rfl, rfl⟩
        clear cT
        go_wp2
        go_ret
        exact ⟨rfl, rfl⟩
      · have t3 : decide (v < 0) = true := decide_eq_true hneg
        have HGO := Lib.hid hgo
        clear hgo
        go_wp2_with fail
        refine cT.mono ?_
        rintro e w7 ⟨rfl, rfl⟩
        clear cT
        go_wp2
        go_roundw
        case rel => exact ⟨d2, rfl, HGO, Lib.hid (by trivial)⟩
        case measure => exact HME.out

end Go.Proofs.Ytehppjilnacjlaa
