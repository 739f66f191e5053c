/-
  The contracts of the program's functions isToBeSplit and splitOff. Condition: states have at most 2^20 edges.
-/
import Derived.Test.YtehppjilnacjlaaEdgI
import Derived.Test.YtehppjilnacjlaaMachM
namespace Go.Proofs.Ytehppjilnacjlaa
open Go.RowKit

set_option maxHeartbeats 8000000 in
theorem implToSplit_no (a : Option Addr) (n c : Nat) (s : Int) (w : World) :
    Calls Try.prog 42 #[.slice a n c, .int .i64 (-1), .int .i64 s] w fun e w' => e = .returned (.bool false) ∧ ∃ q, w' = w.drewN q := by
  go_enter Try.func42, Try.ntmps42
  go_wp2
  go_quiet (fail)
  go_wp2
  go_ret
  exact ⟨rfl, _, rfl⟩

set_option maxHeartbeats 8000000 in
theorem implToSplit_is (r : Bool) (i q : Nat) (s di dq : Int) (F : List (Int × Int)) (g n c : Nat) (ai : Option Addr) (ni ci : Nat) (w : World) (hr : decide (di + 1 < dq) = r) (hi : i < n) (hq : q < n) (hd0 : 0 ≤ di) (hd : di ≤ 1099511627776) (hF : toE F s = (q : Int)) (hni : ni = F.length) (hni9 : ni ≤ 1048576)
    (e1 : w.cell? ⟨g, i * 3, none⟩ = some (.int .i64 di)) (e2 : w.cell? ⟨g, i * 3 + 2, none⟩ = some (.slice ai ni ci)) (e3 : w.cell? ⟨g, q * 3, none⟩ = some (.int .i64 dq)) (hat : CellsAt w ai (pairsC F)) :
    Calls Try.prog 42 #[.slice (some ⟨g, 0, none⟩) n c, .int .i64 i, .int .i64 s] w fun e w' => e = .returned (.bool r) ∧ ∃ q, w' = w.drewN q := by
  have cT := fun q => implBy_any F s ai ni ci (w.drewN q) hni hni9 (hat.drewN q)
  rw [hF] at cT
  have t0 : decide ((i : Int) ≥ 0) = true := decide_eq_true (by omega)
  have z0 : (0 : Int) ≤ (i : Int) := by omega
  have z1 : (i : Int) < (n : Int) := by omega
  have z2 : (0 : Int) ≤ (q : Int) := by omega
  have z3 : (q : Int) < (n : Int) := by omega
  have v1 : IntKind.i64.wrap (di + 1) = di + 1 := IntWalk.i64_in _ (by omega)
  clear hF hni hat hi hq
  go_enter Try.func42, Try.ntmps42
  go_wp2
  go_quiet ((go_at_call 43; exact Calls.quiet_of_same (cT _)))
  go_wp2
  go_ret
  exact ⟨rfl, _, rfl⟩

set_option maxHeartbeats 8000000 in
theorem implSplitOff_any (d1 d2 m : Int) (F : List (Int × Int)) (a : Option Addr) (n c : Nat) (w : World) (hn : n = F.length) (hn9 : n ≤ 1048576) (hat : CellsAt w a (pairsC F)) :
    Calls Try.prog 44 #[.agg #[.int .i64 d1, .int .i64 d2, .slice a n c], .int .i64 m] w fun e w' => ∃ a' c', e = .returned (.agg #[.int .i64 m, .int .i64 d2, .slice a' n c']) ∧ One w w.heap.size w' 31 2 a' n c' (pairsC F) := by
  have HLQ := Lib.hid (show (pairsC F).length = n * 2 by rw [pairsC_len, hn])
  have HAT := Lib.hid hat
  clear hn hat
  go_enter Try.func44, Try.ntmps44
  go_wp2
  have ha := below_alloc2 w (.cells #[.int .i64 d1, .int .i64 d2, .slice a n c] 29) (.cells #[.int .i64 0, .int .i64 0, .slice none 0 0] 29)
  have S1 := (Side.fresh (w := w) (B := 0) (v := .slice none 0 0) 29 [.int .i64 d1, .int .i64 d2, .slice a n c] (Nat.zero_le _) (by intro k hk; simp [Value.ownBlock] at hk)).later ((Below.refl _ _).alloc (Nat.le_refl _) (.cells #[.int .i64 0, .int .i64 0, .slice none 0 0] 29))
  have S2 := Side.fresh (w := w.alloc (.cells #[.int .i64 d1, .int .i64 d2, .slice a n c] 29)) (B := 0) (v := .slice none 0 0) 29 [.int .i64 0, .int .i64 0, .slice none 0 0] (Nat.zero_le _) (by intro k hk; simp [Value.ownBlock] at hk)
  have hg2 : (w.alloc (.cells #[.int .i64 d1, .int .i64 d2, .slice a n c] 29)).heap.size = w.heap.size + 1 := by simp
  rw [hg2] at S2
  have hat5 := HAT.out.below ha
  obtain ⟨w5, hw5⟩ : ∃ w9, (w.alloc (.cells #[.int .i64 d1, .int .i64 d2, .slice a n c] 29)).alloc (.cells #[.int .i64 0, .int .i64 0, .slice none 0 0] 29) = w9 := ⟨_, rfl⟩
  replace S1 : Side w5 0 (.slice none 0 0) 29 w.heap.size [.int .i64 d1, .int .i64 d2, .slice a n c] := by rw [← hw5]; exact S1
  replace S2 : Side w5 0 (.slice none 0 0) 29 (w.heap.size + 1) [.int .i64 0, .int .i64 0, .slice none 0 0] := by rw [← hw5]; exact S2
  rw [hw5] at hat5 ha
  rw [hw5]
  obtain ⟨g, hg⟩ : ∃ g, w.heap.size = g := ⟨_, rfl⟩
  rw [hg] at S1 S2
  rw [hg]
  have HAT5 := Lib.hid hat5
  have HA := Lib.hid ha
  have HS2 := Lib.hid S2
  have HK := Lib.hid (show ∀ w', Below w5.heap.size w5 w' → w'.cell? ⟨g, 1, none⟩ = some (.int .i64 d2) ∧ w'.cell? ⟨g, 2, none⟩ = some (.slice a n c) from fun w' hb => ⟨(S1.later hb).cell 1 _ rfl, (S1.later hb).cell 2 _ rfl⟩)
  have HB1 := Lib.hid (show Below w5.heap.size w5 (w5.alloc (.cells #[] 31)).drew from ((Below.refl _ _).alloc (Nat.le_refl _) _).drew)
  have HB2 := Lib.hid (show Below w5.heap.size w5 (w5.drew.alloc (.cells #[] 31)) from ((Below.refl _ _).drew).alloc (Nat.le_refl _) _)
  obtain ⟨k1, k2⟩ := HK.out w5 (Below.refl _ _)
  have HG := Lib.hid hg
  clear hat5 ha S1 S2 hw5 hg hg2 HAT
  go_region_held3 (fun w' => w'.cell? ⟨g, 1, none⟩ = some (.int .i64 d2) ∧ w'.cell? ⟨g, 2, none⟩ = some (.slice a n c)) (first | go_keep | exact HK.out _ HB1.out | exact HK.out _ HB2.out | exact HK.out _ h3.below)
    ((refine step_append_to w5 w5.heap.size (some ⟨w5.heap.size, 0, none⟩) 0 0 [] a n c (pairsC F) n (pairsC F) (by omega) (by simp) rfl (.tmp 8) (.tmp 10) 27 (by rfl) (by rfl) (by rfl) Try.ulG9 Try.infoG9 rfl (by decide) HLQ.out (pairsC_one _) (by unfold maxLen; omega) (by omega) (by repeat (first | exact One.empty _ _ _ | refine One.drew ?_ | refine One.alloc ?_ _)) (by repeat (first | exact HAT5.out | refine CellsAt.drewW ?_ | refine CellsAt.allocW ?_ _)) ?_; intro a3 c3 w3 h3 g3; have m0 := (HS2.out.later h3.below).cell 0 _ rfl; have m1 := (HS2.out.later h3.below).cell 1 _ rfl; have m2 := (HS2.out.later h3.below).cell 2 _ rfl; have f0 := (HS2.out.later h3.below).frozen 0; have f1 := (HS2.out.later h3.below).frozen 1; have f2 := (HS2.out.later h3.below).frozen 2))
  have S9 := (((HS2.out.later h3.below).set_self 0 (.int .i64 m)).set_self 1 (.int .i64 d2)).set_self 2 (.slice a3 n c3)
  have n0 := S9.cell 0 _ rfl
  have n1 := S9.cell 1 _ rfl
  have n2 := S9.cell 2 _ rfl
  have hgl := HS2.out.lt
  have hne : (Value.slice a3 n c3).ownBlock ≠ some (g + 1) := fun e => by have := (h3.own.lt _ e).1; omega
  have hB : w.heap.size ≤ g + 1 := by have := HG.out; omega
  have O1 := (((h3.under HA.out HA.out.size).beside hB hne 0 (.int .i64 m)).beside hB hne 1 (.int .i64 d2)).beside hB hne 2 (.slice a3 n c3)
  have HO := Lib.hid O1
  clear m0 m1 m2 f0 f1 f2 h3 g3 S9 k1 k2 hgl hne hB O1
  go_wp2
  exact bodyPost_ret (v := .agg #[.int .i64 m, .int .i64 d2, .slice a3 n c3]) (by simp [results, Try.results44, go_sem, n0, n1, n2]) rfl ⟨a3, c3, rfl, HO.out⟩

end Go.Proofs.Ytehppjilnacjlaa
