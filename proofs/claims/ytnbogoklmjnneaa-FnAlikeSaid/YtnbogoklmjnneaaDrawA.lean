/-
  The contracts of the model's draws for chapter 1: each returns short texts (and numbers), whatever the code, and writes nothing that was there. No conditions.
-/
import Derived.Test.YtnbogoklmjnneaaRdText
import Derived.Test.YtnbogoklmjnneaaAlikeCalls
namespace Go.Proofs.Ytnbogoklmjnneaa
open Go.RowKit

theorem below_rd {w w1 w2 : World} (hb : Below w.heap.size w w1) (hs : w1.heap.size = w.heap.size + 1) (hg : w1.grownBy w2 (some w.heap.size)) : Below w.heap.size w w2 :=
  hb.grown hg (by omega) (fun k hk => by simp at hk; omega)

theorem DrawAlike_any (w : World) (a : Option Addr) (len cap : Nat) (zs : List Int) (h : IsRowK .u8 w a len cap zs) :
    Calls Try.prog 17 #[.slice a len cap] w fun e w' => ∃ t : ByteArray, t.size ≤ 1000 ∧ e = .returned (.string t) ∧ Below w.heap.size w w' := by
  go_enter Try.func17, Try.ntmps17
  go_wp2_with fail
  refine (open_any _ _ _ _ _ h).mono ?_
  rintro e w1 ⟨n, rfl, hrd, hb, hs⟩
  go_wp2_with fail
  refine (text_any _ _ _ _ _ _ 9 (by omega) (by omega) hrd).mono ?_
  rintro e w2 ⟨t, ht, rfl, hrd2, hg⟩
  have hB := below_rd hb hs hg
  clear hb hs hg hrd hrd2
  go_wp2
  go_ret
  exact ⟨t, by omega, rfl, hB⟩

theorem DrawSignCounts_any (w : World) (a : Option Addr) (len cap : Nat) (zs : List Int) (h : IsRowK .u8 w a len cap zs) :
    Calls Try.prog 32 #[.slice a len cap] w fun e w' => ∃ t : ByteArray, t.size ≤ 1000 ∧ e = .returned (.string t) ∧ Below w.heap.size w w' := by
  go_enter Try.func32, Try.ntmps32
  go_wp2_with fail
  refine (open_any _ _ _ _ _ h).mono ?_
  rintro e w1 ⟨n, rfl, hrd, hb, hs⟩
  go_wp2_with fail
  refine (text_any _ _ _ _ _ _ 9 (by omega) (by omega) hrd).mono ?_
  rintro e w2 ⟨t, ht, rfl, hrd2, hg⟩
  have hB := below_rd hb hs hg
  clear hb hs hg hrd hrd2
  go_wp2
  go_ret
  exact ⟨t, by omega, rfl, hB⟩

theorem DrawIsAlike_any (w : World) (a : Option Addr) (len cap : Nat) (zs : List Int) (h : IsRowK .u8 w a len cap zs) :
    Calls Try.prog 22 #[.slice a len cap] w fun e w' => ∃ t : ByteArray, t.size ≤ 1000 ∧ e = .returned (.string t) ∧ Below w.heap.size w w' := by
  go_enter Try.func22, Try.ntmps22
  go_wp2_with fail
  refine (open_any _ _ _ _ _ h).mono ?_
  rintro e w1 ⟨n, rfl, hrd, hb, hs⟩
  go_wp2_with fail
  refine (text_any _ _ _ _ _ _ 5 (by omega) (by omega) hrd).mono ?_
  rintro e w2 ⟨t, ht, rfl, hrd2, hg2⟩
  go_wp2_with fail
  refine (pick_pos _ _ _ _ _ _ 2 (by omega) hrd2 (by omega) (by omega)).mono ?_
  rintro e w3 ⟨q, hq, rfl, hrd3, hg3⟩
  have hB := below_rd hb hs (grownBy_trans hg2 hg3)
  clear hb hs hg2 hg3 hrd hrd2 hrd3
  by_cases hq0 : (q : Int) = 0
  · have t1 : ((q : Int) == 0) = true := by rw [hq0]; rfl
    clear hq0
    have hsz := alikeB_size t
    go_wp2_with fail
    refine (specAlike_any t _ (by omega)).mono ?_
    rintro e w4 ⟨a4, n4, c4, rfl, _, hb4⟩
    have hB4 := hB.trans (hb4.mono hB.size)
    clear hB hb4
    go_wp2
    go_ret
    exact ⟨_, by omega, rfl, hB4⟩
  · have t1 : ((q : Int) == 0) = false := by simp; omega
    go_wp2
    go_ret
    exact ⟨t, by omega, rfl, hB⟩

theorem DrawAlikeJoin_any (w : World) (a : Option Addr) (len cap : Nat) (zs : List Int) (h : IsRowK .u8 w a len cap zs) :
    Calls Try.prog 28 #[.slice a len cap] w fun e w' => ∃ t t2 t3 : ByteArray, t.size ≤ 1000 ∧ t2.size ≤ 1000 ∧ t3.size ≤ 1000 ∧ e = .returned (.tuple #[.string t, .string t2, .string t3]) ∧ Below w.heap.size w w' := by
  go_enter Try.func28, Try.ntmps28
  go_wp2_with fail
  refine (open_any _ _ _ _ _ h).mono ?_
  rintro e w1 ⟨n, rfl, hrd, hb, hs⟩
  go_wp2_with fail
  refine (text_any _ _ _ _ _ _ 5 (by omega) (by omega) hrd).mono ?_
  rintro e w2 ⟨t, ht, rfl, hrd2, hg2⟩
  go_wp2_with fail
  refine (gap_any _ _ _ _ _ _ (by omega) hrd2).mono ?_
  rintro e w3 ⟨t2, ht2, rfl, hrd3, hg3⟩
  go_wp2_with fail
  refine (text_any _ _ _ _ _ _ 5 (by omega) (by omega) hrd3).mono ?_
  rintro e w4 ⟨t3, ht3, rfl, hrd4, hg4⟩
  have hB := below_rd hb hs (grownBy_trans (grownBy_trans hg2 hg3) hg4)
  clear hb hs hg2 hg3 hg4 hrd hrd2 hrd3 hrd4
  go_wp2
  go_ret3
  exact ⟨t, t2, t3, by omega, by omega, by omega, rfl, hB⟩

theorem DrawSpanBack_any (w : World) (a : Option Addr) (len cap : Nat) (zs : List Int) (h : IsRowK .u8 w a len cap zs) :
    Calls Try.prog 29 #[.slice a len cap] w fun e w' => ∃ (t : ByteArray) (x y : Int), t.size ≤ 1000 ∧ -10 ≤ x ∧ x ≤ 100000 ∧ 0 ≤ y ∧ y ≤ 100000 ∧ e = .returned (.tuple #[.string t, .int .i64 x, .int .i64 y]) ∧ Below w.heap.size w w' := by
  go_enter Try.func29, Try.ntmps29
  go_wp2_with fail
  refine (open_any _ _ _ _ _ h).mono ?_
  rintro e w1 ⟨n, rfl, hrd, hb, hs⟩
  go_wp2_with fail
  refine (text_any _ _ _ _ _ _ 6 (by omega) (by omega) hrd).mono ?_
  rintro e w2 ⟨t, ht, rfl, hrd2, hg2⟩
  obtain ⟨T, HT⟩ : ∃ T, Hid (alikeB t = T) := ⟨_, Lib.hid rfl⟩
  have hT : T.size ≤ 1000 := by have := alikeB_size t; rw [HT.out] at this; omega
  go_wp2_with fail
  refine (specAlike_is t T _ (by omega) HT.out).mono ?_
  rintro e w3 ⟨a3, n3, c3, rfl, _, hb3⟩
  have hlt := hrd2.lt
  have hrd3 := hrd2.kept (w' := w3) (fun k hk => hb3.block k (by omega))
  have hB3 := (below_rd hb hs hg2).trans (hb3.mono (by have := hb.size; have := hg2.size; omega))
  clear hb hs hg2 hb3 hrd hrd2 hlt
  go_wp2_with fail
  refine (pick_pos _ _ _ _ _ _ ((T.size : Int) + 2) (by omega) hrd3 (by omega) (by omega)).mono ?_
  rintro e w4 ⟨x, hx, rfl, hrd4, hg4⟩
  go_wp2_with fail
  refine (pick_pos _ _ _ _ _ _ 8 (by omega) hrd4 (by omega) (by omega)).mono ?_
  rintro e w5 ⟨y, hy, rfl, hrd5, hg5⟩
  go_wp2_with fail
  refine (pick_pos _ _ _ _ _ _ ((T.size : Int) + 2) (by omega) hrd5 (by omega) (by omega)).mono ?_
  rintro e w6 ⟨z, hz, rfl, hrd6, hg6⟩
  have hG := grownBy_trans (grownBy_trans hg4 hg5) hg6
  have hB := hB3.grown hG (by have := hB3.size; omega) (fun k hk => by simp at hk; omega)
  clear hB3 hG hg4 hg5 hg6 hrd3 hrd4 hrd5 hrd6
  go_wp2
  go_ret3
  exact ⟨t, _, _, by omega, by omega, by omega, by omega, by omega, rfl, hB⟩

end Go.Proofs.Ytnbogoklmjnneaa
