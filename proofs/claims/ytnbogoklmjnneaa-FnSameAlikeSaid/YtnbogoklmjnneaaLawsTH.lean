/-
  The walk of a law of chapter 1 over drawn texts (gaps and the height of letters do not matter): it returns true, and nothing that was there is written. No conditions.
-/
import Derived.Test.YtnbogoklmjnneaaLawsTD
import Derived.Laws.Strings2
import Derived.Laws.Strings3
import Derived.Deep.RegionWith
namespace Go.Proofs.Ytnbogoklmjnneaa
open Go.RowKit

theorem alikeB_framed (s : ByteArray) : alikeB (({ data := #[32] } : ByteArray) ++ s ++ { data := #[44, 32] }) = alikeB s := by
  apply ByteArray.ext
  apply Array.toList_inj.1
  rw [alikeB_list, alikeB_list, Joins.data_append, Joins.data_append, alikeT_eq, alikeT_eq, List.foldl_append, List.foldl_append]
  have e1 : List.foldl outM ([], false) ({ data := #[32] } : ByteArray).data.toList = ([], true) := outM_gaps [32] _ (by decide) (by simp)
  have e2 : ∀ st, List.foldl outM st ({ data := #[44, 32] } : ByteArray).data.toList = (st.1, true) := fun st => outM_gaps [44, 32] st (by decide) (by simp)
  rw [e1, e2]
  exact (outM_nil true s.data.toList).1

set_option maxHeartbeats 4000000 in
theorem DrawSameAlike_any (w : World) (a : Option Addr) (len cap : Nat) (zs : List Int) (h : IsRowK .u8 w a len cap zs) :
    Calls Try.prog 25 #[.slice a len cap] w fun e w' => ∃ t t2 : ByteArray, t.size ≤ 1000 ∧ t2.size ≤ 1000 ∧ e = .returned (.tuple #[.string t, .string t2]) ∧ Below w.heap.size w w' := by
  go_enter Try.func25, Try.ntmps25
  go_wp2_with fail
  refine (open_any _ _ _ _ _ h).mono ?_
  rintro e w1 ⟨n, rfl, hrd, hb, hs⟩
  go_wp2_with fail
  refine (text_any _ _ _ _ _ _ 5 (by omega) (by omega) hrd).mono ?_
  rintro e w2 ⟨t, ht, rfl, hrd2, hg2⟩
  go_wp2_with fail
  refine (pick_pos _ _ _ _ _ _ 4 (by omega) hrd2 (by omega) (by omega)).mono ?_
  rintro e w3 ⟨q, hq, rfl, hrd3, hg3⟩
  have hG := grownBy_trans hg2 hg3
  have hB := below_rd hb hs hG
  clear hg2 hg3 hrd hrd2
  have hq4 : q = 0 ∨ q = 1 ∨ q = 2 ∨ q = 3 := by omega
  rcases hq4 with rfl | rfl | rfl | rfl
  · clear hb hs hG hrd3
    have hsz := alikeB_size t
    go_wp2_with fail
    refine (specAlike_any t _ (by omega)).mono ?_
    rintro e w4 ⟨a4, n4, c4, rfl, _, hb4⟩
    have hB4 := hB.trans (hb4.mono hB.size)
    clear hB hb4
    go_wp2
    go_ret2
    exact ⟨_, _, by omega, by omega, rfl, hB4⟩
  · go_wp2_with fail
    refine (text_any _ _ _ _ _ _ 5 (by omega) (by omega) hrd3).mono ?_
    rintro e w4 ⟨t2, ht2, rfl, hrd4, hg4⟩
    have hB4 := below_rd hb hs (grownBy_trans hG hg4)
    clear hB hb hs hG hg4 hrd3 hrd4
    go_wp2
    go_ret2
    exact ⟨_, _, by omega, by omega, rfl, hB4⟩
  · go_wp2_with fail
    refine (pick_pos _ _ _ _ _ _ ((t.size : Int) + 1) (by omega) hrd3 (by omega) (by omega)).mono ?_
    rintro e w4 ⟨i, hi, rfl, hrd4, hg4⟩
    have hG4 := grownBy_trans hG hg4
    clear hG hg4 hrd3 hB
    have z0 : (0 : Int) ≤ i := by omega
    have z1 : (i : Int) ≤ t.size := by omega
    have hrd4' : RdAt w4.drew w.heap.size a n cap 1000 := RdAt.more (RdAt.kept (w' := w4.drew) hrd4 (fun _ _ => rfl)) (by omega)
    have hG4' : w1.grownBy w4.drew (some w.heap.size) := ⟨hG4.os, hG4.tape, hG4.output, hG4.size, hG4.block⟩
    clear hrd4 hG4
    go_wp2
    go_region_with (go_at_call 43; refine (gap_any _ _ _ _ _ _ (by omega) hrd4').mono ?_; rintro e w5 ⟨t3, ht3, rfl, hrd5, hg5⟩)
    all_goals
      have hB5 := below_rd hb hs (grownBy_trans hG4' hg5)
      have hsz : (t.extract 0 i ++ t3 ++ t.extract i t.size).size ≤ 1000 := by simp only [size_append]; simp; omega
      clear hb hs hG4' hg5 hrd4' hrd5
      go_wp2
      go_ret2
      exact ⟨_, _, by omega, hsz, rfl, hB5⟩
  · clear hb hs hG hrd3
    go_wp2
    go_ret2
    exact ⟨_, _, by omega, by omega, rfl, hB⟩

set_option maxHeartbeats 1000000 in
theorem walkFnSameAlike (a : Option Addr) (len cap : Nat) (zs : List Int) (w : World) (h : IsRowK .u8 w a len cap zs) :
    Calls Try.prog 7 #[.slice a len cap] w fun e w' => e = .returned (.bool true) ∧ Below w.heap.size w w' := by
  by_cases hs : len ≤ 1048576
  · go_enter Try.func7, Try.ntmps7
    go_wp2_with fail
    refine (DrawSameAlike_any _ _ _ _ _ h).mono ?_
    rintro e w0 ⟨s, t, hs0, ht0, rfl, hb0⟩
    clear h
    obtain ⟨T, hT⟩ : ∃ T, alikeB s = T := ⟨_, rfl⟩
    have hts : T.size ≤ 1000 := by have := alikeB_size s; rw [hT] at this; omega
    have hTT : alikeB T = T := by rw [← hT]; exact alikeB_again s
    have hfr := alikeB_framed s
    rw [hT] at hfr
    obtain ⟨y, hy⟩ : ∃ y, (T.toList == (alikeB t).toList) = y := ⟨_, rfl⟩
    have c1 : ∀ w, Calls Try.prog 26 #[.string s, .string t] w fun e w' => e = .returned (.bool y) ∧ Below w.heap.size w w' := fun w => by
      have := implSameAlike_any s t w (by omega) (by omega)
      rwa [hT, hy] at this
    have c2 : ∀ w, Calls Try.prog 27 #[.string s, .string t] w fun e w' => e = .returned (.bool y) ∧ Below w.heap.size w w' := fun w => by
      have := specSameAlike_any s t w (by omega) (by omega)
      rwa [hT, hy] at this
    have c3 : ∀ w, Calls Try.prog 26 #[.string t, .string s] w fun e w' => e = .returned (.bool y) ∧ Below w.heap.size w w' := fun w => by
      have := implSameAlike_any t s w (by omega) (by omega)
      rwa [hT, show ((alikeB t).toList == T.toList) = (T.toList == (alikeB t).toList) from by rw [Bool.eq_iff_iff, beq_iff_eq, beq_iff_eq]; exact eq_comm, hy] at this
    have c4 : ∀ w, Calls Try.prog 26 #[.string s, .string T] w fun e w' => e = .returned (.bool true) ∧ Below w.heap.size w w' := fun w => by
      have := implSameAlike_any s T w (by omega) (by omega)
      rw [hT, hTT] at this
      simpa using this
    have c5 : ∀ w, Calls Try.prog 26 #[.string (({ data := #[32] } : ByteArray) ++ s ++ { data := #[44, 32] }), .string s] w fun e w' => e = .returned (.bool true) ∧ Below w.heap.size w w' := fun w => by
      have hsz : (({ data := #[32] } : ByteArray) ++ s ++ { data := #[44, 32] }).size ≤ 1048576 := by
        rw [size_append, size_append]
        have e1 : ({ data := #[32] } : ByteArray).size = 1 := rfl
        have e2 : ({ data := #[44, 32] } : ByteArray).size = 2 := rfl
        omega
      have := implSameAlike_any _ s w hsz (by omega)
      rw [hfr, hT] at this
      simpa using this
    have HT := Lib.hid hT
    clear hT hTT hfr hy
    go_wp2_with fail
    refine (implAlike_is s T _ (by omega) HT.out).mono ?_
    rintro e w1 ⟨a3, n3, c3', rfl, _, hb1⟩
    go_wp2_with fail
    refine (c1 _).mono ?_
    rintro e w2 ⟨rfl, hb2⟩
    go_wp2_with fail
    refine (c2 _).mono ?_
    rintro e w3 ⟨rfl, hb3⟩
    have hB3 : Below w.heap.size w w3 := (hb0.trans (hb1.mono hb0.size)).trans ((hb2.trans (hb3.mono hb2.size)).mono (by have := hb0.size; have := hb1.size; omega))
    clear hb0 hb1 hb2 hb3
    go_wp2_with fail
    refine (c3 _).mono ?_
    rintro e w4 ⟨rfl, hb4⟩
    go_wp2_with fail
    refine (c1 _).mono ?_
    rintro e w5 ⟨rfl, hb5⟩
    have hB5 : Below w.heap.size w w5 := hB3.trans ((hb4.trans (hb5.mono hb4.size)).mono hB3.size)
    clear hB3 hb4 hb5
    go_wp2_with fail
    refine (c4 _).mono ?_
    rintro e w6 ⟨rfl, hb6⟩
    go_wp2_with fail
    refine (c5 _).mono ?_
    rintro e w7 ⟨rfl, hb7⟩
    have hB7 : Below w.heap.size w w7 := hB5.trans ((hb6.trans (hb7.mono hb6.size)).mono hB5.size)
    clear hB5 hb6 hb7
    go_wp2_with fail
    refine (alive_any _).mono ?_
    rintro e w8 ⟨rfl, rfl⟩
    go_wp2
    go_ret
    exact ⟨rfl, hB7⟩
  · have h2 : (1048576 : Int) < (len : Int) := by omega
    go_enter Try.func7, Try.ntmps7
    go_wp2
    go_ret
    exact ⟨rfl, Below.refl _ _⟩

end Go.Proofs.Ytnbogoklmjnneaa
