/-
  The walk of chapter 2's law WordCounts over drawn texts: it returns true, and nothing that was there is written. No conditions.
-/
import Derived.Test.YtdcdminjoehiiaaCountsS
import Derived.Test.YtdcdminjoehiiaaMathCntT
import Derived.Test.YtdcdminjoehiiaaHelpT2
import Derived.Test.YtdcdminjoehiiaaHelpA
import Derived.Test.YtdcdminjoehiiaaHelpS
import Derived.Test.YtdcdminjoehiiaaDrawB
namespace Go.Proofs.Ytdcdminjoehiiaa
open Go.RowKit

theorem cellsInts {w : World} {a : Option Addr} {l : List Int} (h : CellsAt w a (intCells l)) : IntsAt w a l :=
  ⟨fun hne => by
    obtain ⟨b, o, ha, _, hc⟩ := h.spot (by simpa [intCells] using hne)
    refine ⟨b, o, ha, fun j hj => hc j _ ?_⟩
    simp [intCells, List.getD, List.getElem?_eq_getElem hj]⟩

theorem sameInts_n (a b : Option Addr) (n c d : Nat) (l : List Int) (w : World) (hn : n = l.length) (hl : n < 1099511627776) (h1 : CellsAt w a (intCells l)) (h2 : CellsAt w b (intCells l)) :
    Calls Try.prog 36 #[.slice a n c, .slice b n d] w fun e w' => e = .returned (.bool true) ∧ ∃ q, w' = w.drewN q := by
  subst hn
  exact sameInts_same a b c d l w hl (cellsInts h1) (cellsInts h2)

set_option maxHeartbeats 4000000 in
theorem walkFnWordCounts (a : Option Addr) (len cap : Nat) (zs : List Int) (w : World) (h : IsRowK .u8 w a len cap zs) :
    Calls Try.prog 9 #[.slice a len cap] w fun e w' => e = .returned (.bool true) ∧ Below w.heap.size w w' := by
  by_cases hs : len ≤ 1048576
  · go_enter Try.func9, Try.ntmps9
    go_wp2_with fail
    refine (DrawWordCounts_any _ _ _ _ _ h).mono ?_
    rintro e w1 ⟨a1, n1, c1, l, hf, rfl, o1⟩
    have hn : n1 = l.length := by have h := o1.len; rw [strsC_len] at h; omega
    have hn9 : n1 ≤ 14 := by have := hf.1; omega
    have hcap := o1.cap.1
    have HN := Lib.hid hn
    clear h hn hf
    go_wp2_with fail
    refine (implWordCounts_any l _ _ _ _ HN.out hcap (by omega) o1.at_).mono ?_
    rintro e w2 ⟨b1, m1, d1, b2, m2, d2, rfl, t1⟩
    have o12 := o1.later t1.below
    clear o1
    go_wp2_with fail
    refine (specWordCounts_any l _ _ _ _ HN.out (by omega) o12.at_).mono ?_
    rintro e w3 ⟨b3, m3, d3, b4, m4, d4, rfl, t2⟩
    have t12 := t1.later t2.below
    have B3 := o12.below.trans (t2.below.mono o12.base)
    have hq1 : m1 = (cntW (countC l)).length := by have h := t1.one.1; rw [strsC_len] at h; omega
    have hq2 : m2 = (cntN (countC l)).length := by have h := t1.two.1; simp only [intCells, List.length_map] at h; omega
    obtain rfl : m1 = m3 := by have h := t2.one.1; rw [strsC_len] at h; omega
    obtain rfl : m2 = m4 := by have h := t2.two.1; simp only [intCells, List.length_map] at h; omega
    obtain rfl : m1 = m2 := by rw [hq1, hq2, cntW_len, cntN_len]
    have hlc := countC_len l
    have hm9 : m1 ≤ 14 := by rw [cntW_len] at hq1; have := HN.out; omega
    have HQ1 := Lib.hid hq1
    have HQ2 := Lib.hid hq2
    have C1 := cellsAt_own t12.one
    have C2 := cellsAt_own t12.two
    have D1 := cellsAt_own t2.one
    have D2 := cellsAt_own t2.two
    clear o12 t1 t2 t12 hq1 hq2 hlc
    go_wp2_with fail
    refine (sameTexts_same _ _ _ _ _ _ _ HQ1.out (by omega) C1 D1).mono ?_
    rintro e w4 ⟨rfl, q4, rfl⟩
    go_wp2_with fail
    refine (sameInts_n _ _ _ _ _ _ _ HQ2.out (by omega) (C2.drewN q4) (D2.drewN q4)).mono ?_
    rintro e w5 ⟨rfl, q5, rfl⟩
    obtain ⟨C, hC⟩ : ∃ C, countC l = C := ⟨_, rfl⟩
    have hA := countC_asc l
    have hP := countC_pos l
    have hS := countC_sum l
    rw [hC] at hA hP hS C1 C2 HQ1
    rw [cntW_len] at HQ1
    have HA := Lib.hid hA
    have HP := Lib.hid hP
    have HS := Lib.hid hS
    have HC := Lib.hid HQ1
    have HCL := Lib.hid (show m1 = C.length from HQ1.out)
    clear D1 D2 HQ1 HQ2 HC hC hA hP hS
    go_wp2
    go_loopw [8, 9] (fun s i wr => ∃ k z : Nat, k ≤ m1 ∧ i = .int .i64 k ∧ s = .int .i64 z ∧ z ≤ 14 ∧ Hid (z = sumC (C.take k)) ∧ ∃ q, wr = w3.drewN q) (fun _ i _ => m1 - (intOf i).toNat)
    case atStart => exact ⟨0, 0, Nat.zero_le _, rfl, rfl, by omega, Lib.hid rfl, _, rfl⟩
    case round =>
      obtain ⟨k, z, hk, rfl, rfl, hz, HZ, q, rfl⟩ := hrel
      by_cases hlt : k < m1
      · have hkC : k < C.length := by rw [← HCL.out]; exact hlt
        have hkW : k < (cntW C).length := by rw [cntW_len]; exact hkC
        obtain ⟨g1, o1, rfl, _, hc1⟩ := C1.str (fun e => by rw [e] at hkW; simp at hkW)
        obtain ⟨g2, o2, rfl, _, hc2⟩ := C2.spot (fun e => by have h := congrArg List.length e; rw [show (intCells (cntN C)).length = C.length by simp [intCells, cntN]] at h; simp only [List.length_nil] at h; omega)
        have f1 := hc1 k hkW
        have f2 := hc2 k (.int .i64 C[k].2) (by simp [intCells, cntN, List.getElem?_eq_getElem hkC])
        have hst := sumC_take C k hkC
        have hsl := sumC_take_le C (k + 1)
        have hpos := HP.out C[k] (List.getElem_mem hkC)
        have hx1 : (cntW C)[k] = C[k].1 := by simp [cntW]
        rw [hx1] at f1
        obtain ⟨y, hy⟩ : ∃ y, C[k].2 = y := ⟨_, rfl⟩
        obtain ⟨x, hx⟩ : ∃ x, C[k].1 = x := ⟨_, rfl⟩
        rw [hy] at f2 hst hpos
        rw [hx] at f1
        have hzy : z + y ≤ 14 := by have h1 := HZ.out; have h2 := HS.out; have h3 := HN.out; omega
        have HZ2 := Lib.hid (show z + y = sumC (C.take (k + 1)) by rw [hst, HZ.out])
        have ty : ¬ (y : Int) < 1 := by omega
        have ty2 : decide ((y : Int) < 1) = false := by simp; omega
        by_cases h0 : k = 0
        · subst h0
          rw [Nat.add_zero] at f1 f2
          clear hc1 hc2 hst hsl hy hx hx1 HP
          go_wp2
          go_quiet (fail)
          go_wp2
          go_roundw
          case rel => exact ⟨1, z + y, by omega, by go_num, by go_num, hzy, HZ2, _, rfl⟩
          case measure => simp [intOf]; omega
        · obtain ⟨j, rfl⟩ : ∃ j, k = j + 1 := ⟨k - 1, by omega⟩
          have hj1 : j < (cntW C).length := by omega
          have f3 := hc1 j hj1
          have hasc := asc_get HA.out j hkC
          rw [hx] at hasc
          have hx2 : (cntW C)[j] = C[j].1 := by simp [cntW]
          rw [hx2] at f3
          obtain ⟨u, hu⟩ : ∃ u, C[j].1 = u := ⟨_, rfl⟩
          rw [hu] at f3 hasc
          have hbl : Op.bytesLess u.toList x.toList = true := hasc
          have t0 : (0 : Int) < (j : Int) + 1 := by omega
          have t0' : decide ((0 : Int) < (j : Int) + 1) = true := by simp <;> omega
          have t1 : IntKind.i64.wrap ((j : Int) + 1 - 1) = j := by rw [IntWalk.i64_in _ (by omega)]; omega
          have t2 : (0 : Int) ≤ (j : Int) + 1 := by omega
          have t3 : (j : Int) + 1 < m1 := by omega
          have t4 : ((j : Int) + 1).toNat = j + 1 := by omega
          have t5 : j < m1 := by omega
          clear hc1 hc2 hst hsl hy hx hx1 hx2 hu hasc HP
          go_wp2
          go_quiet (fail)
          go_wp2
          go_roundw
          case rel => exact ⟨j + 1 + 1, z + y, by omega, by go_num, by go_num, hzy, HZ2, _, rfl⟩
          case measure => simp [intOf]; omega
      · obtain rfl : k = m1 := by omega
        have hE : C.take k = C := List.take_of_length_le (by rw [HCL.out]; exact Nat.le_refl _)
        have hz2 : z = n1 := by rw [HZ.out, hE, HS.out, HN.out]
        have tz : ((z : Int) == (n1 : Int)) = true := by rw [hz2]; simp
        have hb := below_drewN' B3 q
        clear hE hz2
        go_wp2_with fail
        refine (alive_any _).mono ?_
        rintro e w6 ⟨rfl, rfl⟩
        go_wp2
        go_ret
        exact ⟨rfl, hb⟩
  · have h2 : (1048576 : Int) < (len : Int) := by omega
    go_enter Try.func9, Try.ntmps9
    go_wp2
    go_ret
    exact ⟨rfl, Below.refl _ _⟩

end Go.Proofs.Ytdcdminjoehiiaa
