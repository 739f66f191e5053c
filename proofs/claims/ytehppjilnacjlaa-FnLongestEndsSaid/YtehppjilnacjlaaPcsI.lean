/-
  The contracts of the program's functions HasPiece and CountPieces. Condition: texts have at most 2^20 bytes.
-/
import Derived.Test.YtehppjilnacjlaaFollI
import Derived.Test.YtehppjilnacjlaaPcsM
namespace Go.Proofs.Ytehppjilnacjlaa
open Go.RowKit

theorem implHas_any (s t : ByteArray) (r : Bool) (w : World) (hr : r = true ↔ pcIn s.data.toList t.data.toList) (hs : s.size ≤ 1048576) (ht : t.size ≤ 1048576) :
    Calls Try.prog 23 #[.string s, .string t] w fun e w' => e = .returned (.bool r) ∧ Below w.heap.size w w' := by
  have hsz : s.data.toList.length = s.size := rfl
  have HM := Lib.hid (mach_most s.data.toList (by omega))
  have HFEW := Lib.hid (mach_few s.data.toList)
  have c1 := implMach_any s w hs
  have HR := Lib.hid (show decide (folL (datL (machL s.data.toList)) t.data.toList ≥ 0) = r by
    cases r with
    | true => exact decide_eq_true ((mach_has _ _).2 (hr.1 rfl))
    | false => exact decide_eq_false (fun e => absurd (hr.2 ((mach_has _ _).1 e)) (by decide)))
  have HT := Lib.hid (fun (L : List Dt) (a : Option Addr) (n c : Nat) (A : Nat → Sm) (w : World) hn hn9 few h => implFol_any L t a n c A w hn hn9 few ht h)
  clear hr
  go_enter Try.func23, Try.ntmps23
  go_wp2_with fail
  refine c1.mono ?_
  rintro e w2 ⟨g, c, A, rfl, hS⟩
  have c2 := HT.out (datL (machL s.data.toList)) (some ⟨g, 0, none⟩) (machL s.data.toList).length c A w2 (datL_len _).symm (by have := HM.out; omega) HFEW.out hS.at_
  have HB := Lib.hid hS.outer.below
  have HZ := Lib.hid hS.outer.base
  clear c1 hS
  go_wp2_with fail
  refine c2.mono ?_
  rintro e w3 ⟨rfl, q3, rfl⟩
  have b3 := below_drewN' (Below.refl w2.heap.size w2) q3
  have HRR := HR.out
  clear c2
  go_wp2
  go_ret
  exact ⟨by first | rfl | rw [HRR], HB.out.trans (b3.mono HB.out.size)⟩

set_option maxHeartbeats 8000000 in
theorem implCnt_any (s : ByteArray) (w : World) (hs : s.size ≤ 1048576) :
    Calls Try.prog 27 #[.string s] w fun e w' => e = .returned (.int .i64 (cntL (machL s.data.toList))) ∧ Below w.heap.size w w' := by
  have hsz : s.data.toList.length = s.size := rfl
  have c1 := implMach_any s w hs
  obtain ⟨u, hu⟩ : ∃ u, s.data.toList = u := ⟨_, rfl⟩
  rw [hu] at hsz c1 ⊢
  obtain ⟨L, hL⟩ : ∃ L, machL u = L := ⟨_, rfl⟩
  have hm := mach_most u (by omega)
  have hi := machL_inv u
  rw [hL] at hm hi c1 ⊢
  have HI := Lib.hid hi
  have HUS := Lib.hid (show u.length ≤ 1048576 by omega)
  have h0 : 0 < L.length := hi.inv.pos
  clear hu hsz hL hi
  go_enter Try.func27, Try.ntmps27
  go_wp2_with fail
  refine c1.mono ?_
  rintro e w2 ⟨g, c, A, rfl, hS⟩
  have HS := Lib.hid hS
  clear c1 hS
  go_wp2
  go_loopw [4, 5] (fun n_ k_ wr => ∃ k : Nat, k + 1 ≤ L.length ∧ n_ = .int .i64 (sumI k fun i => gapI L (i + 1)) ∧ k_ = .int .i64 ((k : Int) + 1) ∧ Hid (StRows w w.heap.size wr (some ⟨g, 0, none⟩) L.length c (dOf L) A (tE L))) (fun _ k_ _ => L.length - (intOf k_).toNat)
  case atStart => exact ⟨0, by omega, rfl, rfl, HS⟩
  case round =>
    clear HS
    obtain ⟨k, hk, rfl, rfl, HS⟩ := hrel
    have hsb := sum_bounds HI.out HUS.out hk
    by_cases hlt : k + 1 < L.length
    · obtain ⟨j, hj, e1, e2⟩ := mach_link HI.out hlt (by omega)
      have x1 := (HS.out.cells hlt).1
      have x2 := (HS.out.cells hlt).2.1
      have x3 := (HS.out.cells hj).1
      rw [dOf] at x1 x2 x3
      rw [e1] at x2
      have hwl := word_most HI.out hlt
      have hus := HUS.out
      obtain ⟨m, hm⟩ : ∃ m, (tW L (k + 1)).length = m := ⟨_, rfl⟩
      obtain ⟨m2, hm2⟩ : ∃ m, (tW L j).length = m := ⟨_, rfl⟩
      obtain ⟨S, hSS⟩ : ∃ S, sumI k (fun i => gapI L (i + 1)) = S := ⟨_, rfl⟩
      have HNX := Lib.hid (show sumI (k + 1) (fun i => gapI L (i + 1)) = S + ((m : Int) - (m2 : Int)) by rw [sumI_succ, hSS, gapI, e1, Int.toNat_natCast, hm, hm2])
      rw [hm] at x1 hwl e2
      rw [hm2] at x3 e2
      rw [hSS] at hsb ⊢
      have v1 : IntKind.i64.wrap ((m : Int) - (m2 : Int)) = (m : Int) - (m2 : Int) := IntWalk.i64_in _ (by omega)
      have v2 : IntKind.i64.wrap (S + ((m : Int) - (m2 : Int))) = S + ((m : Int) - (m2 : Int)) := IntWalk.i64_in _ (by omega)
      have v3 : IntKind.i64.wrap ((k : Int) + 1 + 1) = (k : Int) + 1 + 1 := IntWalk.i64_in _ (by omega)
      have z1 : (k : Int) + 1 < (L.length : Int) := by omega
      have z2 : (0 : Int) ≤ (k : Int) + 1 := by omega
      have z3 : (j : Int) < (L.length : Int) := by omega
      have z4 : (0 : Int) ≤ (j : Int) := by omega
      clear hm hm2 hSS e1
      go_wp2
      go_quiet (fail)
      have HS2 := Lib.hid (HS.out.later (below_drewN' (Below.refl _ _) nq))
      go_wp2
      go_roundw
      case rel => exact ⟨k + 1, by omega, by rw [HNX.out], by go_num, HS2⟩
      case measure => simp [intOf]; omega
    · have HE := Lib.hid (show cntL L = sumI k fun i => gapI L (i + 1) by rw [cntL, show L.length - 1 = k by omega])
      have z1 : ¬ ((k : Int) + 1 < (L.length : Int)) := by omega
      go_wp2
      go_ret
      exact ⟨by rw [HE.out]; rfl, HS.out.outer.below⟩

end Go.Proofs.Ytehppjilnacjlaa
