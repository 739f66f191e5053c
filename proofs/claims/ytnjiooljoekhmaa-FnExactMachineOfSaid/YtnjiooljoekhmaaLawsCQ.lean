/-
  The walk of chapter 9's exact law MachineOf: it returns true, and nothing that was there is written. No conditions.
-/
import Derived.Test.YtnjiooljoekhmaaMachI
import Derived.Test.YtnjiooljoekhmaaHelpSt5
namespace Go.Proofs.Ytnjiooljoekhmaa
open Go.RowKit

theorem sumE_le {F : Nat → List (Int × Int)} {n : Nat} (h : ∀ i, i < n → (F i).length ≤ 256) : sumE F n ≤ n * 256 := by
  induction n with
  | zero => exact Nat.le_refl _
  | succ n ih =>
    have h1 := ih (fun i hi => h i (by omega))
    have h2 := h n (by omega)
    rw [sumE_next]; omega

set_option maxHeartbeats 8000000 in
theorem walkFnExactMachineOf (a0 : ByteArray) (w : World) (_wi0 : a0.size ≤ maxLen) :
    Calls Try.prog 3 #[.string a0] w fun e w' => e = .returned (.bool true) ∧ Below w.heap.size w w' := by
  by_cases hs0 : 1048576 < a0.size
  · have hb0 : (1048576 : Int) < (a0.size : Int) := by omega
    go_enter Try.func3, Try.ntmps3
    go_wp2
    go_ret
    exact ⟨rfl, Below.refl _ _⟩
  have hsz : a0.data.toList.length = a0.size := rfl
  have c1 := fun w => specMach_any a0 w (by omega)
  have c2 := fun w => implMach_any a0 w (by omega)
  obtain ⟨u, hu⟩ : ∃ u, a0.data.toList = u := ⟨_, rfl⟩
  rw [hu] at hsz c1 c2
  have hi := machL_inv u
  have hl := machK_len u u.length (Nat.le_refl _)
  have hl9 : (machL u).length ≤ 2097153 := by
    unfold machL
    by_cases h2 : u.length ≤ 2
    · have := hl.1 h2; omega
    · have := hl.2 (by omega); omega
  obtain ⟨L, hL⟩ : ∃ L, machL u = L := ⟨_, rfl⟩
  rw [hL] at c1 c2 hi hl9
  have hfe : ∀ i, i < L.length → (tE L i).length ≤ 256 := fun i h => edges_few hi h
  have hsm := sumE_le hfe
  have HFD := Lib.hid (show ∀ i, i < (datL L).length → (dtA (datL L) i).2.2.length ≤ 1048576 from mach_few9 hi)
  have HFE := Lib.hid (show ∀ i, i < L.length → (tE L i).length ≤ 1048576 from fun i h => Nat.le_trans (hfe i h) (by decide))
  have HZ := Lib.hid (show stM 1 (tE L) L.length < 274877906944 by unfold stM; omega)
  obtain ⟨z, hz⟩ : ∃ z, stM 1 (tE L) L.length = z := ⟨_, rfl⟩
  have hz9 : z < 274877906944 := by have := HZ.out; omega
  have HZZ := Lib.hid hz
  have t1 : ((z : Int) == (z : Int)) = true := beq_self_eq_true _
  have t1' : ((z : Int) != (z : Int)) = false := by rw [bne, t1]; rfl
  have t2 : ¬ ((z : Int) < 0) := by omega
  clear hu hsz hi hl hL hfe hsm hz
  go_enter Try.func3, Try.ntmps3
  go_wp2_with fail
  refine (c1 _).mono ?_
  rintro e w1 ⟨g, c, A, rfl, hS0⟩
  have S0 := Lib.hid hS0
  have B1 := Lib.hid hS0.outer.below
  clear c1 hS0
  go_wp2_with fail
  refine (c2 _).mono ?_
  rintro e w2 ⟨g1, c1, A1, rfl, hS1⟩
  have c3 := eqStateS_same (some ⟨g1, 0, none⟩) (some ⟨g, 0, none⟩) L.length c1 c (datL L) A1 A w2 (datL_len _).symm (by omega) HFD.out hS1.at_ (S0.out.later hS1.outer.below).at_
  have S1 := Lib.hid hS1
  clear hS1
  go_wp2_with fail
  refine c3.mono ?_
  rintro e w3 ⟨rfl, b3⟩
  have S3 := Lib.hid (S1.out.later b3)
  have c4 := markStateS_any w1 w1.heap.size g1 L.length c1 1 (dOf L) A1 (tE L) w3 S3.out (by omega) HFE.out HZ.out
  rw [HZZ.out] at c4
  clear c3 b3 S1
  go_wp2_with fail
  refine c4.mono ?_
  rintro e w4 ⟨rfl, hS4⟩
  have S4 := Lib.hid hS4
  have c5 := heldStateS_any w1 w1.heap.size g1 L.length c1 1 A1 (tE L) w4 hS4 (by omega) HFE.out HZ.out
  rw [HZZ.out] at c5
  clear c4 hS4 S3
  go_wp2_with fail
  refine c5.mono ?_
  rintro e w5 ⟨rfl, b5⟩
  have S5 := Lib.hid (S4.out.later b5)
  clear c5 b5 S4
  go_wp2_with fail
  refine (c2 _).mono ?_
  rintro e w6 ⟨g6, c6, A6, rfl, hS6⟩
  have S6 := Lib.hid (S5.out.later hS6.outer.below)
  have T6 := Lib.hid (S0.out.later S6.out.outer.below)
  have c7 := eqStateS_same (some ⟨g6, 0, none⟩) (some ⟨g, 0, none⟩) L.length c6 c (datL L) A6 A w6 (datL_len _).symm (by omega) HFD.out hS6.at_ T6.out.at_
  clear c2 hS6 S5 T6
  go_wp2_with fail
  refine c7.mono ?_
  rintro e w7 ⟨rfl, b7⟩
  have S7 := Lib.hid (S6.out.later b7)
  have c8 := heldStateS_any w1 w1.heap.size g1 L.length c1 1 A1 (tE L) w7 S7.out (by omega) HFE.out HZ.out
  rw [HZZ.out] at c8
  clear c7 b7 S6
  go_wp2_with fail
  refine c8.mono ?_
  rintro e w8 ⟨rfl, b8⟩
  have S8 := Lib.hid (S7.out.later b8)
  clear c8 b8 S7
  go_wp2
  go_ret
  exact ⟨rfl, B1.out.trans (S8.out.outer.below.mono B1.out.size)⟩

end Go.Proofs.Ytnjiooljoekhmaa
