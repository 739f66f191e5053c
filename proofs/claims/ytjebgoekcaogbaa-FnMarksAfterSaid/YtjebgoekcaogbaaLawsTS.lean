/-
  The walks of chapter 4's laws SureLength, MarksAfter and AnyMarksAfter: each returns true, and nothing that was there is written. No conditions.
-/
import Derived.Test.YtjebgoekcaogbaaMarksI
import Derived.Test.YtjebgoekcaogbaaDrawE
import Derived.Test.YtjebgoekcaogbaaHelpA
namespace Go.Proofs.Ytjebgoekcaogbaa
open Go.RowKit

set_option maxHeartbeats 1000000 in
theorem walkFnSureLength (a : Option Addr) (len cap : Nat) (zs : List Int) (w : World) (h : IsRowK .u8 w a len cap zs) :
    Calls Try.prog 7 #[.slice a len cap] w fun e w' => e = .returned (.bool true) ∧ Below w.heap.size w w' := by
  have k1 := fun w => implSure_yes 1 1 w (by omega) (by omega) (by omega) (by omega)
  go_enter Try.func7, Try.ntmps7
  go_wp2_with fail
  refine (DrawSureLength_any _ _ _ _ _ h).mono ?_
  rintro e w1 ⟨k, v, hk0, hk9, hv0, hv9, rfl, hb⟩
  clear h
  by_cases hbad : k < 1 ∨ v < 1
  · have c1 := fun w => implSure_no k v w (by omega)
    have c2 := fun w => specSure_no k v w (by omega)
    go_wp2_with fail
    refine (c1 _).mono ?_
    rintro e w2 ⟨rfl, rfl⟩
    go_wp2_with fail
    refine (c2 _).mono ?_
    rintro e w2 ⟨rfl, rfl⟩
    go_wp2_with fail
    refine (k1 _).mono ?_
    rintro e w2 ⟨rfl, rfl⟩
    go_wp2_with fail
    refine (alive_any _).mono ?_
    rintro e w2 ⟨rfl, rfl⟩
    go_wp2
    go_ret
    exact ⟨rfl, hb⟩
  · have c1 := fun w => implSure_yes k v w (by omega) (by omega) (by omega) (by omega)
    have c2 := fun w => specSure_yes k v w (by omega) (by omega) (by omega) (by omega)
    have c3 := fun w => implSure_yes (k + 1) v w (by omega) (by omega) (by omega) (by omega)
    have c4 := fun w => implSure_yes k (v + 1) w (by omega) (by omega) (by omega) (by omega)
    rw [show k + 1 + v - 1 = k + v - 1 + 1 by omega] at c3
    rw [show k + (v + 1) - 1 = k + v - 1 + 1 by omega] at c4
    have t0 : (k + v - 1 == 0) = false := by simp; omega
    have t1 : (k == 1000000) = false := by simp; omega
    have t2 : (v == 1000000) = false := by simp; omega
    have t3 : (k + v - 1 + 1 == k + v - 1 + 1) = true := beq_self_eq_true _
    go_wp2_with fail
    refine (c1 _).mono ?_
    rintro e w2 ⟨rfl, rfl⟩
    go_wp2_with fail
    refine (c2 _).mono ?_
    rintro e w2 ⟨rfl, rfl⟩
    go_wp2_with fail
    refine (c3 _).mono ?_
    rintro e w2 ⟨rfl, rfl⟩
    go_wp2_with fail
    refine (c4 _).mono ?_
    rintro e w2 ⟨rfl, rfl⟩
    go_wp2_with fail
    refine (k1 _).mono ?_
    rintro e w2 ⟨rfl, rfl⟩
    go_wp2_with fail
    refine (alive_any _).mono ?_
    rintro e w2 ⟨rfl, rfl⟩
    go_wp2
    go_ret
    exact ⟨rfl, hb⟩

theorem ret_afters : True := trivial
theorem marksL_roomT (s : List UInt8) (k w : Int) : (marksL s k w).length ≤ s.length := by
  rw [marksL, List.length_map]
  have h1 := chosenN_len (printsL s k) w
  have h2 := printsN_room s k
  unfold marksAt
  omega
theorem own_cap {w : World} {B : Nat} {e : TypeId} {s : Nat} {a : Option Addr} {n c : Nat} {xs : List Value} (h : w.ownsRow B e s (.slice a n c) n xs) : n ≤ c := by
  rcases h.2 with ⟨hv, h0⟩ | ⟨g, cap, cur, hv, _, _, hnc, _⟩
  · omega
  · obtain ⟨_, rfl⟩ := (by simpa using hv : a = some ⟨g, 0, none⟩ ∧ c = cap)
    exact hnc

set_option maxHeartbeats 4000000 in
theorem walkFnMarksAfter (a : Option Addr) (len cap : Nat) (zs : List Int) (w : World) (h : IsRowK .u8 w a len cap zs) :
    Calls Try.prog 9 #[.slice a len cap] w fun e w' => e = .returned (.bool true) ∧ Below w.heap.size w w' := by
  by_cases hs : 1048576 < len
  · have h2 : (1048576 : Int) < (len : Int) := by omega
    go_enter Try.func9, Try.ntmps9
    go_wp2
    go_ret
    exact ⟨rfl, Below.refl _ _⟩
  go_enter Try.func9, Try.ntmps9
  go_wp2_with fail
  refine (DrawMarksAfter_any _ _ _ _ _ h).mono ?_
  rintro e w1 ⟨s, u, K, V, hs9, hu9, hk0, hk9, hv0, hv9, rfl, hb⟩
  clear h
  by_cases hbad : K < 1 ∨ V < 1 ∨ 1000000 < K ∨ 1000000 < V
  · have c1 := fun w => implAfter_no s u K V w hbad
    have c2 := fun w => implSure_no K V w hbad
    clear hbad
    go_wp2_with fail
    refine (c1 _).mono ?_
    rintro e w2 ⟨a1, n1, c1', rfl, o1⟩
    have hn0 : n1 = 0 := by have h := pairs_len o1.own; simpa using h
    subst hn0
    have hb2 := hb.trans (o1.below.mono hb.size)
    clear o1 hb
    go_wp2_with fail
    refine (c2 _).mono ?_
    rintro e w3 ⟨rfl, rfl⟩
    go_wp2_with fail
    refine (alive_any _).mono ?_
    rintro e w3 ⟨rfl, rfl⟩
    go_wp2
    go_ret
    exact ⟨rfl, hb2⟩
  obtain ⟨k, rfl⟩ : ∃ n : Nat, K = n := ⟨K.toNat, by omega⟩
  obtain ⟨v, rfl⟩ : ∃ n : Nat, V = n := ⟨V.toNat, by omega⟩
  obtain ⟨M, hM⟩ : ∃ M, marksL (s.data.toList ++ u.data.toList) k v = M := ⟨_, rfl⟩
  obtain ⟨O, hO⟩ : ∃ O, marksL s.data.toList k v = O := ⟨_, rfl⟩
  have hpre := (marksL_after s.data.toList u.data.toList k v _ (by omega) (by omega) rfl).2
  rw [hM, hO] at hpre
  have HP := Lib.hid hpre
  have hlen : M.length ≤ 2000 := by
    have h := marksL_roomT (s.data.toList ++ u.data.toList) k v
    rw [hM, List.length_append] at h
    have e1 : s.data.toList.length = s.size := rfl
    have e2 : u.data.toList.length = u.size := rfl
    omega
  have HML := Lib.hid hlen
  have c1 := fun w => implAfter_any s u k v M w hM (by omega) (by omega) (by omega) (by omega) (by omega) (by omega)
  have c2 := fun w => implSure_yes k v w (by omega) (by omega) (by omega) (by omega)
  have c3 := fun w => specAfter_any s u k v M w hM (by omega) (by omega) (by omega) (by omega) (by omega) (by omega)
  have c4 := fun w => implMarks_any (s ++ u) k v M w (by rw [show (s ++ u).data.toList = s.data.toList ++ u.data.toList by simp]; exact hM) (by rw [ByteArray.size_append]; omega) (by omega)
  have c5 := fun w => implMarks_any s k v O w hO (by omega) (by omega)
  have t0 : ((k : Int) + (v : Int) - 1 == 0) = false := by simp; omega
  clear hM hO hpre hlen hbad
  go_wp2_with fail
  refine (c1 _).mono ?_
  rintro e w2 ⟨a1, n1, d1, rfl, o1⟩
  have HN1 := Lib.hid (pairs_len o1.own)
  have hb2 := hb.trans (o1.below.mono hb.size)
  have hn9 : n1 ≤ 2000 := by have := HN1.out; have := HML.out; omega
  clear hb
  go_wp2_with fail
  refine (c2 _).mono ?_
  rintro e w3 ⟨rfl, rfl⟩
  go_wp2_with fail
  refine (c3 _).mono ?_
  rintro e w3 ⟨a2, n2, d2, rfl, o2⟩
  have HN2 := Lib.hid (pairs_len o2.own)
  have o12 := o1.later o2.below
  have hb3 := hb2.trans (o2.below.mono hb2.size)
  clear o1 hb2
  go_wp2_with fail
  refine (sameMarks_b _ _ _ _ _ _ M _ HN1.out HN2.out (by omega) (cellsAt_own o12.own) (cellsAt_own o2.own)).mono ?_
  rintro e w4 ⟨rfl, q, rfl⟩
  have o13 := o12.drewN q
  have hb4 := below_drewN' hb3 q
  obtain ⟨w4, HW⟩ : ∃ w4, Hid (w3.drewN q = w4) := ⟨_, Lib.hid rfl⟩
  rw [HW.out] at o13 hb4 ⊢
  clear o12 o2 hb3 HW
  go_wp2_with fail
  refine (c4 _).mono ?_
  rintro e w5 ⟨a3, n3, d3, rfl, o3⟩
  have HN3 := Lib.hid (pairs_len o3.own)
  have o14 := o13.later o3.below
  have hb5 := hb4.trans (o3.below.mono hb4.size)
  clear o13 hb4
  go_wp2_with fail
  refine (sameMarks_b _ _ _ _ _ _ M _ HN1.out HN3.out (by omega) (cellsAt_own o14.own) (cellsAt_own o3.own)).mono ?_
  rintro e w6 ⟨rfl, q2, rfl⟩
  have o15 := o14.drewN q2
  have hb6 := below_drewN' hb5 q2
  obtain ⟨w6, HW⟩ : ∃ w6, Hid (w5.drewN q2 = w6) := ⟨_, Lib.hid rfl⟩
  rw [HW.out] at o15 hb6 ⊢
  clear o14 o3 hb5 HW
  go_wp2_with fail
  refine (c5 _).mono ?_
  rintro e w7 ⟨a4, n4, d4, rfl, o4⟩
  have HN4 := Lib.hid (pairs_len o4.own)
  have hb7 := hb6.trans (o4.below.mono hb6.size)
  have hle : n4 ≤ n1 := by
    obtain ⟨r, hr⟩ := HP.out
    have h1 := HN1.out
    have h4 := HN4.out
    rw [hr, List.length_append] at h1
    omega
  have o16 := o15.later o4.below
  have hcut : CellsAt w7 a1 (pairsC O) := by
    obtain ⟨r, hr⟩ := HP.out
    have h := (cellsAt_own o16.own).upTo (O.length * 2)
    rw [hr, pairsC_append, List.take_append_of_le_length (by rw [pairsC_len]; exact Nat.le_refl _), List.take_of_length_le (by rw [pairsC_len]; exact Nat.le_refl _)] at h
    exact h
  have hcap : n1 ≤ d1 := own_cap o16.own
  have hcap2 : n4 ≤ d1 := Nat.le_trans hle hcap
  have A4 := Lib.hid (cellsAt_own o4.own)
  have AC := Lib.hid hcut
  have hleI : (n4 : Int) ≤ (n1 : Int) := by omega
  have hz0 : (0 : Int) ≤ (n4 : Int) := by omega
  have hz1 : (n4 : Int) ≤ (d1 : Int) := by omega
  have H7 := Lib.hid hb7
  clear o15 o16 o4 hb6 hb7 hcut hcap
  go_wp2_with fail
  refine (sameMarks_b _ _ _ _ _ _ O _ HN4.out HN4.out (by omega) A4.out AC.out).mono ?_
  rintro e w8 ⟨rfl, q3, rfl⟩
  go_wp2_with fail
  refine (alive_any _).mono ?_
  rintro e w9 ⟨rfl, rfl⟩
  go_wp2
  go_ret
  exact ⟨rfl, below_drewN' H7.out q3⟩

set_option maxHeartbeats 4000000 in
theorem walkFnAnyMarksAfter (a0 a1 : ByteArray) (a2 a3 : Int) (_w0 : a0.size ≤ maxLen) (_w1 : a1.size ≤ maxLen) (_w2 : (Lit.int .i64 a2).wf = true) (_w3 : (Lit.int .i64 a3).wf = true) (w : World) :
    Calls Try.prog 12 #[.string a0, .string a1, .int .i64 a2, .int .i64 a3] w fun e w' => e = .returned (.bool true) ∧ Below w.heap.size w w' := by
  by_cases hs : 1000 < a0.size
  · have hb0 : decide ((1000 : Int) < a0.size) = true := by simp; omega
    go_enter Try.func12, Try.ntmps12
    go_wp2_with fail
    refine (bigText_is true _ _ _ hb0).mono ?_
    rintro e w1 ⟨rfl, rfl⟩
    go_wp2_with fail
    refine (alive_any _).mono ?_
    rintro e w1 ⟨rfl, rfl⟩
    go_wp2
    go_ret
    exact ⟨rfl, Below.refl _ _⟩
  have hb0 : decide ((1000 : Int) < a0.size) = false := by simp; omega
  by_cases hs2 : 1000 < a1.size
  · have hb1 : decide ((1000 : Int) < a1.size) = true := by simp; omega
    go_enter Try.func12, Try.ntmps12
    go_wp2_with fail
    refine (bigText_is false _ _ _ hb0).mono ?_
    rintro e w1 ⟨rfl, rfl⟩
    go_wp2_with fail
    refine (bigText_is true _ _ _ hb1).mono ?_
    rintro e w1 ⟨rfl, rfl⟩
    go_wp2_with fail
    refine (alive_any _).mono ?_
    rintro e w1 ⟨rfl, rfl⟩
    go_wp2
    go_ret
    exact ⟨rfl, Below.refl _ _⟩
  have hb1 : decide ((1000 : Int) < a1.size) = false := by simp; omega
  go_enter Try.func12, Try.ntmps12
  go_wp2_with fail
  refine (bigText_is false _ _ _ hb0).mono ?_
  rintro e w1 ⟨rfl, rfl⟩
  go_wp2_with fail
  refine (bigText_is false _ _ _ hb1).mono ?_
  rintro e w1 ⟨rfl, rfl⟩
  clear hb0 hb1
  have hb := Below.refl w.heap.size w
  by_cases hbad : a2 < 1 ∨ a3 < 1 ∨ 1000000 < a2 ∨ 1000000 < a3
  · have c1 := fun w => implAfter_no a0 a1 a2 a3 w hbad
    have c2 := fun w => implSure_no a2 a3 w hbad
    clear hbad
    go_wp2_with fail
    refine (c1 _).mono ?_
    rintro e w2 ⟨a1, n1, c1', rfl, o1⟩
    have hn0 : n1 = 0 := by have h := pairs_len o1.own; simpa using h
    subst hn0
    have hb2 := hb.trans (o1.below.mono hb.size)
    clear o1 hb
    go_wp2_with fail
    refine (c2 _).mono ?_
    rintro e w3 ⟨rfl, rfl⟩
    go_wp2_with fail
    refine (alive_any _).mono ?_
    rintro e w3 ⟨rfl, rfl⟩
    go_wp2
    go_ret
    exact ⟨rfl, hb2⟩
  obtain ⟨k, rfl⟩ : ∃ n : Nat, a2 = n := ⟨a2.toNat, by omega⟩
  obtain ⟨v, rfl⟩ : ∃ n : Nat, a3 = n := ⟨a3.toNat, by omega⟩
  obtain ⟨M, hM⟩ : ∃ M, marksL (a0.data.toList ++ a1.data.toList) k v = M := ⟨_, rfl⟩
  obtain ⟨O, hO⟩ : ∃ O, marksL a0.data.toList k v = O := ⟨_, rfl⟩
  have hpre := (marksL_after a0.data.toList a1.data.toList k v _ (by omega) (by omega) rfl).2
  rw [hM, hO] at hpre
  have HP := Lib.hid hpre
  have hlen : M.length ≤ 2000 := by
    have h := marksL_roomT (a0.data.toList ++ a1.data.toList) k v
    rw [hM, List.length_append] at h
    have e1 : a0.data.toList.length = a0.size := rfl
    have e2 : a1.data.toList.length = a1.size := rfl
    omega
  have HML := Lib.hid hlen
  have c1 := fun w => implAfter_any a0 a1 k v M w hM (by omega) (by omega) (by omega) (by omega) (by omega) (by omega)
  have c2 := fun w => implSure_yes k v w (by omega) (by omega) (by omega) (by omega)
  have c3 := fun w => specAfter_any a0 a1 k v M w hM (by omega) (by omega) (by omega) (by omega) (by omega) (by omega)
  have c4 := fun w => implMarks_any (a0 ++ a1) k v M w (by rw [show (a0 ++ a1).data.toList = a0.data.toList ++ a1.data.toList by simp]; exact hM) (by rw [ByteArray.size_append]; omega) (by omega)
  have c5 := fun w => implMarks_any a0 k v O w hO (by omega) (by omega)
  have t0 : ((k : Int) + (v : Int) - 1 == 0) = false := by simp; omega
  clear hM hO hpre hlen hbad
  go_wp2_with fail
  refine (c1 _).mono ?_
  rintro e w2 ⟨a1, n1, d1, rfl, o1⟩
  have HN1 := Lib.hid (pairs_len o1.own)
  have hb2 := hb.trans (o1.below.mono hb.size)
  have hn9 : n1 ≤ 2000 := by have := HN1.out; have := HML.out; omega
  clear hb
  go_wp2_with fail
  refine (c2 _).mono ?_
  rintro e w3 ⟨rfl, rfl⟩
  go_wp2_with fail
  refine (c3 _).mono ?_
  rintro e w3 ⟨a2, n2, d2, rfl, o2⟩
  have HN2 := Lib.hid (pairs_len o2.own)
  have o12 := o1.later o2.below
  have hb3 := hb2.trans (o2.below.mono hb2.size)
  clear o1 hb2
  go_wp2_with fail
  refine (sameMarks_b _ _ _ _ _ _ M _ HN1.out HN2.out (by omega) (cellsAt_own o12.own) (cellsAt_own o2.own)).mono ?_
  rintro e w4 ⟨rfl, q, rfl⟩
  have o13 := o12.drewN q
  have hb4 := below_drewN' hb3 q
  obtain ⟨w4, HW⟩ : ∃ w4, Hid (w3.drewN q = w4) := ⟨_, Lib.hid rfl⟩
  rw [HW.out] at o13 hb4 ⊢
  clear o12 o2 hb3 HW
  go_wp2_with fail
  refine (c4 _).mono ?_
  rintro e w5 ⟨a3, n3, d3, rfl, o3⟩
  have HN3 := Lib.hid (pairs_len o3.own)
  have o14 := o13.later o3.below
  have hb5 := hb4.trans (o3.below.mono hb4.size)
  clear o13 hb4
  go_wp2_with fail
  refine (sameMarks_b _ _ _ _ _ _ M _ HN1.out HN3.out (by omega) (cellsAt_own o14.own) (cellsAt_own o3.own)).mono ?_
  rintro e w6 ⟨rfl, q2, rfl⟩
  have o15 := o14.drewN q2
  have hb6 := below_drewN' hb5 q2
  obtain ⟨w6, HW⟩ : ∃ w6, Hid (w5.drewN q2 = w6) := ⟨_, Lib.hid rfl⟩
  rw [HW.out] at o15 hb6 ⊢
  clear o14 o3 hb5 HW
  go_wp2_with fail
  refine (c5 _).mono ?_
  rintro e w7 ⟨a4, n4, d4, rfl, o4⟩
  have HN4 := Lib.hid (pairs_len o4.own)
  have hb7 := hb6.trans (o4.below.mono hb6.size)
  have hle : n4 ≤ n1 := by
    obtain ⟨r, hr⟩ := HP.out
    have h1 := HN1.out
    have h4 := HN4.out
    rw [hr, List.length_append] at h1
    omega
  have o16 := o15.later o4.below
  have hcut : CellsAt w7 a1 (pairsC O) := by
    obtain ⟨r, hr⟩ := HP.out
    have h := (cellsAt_own o16.own).upTo (O.length * 2)
    rw [hr, pairsC_append, List.take_append_of_le_length (by rw [pairsC_len]; exact Nat.le_refl _), List.take_of_length_le (by rw [pairsC_len]; exact Nat.le_refl _)] at h
    exact h
  have hcap : n1 ≤ d1 := own_cap o16.own
  have hcap2 : n4 ≤ d1 := Nat.le_trans hle hcap
  have A4 := Lib.hid (cellsAt_own o4.own)
  have AC := Lib.hid hcut
  have hleI : (n4 : Int) ≤ (n1 : Int) := by omega
  have hz0 : (0 : Int) ≤ (n4 : Int) := by omega
  have hz1 : (n4 : Int) ≤ (d1 : Int) := by omega
  have H7 := Lib.hid hb7
  clear o15 o16 o4 hb6 hb7 hcut hcap
  go_wp2_with fail
  refine (sameMarks_b _ _ _ _ _ _ O _ HN4.out HN4.out (by omega) A4.out AC.out).mono ?_
  rintro e w8 ⟨rfl, q3, rfl⟩
  go_wp2_with fail
  refine (alive_any _).mono ?_
  rintro e w9 ⟨rfl, rfl⟩
  go_wp2
  go_ret
  exact ⟨rfl, below_drewN' H7.out q3⟩

end Go.Proofs.Ytjebgoekcaogbaa
