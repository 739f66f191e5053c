/-
  The walk of the law CountPieces: it answers true, and nothing that was there is written. No conditions. (Written by wip/tools/ch9_laws.py.)
-/
import Derived.Test.YtehppjilnacjlaaLawsWA
namespace Go.Proofs.Ytehppjilnacjlaa
open Go.RowKit

theorem sumI_add (n : Nat) (f g : Nat → Int) : sumI n (fun i => f i + g i) = sumI n f + sumI n g := by
  induction n with
  | zero => rfl
  | succ n ih => rw [sumI_succ, sumI_succ, sumI_succ, ih]; omega
theorem sumI_zero (f : Nat → Int) : sumI 0 f = 0 := rfl
/-- All pieces, by where they end, and by where they begin. -/
theorem sum_turn (f : Nat → Nat → Int) (n : Nat) : (sumI n fun e => sumI (e + 1) fun i => f i e) = sumI n fun i => sumI (n - i) fun j => f i (i + j) := by
  induction n with
  | zero => rfl
  | succ n ih =>
    have h1 : (sumI (n + 1) fun i => sumI (n + 1 - i) fun j => f i (i + j)) = sumI (n + 1) fun i => (sumI (n - i) fun j => f i (i + j)) + f i n := sumI_same (fun i hi => by
      rw [show n + 1 - i = (n - i) + 1 by omega, sumI_succ, show i + (n - i) = n by omega])
    rw [h1, sumI_add, sumI_succ, ih, sumI_succ n (fun i => sumI (n - i) fun j => f i (i + j)), Nat.sub_self, sumI_zero]
    omega
theorem newP_bounds (s : Wd) (i k : Nat) : 0 ≤ newP s i k ∧ newP s i k ≤ 1 := by
  unfold newP
  split <;> omega
theorem ext_take (s : ByteArray) (e : Nat) : (s.extract 0 e).data.toList = s.data.toList.take e := by
  have h := ext_list s 0 e
  rwa [Nat.zero_add, List.drop_zero] at h
theorem ext_drop (s : ByteArray) (i e : Nat) (h : i ≤ e) : (s.extract i e).data.toList = (s.data.toList.take e).drop i := by
  have h1 := ext_list s i (e - i)
  rw [show i + (e - i) = e by omega] at h1
  rw [h1, List.drop_take]

set_option maxRecDepth 4000 in
set_option maxHeartbeats 8000000 in
theorem walkFnCountPieces (a : Option Addr) (len cap : Nat) (zs : List Int) (w : World) (h : IsRowK .u8 w a len cap zs) :
    Calls Try.prog 7 #[.slice a len cap] w fun e w' => e = .returned (.bool true) ∧ Below w.heap.size w w' := by
  by_cases hs : 1048576 < len
  · have h2 : (1048576 : Int) < (len : Int) := by omega
    go_enter Try.func7, Try.ntmps7
    go_wp2
    go_ret
    exact ⟨rfl, Below.refl _ _⟩
  go_enter Try.func7, Try.ntmps7
  go_wp2_with fail
  refine (DrawCountPieces_any _ _ _ _ _ h).mono ?_
  rintro e w0 ⟨s, hsz, rfl, BB⟩
  clear h hs
  obtain ⟨n, hn⟩ : ∃ n, s.size = n := ⟨_, rfl⟩
  have hul : s.data.toList.length = s.size := rfl
  obtain ⟨R, hR⟩ : ∃ R, cntL (machL s.data.toList) = R := ⟨_, rfl⟩
  have hRS : (sumI n fun i => sumI (n - i) fun j => newP s.data.toList i (i + j)) = R := by
    have h := cnt_mach s.data.toList s.data.toList.length (Nat.le_refl _)
    rw [← sum_turn, ← hn, ← hul, ← hR]
    exact h.symm
  have c1 := fun w => implCnt_any s w (by omega)
  have c2 := fun w => specCnt_any s w (by omega)
  rw [hR] at c1 c2
  have t1 : (R == R) = true := beq_self_eq_true _
  have t1' : (R != R) = false := by rw [bne, t1]; rfl
  have HRS := Lib.hid hRS
  have HN := Lib.hid hn
  have hn9 : n ≤ 1000 := by omega
  clear hR hRS hn hul
  go_wp2_with fail
  refine (c1 _).mono ?_
  rintro e wq ⟨rfl, hb⟩
  replace BB := BB.trans (hb.mono BB.size)
  clear hb
  go_wp2_with fail
  refine (c2 _).mono ?_
  rintro e wq ⟨rfl, hb⟩
  replace BB := BB.trans (hb.mono BB.size)
  clear hb
  have HB := Lib.hid BB
  clear c1 c2 BB
  go_wp2
  go_loopw [5, 6, 7] (fun v_ i_ _ wr => ∃ (i : Nat) (v : Int), i ≤ n ∧ 0 ≤ v ∧ v ≤ (i : Int) * 1000 ∧ i_ = .int .i64 (i : Int) ∧ v_ = .int .i64 v ∧ Hid (v = sumI i fun i => sumI (n - i) fun j => newP s.data.toList i (i + j)) ∧ Hid (Below w.heap.size w wr)) (fun _ i_ _ _ => n - (intOf i_).toNat)
  case atStart => exact ⟨0, 0, Nat.zero_le _, Int.le_refl _, Int.le_refl _, rfl, rfl, Lib.hid rfl, HB⟩
  case round =>
    clear HB
    obtain ⟨i, v, hi, hv0, hv9, rfl, rfl, HV, HB⟩ := hrel
    have HNS := Lib.hid (show (s.size : Int) = (n : Int) by rw [HN.out])
    by_cases hlt : i < n
    · have z1 : (i : Int) < (s.size : Int) := by have := HN.out; omega
      have v1 : IntKind.i64.wrap ((i : Int) + 1) = (i : Int) + 1 := IntWalk.i64_in _ (by omega)
      have HV0 := Lib.hid (show v + sumI 0 (fun j => newP s.data.toList i (i + j)) = v by rw [sumI_zero]; omega)
      go_wp2
      go_loopw [5, 7] (fun v_ t_ wr => ∃ (j e : Nat) (x : Int), Hid (e = i + j) ∧ e ≤ n ∧ 0 ≤ x ∧ x ≤ (i : Int) * 1000 + (e : Int) - (i : Int) ∧ t_ = .int .i64 ((e : Int) + 1) ∧ v_ = .int .i64 x ∧ Hid (v + sumI j (fun j => newP s.data.toList i (i + j)) = x) ∧ Hid (Below w.heap.size w wr)) (fun _ t_ _ => n + 1 - (intOf t_).toNat)
      case atStart => exact ⟨0, i, v, Lib.hid rfl, by omega, hv0, by omega, rfl, rfl, HV0, HB⟩
      case round =>
        clear HV0 HB
        obtain ⟨j, e, x, HE, he, hx0, hx9, rfl, rfl, HX, HB⟩ := hrel
        by_cases hle : e + 1 ≤ n
        · have z2 : (e : Int) + 1 ≤ (s.size : Int) := by have := HN.out; omega
          have hie : i ≤ e := by have := HE.out; omega
          obtain ⟨r, hr⟩ := some_boolW (pcIn (s.data.toList.take e) ((s.data.toList.take (e + 1)).drop i))
          have hxe1 : (s.extract 0 e).size ≤ 1000 := by rw [ByteArray.size_extract]; omega
          have hxe2 : (s.extract i (e + 1)).size ≤ 1000 := by rw [ByteArray.size_extract]; omega
          have cI := fun w => isIn_is r (s.extract 0 e) (s.extract i (e + 1)) w (by rw [ext_take, ext_drop s i (e + 1) (by omega)]; exact hr) (by omega) (by omega)
          have HNP := Lib.hid (show newP s.data.toList i e = if r = true then 0 else 1 by
            unfold newP
            by_cases h : r = true
            · rw [if_pos (hr.1 h), if_pos h]
            · rw [if_neg (fun hh => h (hr.2 hh)), if_neg h])
          have sl1 : ∀ w, (Instr.slice 9 (.string s) none (some (.int .i64 (e : Int))) none).run Try.prog w = .ok (.string (s.extract 0 e)) w := fun w => by
            have h1 := run_slice_string_h (P := Try.prog) w 9 s Try.ulsQ .i64 (e : Int) (by omega) (by omega)
            rwa [Int.toNat_natCast] at h1
          have sl2 : ∀ w, (Instr.slice 9 (.string s) (some (.int .i64 (i : Int))) (some (.int .i64 ((e : Int) + 1))) none).run Try.prog w = .ok (.string (s.extract i (e + 1))) w := fun w => by
            have h1 := run_slice_string (P := Try.prog) w 9 s .i64 .i64 i ((e : Int) + 1) Try.ulsQ (by omega) (by omega) (by omega)
            rwa [Int.toNat_natCast, show ((e : Int) + 1).toNat = e + 1 by omega] at h1
          obtain ⟨p1, hp1⟩ : ∃ p, s.extract 0 e = p := ⟨_, rfl⟩
          obtain ⟨p2, hp2⟩ : ∃ p, s.extract i (e + 1) = p := ⟨_, rfl⟩
          rw [hp1] at cI sl1
          rw [hp2] at cI sl2
          have HNX := Lib.hid (show v + sumI (j + 1) (fun j => newP s.data.toList i (i + j)) = x + newP s.data.toList i e by rw [sumI_succ, HE.out, ← HX.out]; omega)
          have v2 : IntKind.i64.wrap (e : Int) = (e : Int) := IntWalk.i64_in _ (by omega)
          have z8 : (e : Int) + 1 - 1 = (e : Int) := by omega
          have v3 : IntKind.i64.wrap (x + 1) = x + 1 := IntWalk.i64_in _ (by omega)
          have v4 : IntKind.i64.wrap ((e : Int) + 1 + 1) = (e : Int) + 1 + 1 := IntWalk.i64_in _ (by omega)
          have HE2 := Lib.hid (show e + 1 = i + (j + 1) by have := HE.out; omega)
          clear hr hxe1 hxe2 hp1 hp2 hie
          cases r with
          | true =>
            have HX2 := Lib.hid (show v + sumI (j + 1) (fun j => newP s.data.toList i (i + j)) = x by rw [HNX.out, HNP.out]; simp)
            go_wp2
            go_quiet ((go_at_call 24; exact Calls.quiet_of_same (cI _)))
            have HB2 := Lib.hid (below_drewN' HB.out nq)
            go_wp2
            go_roundw
            case rel => exact ⟨j + 1, e + 1, x, HE2, by omega, hx0, by omega, by go_num, rfl, HX2, HB2⟩
            case measure => simp [intOf]; omega
          | false =>
            have HX2 := Lib.hid (show v + sumI (j + 1) (fun j => newP s.data.toList i (i + j)) = x + 1 by rw [HNX.out, HNP.out]; simp)
            go_wp2
            go_quiet ((go_at_call 24; exact Calls.quiet_of_same (cI _)))
            have HB2 := Lib.hid (below_drewN' HB.out nq)
            go_wp2
            go_roundw
            case rel => exact ⟨j + 1, e + 1, x + 1, HE2, by omega, by omega, by omega, by go_num, rfl, HX2, HB2⟩
            case measure => simp [intOf]; omega
        · have z2 : ¬ ((e : Int) + 1 ≤ (s.size : Int)) := by have := HN.out; omega
          have HV2 := Lib.hid (show x = sumI (i + 1) fun i => sumI (n - i) fun j => newP s.data.toList i (i + j) by
            rw [sumI_succ, ← HV.out, ← HX.out, show n - i = j by have := HE.out; omega])
          go_wp2
          go_roundw
          case rel => exact ⟨i + 1, x, by omega, hx0, by omega, by go_num, rfl, HV2, HB⟩
          case measure => simp [intOf]; omega
    · obtain rfl : i = n := by omega
      obtain rfl : v = R := HV.out.trans HRS.out
      have z1 : ¬ ((i : Int) < (s.size : Int)) := by have := HN.out; omega
      clear HV HRS
      go_wp2_with fail
      refine (alive_any _).mono ?_
      rintro e wq ⟨rfl, rfl⟩
      go_wp2
      go_ret
      exact ⟨rfl, HB.out⟩

end Go.Proofs.Ytehppjilnacjlaa
