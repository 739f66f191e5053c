/-
  The walk of the law HowOften: it answers true, and nothing that was there is written. No conditions. (Written by wip/tools/ch9_laws.py.)
-/
import Derived.Test.YtehppjilnacjlaaLawsWB
import Derived.Test.YtehppjilnacjlaaHowI
namespace Go.Proofs.Ytehppjilnacjlaa
open Go.RowKit

theorem howTo_low {s t : Wd} {k : Nat} (h : k < t.length) : howTo s t k = 0 := by
  induction k with
  | zero => rfl
  | succ k ih =>
    rw [howTo_no (fun e => by have := (ends_place.1 e).1; omega)]
    exact ih (by omega)
theorem howTo_high {s t : Wd} {k : Nat} (h : s.length ≤ k) : howTo s t k = howTo s t s.length := by
  induction h with
  | refl => rfl
  | @step m hm ih => rw [howTo_no (fun e => by have := (ends_place.1 e).2.1; have hm : s.length ≤ m := hm; omega)]; exact ih
theorem howTo_pos {s t : Wd} {e k : Nat} (h : endsAt s t (e + 1)) (hk : e < k) : 0 < howTo s t k := by
  induction k with
  | zero => omega
  | succ k ih =>
    by_cases hek : e = k
    · subst hek; rw [howTo_yes h]; omega
    · have h1 := ih (by omega)
      by_cases h2 : endsAt s t (k + 1)
      · rw [howTo_yes h2]; omega
      · rw [howTo_no h2]; exact h1
theorem howN_pos {s t : Wd} (h : pcIn s t) (h0 : t ≠ []) : 0 < howN s t := by
  rw [howN, if_neg h0]
  obtain ⟨e, he⟩ := h
  have h1 := ends_place.1 he
  have h2 : 0 < t.length := List.length_pos_iff.2 h0
  obtain ⟨k, rfl⟩ : ∃ k, e = k + 1 := ⟨e - 1, by omega⟩
  exact howTo_pos he (by omega)

set_option maxRecDepth 4000 in
set_option maxHeartbeats 8000000 in
theorem walkFnHowOften (a : Option Addr) (len cap : Nat) (zs : List Int) (w : World) (h : IsRowK .u8 w a len cap zs) :
    Calls Try.prog 9 #[.slice a len cap] w fun e w' => e = .returned (.bool true) ∧ Below w.heap.size w w' := by
  by_cases hs : 1048576 < len
  · have h2 : (1048576 : Int) < (len : Int) := by omega
    go_enter Try.func9, Try.ntmps9
    go_wp2
    go_ret
    exact ⟨rfl, Below.refl _ _⟩
  go_enter Try.func9, Try.ntmps9
  go_wp2_with fail
  refine (DrawHowOften_any _ _ _ _ _ h).mono ?_
  rintro e w0 ⟨s, p, hsz, hpz, rfl, BB⟩
  clear h hs
  obtain ⟨R, hR⟩ : ∃ R : Nat, howN s.data.toList p.data.toList = R := ⟨_, rfl⟩
  obtain ⟨r, hr⟩ := some_boolW (pcIn s.data.toList p.data.toList)
  have hul : s.data.toList.length = s.size := rfl
  have hpl : p.data.toList.length = p.size := rfl
  have c1 := fun w => implHow_any s p w (by omega) (by omega)
  have c2 := fun w => specHow_any s p w (by omega) (by omega)
  have c3 := fun w => implHas_any s p r w hr (by omega) (by omega)
  rw [hR] at c1 c2
  have t1 : ((R : Int) == (R : Int)) = true := beq_self_eq_true _
  by_cases hp0 : p.data.toList = []
  · have hpe : p.toList.isEmpty = true := by rw [ByteArray.toList_eq, hp0]; rfl
    have hR0 : R = 0 := by rw [← hR, howN, if_pos hp0]
    subst hR0
    clear hr hR hp0 hul hpl
    go_wp2_with fail
    refine (c1 _).mono ?_
    rintro e wq ⟨rfl, hb⟩
    replace BB := BB.trans (hb.mono BB.size)
    clear hb
    go_wp2
    go_loopw [6, 7] (fun v_ k_ wr => v_ = .int .i64 0 ∧ k_ = .int .i64 0 ∧ Hid (Below w.heap.size w wr)) (fun _ _ _ => 0)
    case atStart => exact ⟨rfl, rfl, Lib.hid BB⟩
    case round =>
      clear BB
      obtain ⟨rfl, rfl, HB⟩ := hrel
      have BB := HB.out
      go_wp2_with fail
      refine (c2 _).mono ?_
      rintro e wq ⟨rfl, hb⟩
      replace BB := BB.trans (hb.mono BB.size)
      clear hb
      go_wp2_with fail
      refine (alive_any _).mono ?_
      rintro e wq ⟨rfl, rfl⟩
      go_wp2
      go_ret
      exact ⟨rfl, BB⟩
  · have hpe : p.toList.isEmpty = false := by
      rw [ByteArray.toList_eq]
      cases h : p.data.toList with
      | nil => exact absurd h hp0
      | cons x y => rfl
    have hp1 : 1 ≤ p.size := by have := List.length_pos_iff.2 hp0; omega
    have HR := Lib.hid (show howTo s.data.toList p.data.toList s.size = R by rw [← hR, howN, if_neg hp0, hul])
    have HPOS := Lib.hid (show (r = true → 0 < R) ∧ (r = false → R = 0) from ⟨fun h => by rw [← hR]; exact howN_pos (hr.1 h) hp0, fun h => by
      rw [← hR, howN, if_neg hp0]
      exact howTo_none (fun e => by have := hr.2 e; rw [h] at this; cases this) _⟩)
    have HUL := Lib.hid hul
    have HPL := Lib.hid hpl
    clear hr hR hp0 hul hpl
    go_wp2_with fail
    refine (c1 _).mono ?_
    rintro e wq ⟨rfl, hb⟩
    replace BB := BB.trans (hb.mono BB.size)
    clear hb
    have HB := Lib.hid BB
    have HV0 := Lib.hid (show 0 = howTo s.data.toList p.data.toList (0 + p.size - 1) from (howTo_low (by have := HPL.out; omega)).symm)
    clear BB
    go_wp2
    go_loopw [6, 7] (fun v_ k_ wr => ∃ k v : Nat, k ≤ s.size + 1 ∧ v ≤ k ∧ v_ = .int .i64 (v : Int) ∧ k_ = .int .i64 (k : Int) ∧ Hid (v = howTo s.data.toList p.data.toList (k + p.size - 1)) ∧ Hid (Below w.heap.size w wr)) (fun _ k_ _ => s.size + 1 - (intOf k_).toNat)
    case atStart => exact ⟨0, 0, Nat.zero_le _, Nat.le_refl _, rfl, rfl, HV0, HB⟩
    case round =>
      clear HV0 HB
      obtain ⟨k, v, hk, hv, rfl, rfl, HV, HB⟩ := hrel
      have v1 : IntKind.i64.wrap ((k : Int) + (p.size : Int)) = (k : Int) + (p.size : Int) := IntWalk.i64_in _ (by omega)
      by_cases hle : k + p.size ≤ s.size
      · have z1 : (k : Int) + (p.size : Int) ≤ (s.size : Int) := by omega
        have hsl : ∀ w, (Instr.slice 9 (.string s) (some (.int .i64 (k : Int))) (some (.int .i64 ((k : Int) + (p.size : Int)))) none).run Try.prog w = .ok (.string (s.extract k (k + p.size))) w := fun w => by
          have := run_slice_string (P := Try.prog) w 9 s .i64 .i64 k ((k : Int) + (p.size : Int)) Try.ulsQ (by omega) (by omega) (by omega)
          rw [this, show ((k : Int) + (p.size : Int)).toNat = k + p.size by omega, Int.toNat_natCast]
        have hxl := ext_list s k p.size
        obtain ⟨x, hx⟩ : ∃ x, s.extract k (k + p.size) = x := ⟨_, rfl⟩
        rw [hx] at hsl hxl
        have hkp : k + 1 + p.size - 1 = (k + p.size - 1) + 1 := by omega
        have v2 : IntKind.i64.wrap ((v : Int) + 1) = (v : Int) + 1 := IntWalk.i64_in _ (by omega)
        by_cases heq : x.data.toList = p.data.toList
        · have HX2 := Lib.hid (show v + 1 = howTo s.data.toList p.data.toList (k + 1 + p.size - 1) by
            rw [hkp, howTo_yes (ends_place.2 ⟨by have := HPL.out; omega, by have := HUL.out; omega, by rw [HPL.out, show k + p.size - 1 + 1 - p.size = k by omega, ← hxl]; exact heq⟩), ← HV.out])
          have t2 : (x.toList == p.toList) = true := by rw [ByteArray.toList_eq, ByteArray.toList_eq, heq]; exact beq_self_eq_true _
          clear hxl heq hx hkp
          go_wp2
          go_roundw
          case rel => exact ⟨k + 1, v + 1, by omega, by omega, by go_num, by go_num, HX2, HB⟩
          case measure => simp [intOf]; omega
        · have HX2 := Lib.hid (show v = howTo s.data.toList p.data.toList (k + 1 + p.size - 1) by
            rw [hkp, howTo_no (fun e => heq (by
              have h := (ends_place.1 e).2.2
              rw [HPL.out, show k + p.size - 1 + 1 - p.size = k by omega, ← hxl] at h
              exact h)), ← HV.out])
          have t2 : (x.toList == p.toList) = false := by rw [ByteArray.toList_eq, ByteArray.toList_eq]; exact beq_eq_false_iff_ne.2 heq
          clear hxl heq hx hkp
          go_wp2
          go_roundw
          case rel => exact ⟨k + 1, v, by omega, by omega, rfl, by go_num, HX2, HB⟩
          case measure => simp [intOf]; omega
      · have z1 : ¬ ((k : Int) + (p.size : Int) ≤ (s.size : Int)) := by omega
        have hvR : v = R := by
          rw [HV.out, howTo_high (by have := HUL.out; omega), HUL.out]
          exact HR.out
        subst hvR
        have BB := HB.out
        clear HV HR HB
        go_wp2_with fail
        refine (c2 _).mono ?_
        rintro e wq ⟨rfl, hb⟩
        replace BB := BB.trans (hb.mono BB.size)
        clear hb
        cases r with
        | true =>
          have hv1 : (v : Int) > 0 := by have := HPOS.out.1 rfl; omega
          clear HPOS
          go_wp2_with fail
          refine (c3 _).mono ?_
          rintro e wq ⟨rfl, hb⟩
          replace BB := BB.trans (hb.mono BB.size)
          clear hb
          go_wp2_with fail
          refine (alive_any _).mono ?_
          rintro e wq ⟨rfl, rfl⟩
          go_wp2
          go_ret
          exact ⟨rfl, BB⟩
        | false =>
          have hv0 : v = 0 := HPOS.out.2 rfl
          subst hv0
          clear HPOS
          go_wp2_with fail
          refine (c3 _).mono ?_
          rintro e wq ⟨rfl, hb⟩
          replace BB := BB.trans (hb.mono BB.size)
          clear hb
          go_wp2_with fail
          refine (alive_any _).mono ?_
          rintro e wq ⟨rfl, rfl⟩
          go_wp2
          go_ret
          exact ⟨rfl, BB⟩

end Go.Proofs.Ytehppjilnacjlaa
