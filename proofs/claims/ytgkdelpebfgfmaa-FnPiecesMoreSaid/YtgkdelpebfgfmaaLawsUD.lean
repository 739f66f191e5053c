/-
  The walk of the law PiecesMore: it answers true, and nothing that was there is written. No conditions. (Written by wip/tools/ch7_laws.py.)
-/
import Derived.Test.YtgkdelpebfgfmaaHelpP
import Derived.Test.YtgkdelpebfgfmaaDrawV
import Derived.Deep.RegionHeld3
namespace Go.Proofs.Ytgkdelpebfgfmaa
open Go.RowKit

theorem filt_next {L : List En} {k : Nat} {P : En → Bool} (hk : k < L.length) : (L.take (k + 1)).filter P = (L.take k).filter P ++ (if P L[k] = true then [L[k]] else []) := by
  rw [List.take_succ_eq_append_getElem hk, List.filter_append]
  by_cases h : P L[k] = true
  · rw [if_pos h, List.filter_cons_of_pos h]; rfl
  · rw [if_neg h, List.filter_cons_of_neg h]; rfl

set_option maxRecDepth 4000 in
set_option maxHeartbeats 8000000 in
theorem walkFnPiecesMore (a : Option Addr) (len cap : Nat) (zs : List Int) (w : World) (h : IsRowK .u8 w a len cap zs) :
    Calls Try.prog 8 #[.slice a len cap] w fun e w' => e = .returned (.bool true) ∧ Below w.heap.size w w' := by
  by_cases hs : 1048576 < len
  · have h2 : (1048576 : Int) < (len : Int) := by omega
    go_enter Try.func8, Try.ntmps8
    go_wp2
    go_ret
    exact ⟨rfl, Below.refl _ _⟩
  go_enter Try.func8, Try.ntmps8
  go_wp2_with fail
  refine (DrawPiecesOf_any _ _ _ _ _ h).mono ?_
  rintro e w0 ⟨t, u, k, ht, hu, hk0, hk9, rfl, BB⟩
  clear h
  clear hs
  by_cases hn : k < 1
  · have c1 := fun w => implPcs_w t u k [] w (piecesT_bad hn) (by omega) (by omega) (by omega)
    go_wp2_with fail
    refine (c1 _).mono ?_
    rintro e w1 ⟨a3, m3, c3, rfl, E3, hb⟩
    replace BB := BB.trans (hb.mono BB.size)
    clear hb
    have hm3 : m3 = 0 := E3.len
    subst hm3
    clear E3 c1
    go_wp2_with fail
    refine (alive_any _).mono ?_
    rintro e wq ⟨rfl, rfl⟩
    go_wp2
    go_ret
    exact ⟨rfl, BB⟩
  obtain ⟨n, rfl⟩ : ∃ n : Nat, k = n := ⟨k.toNat, by omega⟩
  obtain ⟨A, hA⟩ : ∃ A, piecesT t u (n : Int) = A := ⟨_, rfl⟩
  obtain ⟨F, hF⟩ : ∃ A, piecesT t u ((n : Int) + 1) = A := ⟨_, rfl⟩
  have c1 := fun w => implPcs_w t u n A w hA (by omega) (by omega) (by omega)
  have c2 := fun w => implPcs_w t u ((n : Int) + 1) F w hF (by omega) (by omega) (by omega)
  have c3 := fun w => specPcs_w t u n A w hA (by omega) (by omega)
  have hroom : A.length ≤ 1000 := by
    rw [← hA, piecesT_nat (by omega)]
    have h2 := piecesN_len t u n t.size
    have h3 : t.size * u.size ≤ 14 * 39 := Nat.mul_le_mul ht hu
    omega
  have HF := Lib.hid (show F = A.filter fun p => decide ((n : Int) < p.2.2) by rw [← hF, ← hA]; exact pieces_more (by omega))
  have v1 : IntKind.i64.wrap ((n : Int) + 1) = (n : Int) + 1 := IntWalk.i64_in _ (by omega)
  have n1 : ¬ (n : Int) < 1 := hn
  clear hA hF hn
  go_wp2_with fail
  refine (c1 _).mono ?_
  rintro e w1 ⟨aA, mA, dA, rfl, EA, hb⟩
  replace BB := BB.trans (hb.mono BB.size)
  clear hb
  go_wp2_with fail
  refine (c2 _).mono ?_
  rintro e w2 ⟨aF, mF, dF, rfl, EF, hb⟩
  replace EA := EA.later hb
  replace BB := BB.trans (hb.mono BB.size)
  clear hb
  have HEA := Lib.hid EA
  have HEF := Lib.hid EF
  have HB := Lib.hid BB
  clear EA EF BB c1 c2
  have HM := Lib.hid HEA.out.len
  have hm9 : mA ≤ 1000 := by have := HM.out; omega
  go_wp2
  go_loopw [8, 9] (fun v k_ wr => ∃ (k g m d : Nat), k ≤ mA ∧ k_ = .int .i64 (k : Int) ∧ m ≤ k ∧ v = .slice (some ⟨g, 0, none⟩) m d ∧ Hid (One w2 w2.heap.size wr 29 3 (some ⟨g, 0, none⟩) m d (entsC ((A.take k).filter fun p => decide ((n : Int) < p.2.2))))) (fun _ k_ _ => mA - (intOf k_).toNat)
  case atStart => exact ⟨0, _, _, _, Nat.zero_le _, rfl, Nat.zero_le _, rfl, Lib.hid (One.empty w2 29 3)⟩
  case round =>
    obtain ⟨k, g, m, d, hk, rfl, hmk, rfl, HO⟩ := hrel
    by_cases hlt : k < mA
    · have hkl : k < A.length := by have := HM.out; omega
      obtain ⟨x, hx⟩ : ∃ x, A[k].1 = x := ⟨_, rfl⟩
      obtain ⟨y, hy⟩ : ∃ x, A[k].2.1 = x := ⟨_, rfl⟩
      obtain ⟨z, hz⟩ : ∃ x, A[k].2.2 = x := ⟨_, rfl⟩
      have hm : A[k] = (x, y, z) := by rw [← hx, ← hy, ← hz]
      obtain ⟨b, o, rfl, hb9, e1, e2, e3⟩ := ent_cells (HEA.out.at_.below HO.out.below) hkl hm
      have hnx := filt_next (P := fun p => decide ((n : Int) < p.2.2)) hkl
      rw [hm] at hnx
      have z1 : (k : Int) < (mA : Int) := by omega
      have z0 : (0 : Int) ≤ (k : Int) := by omega
      clear hx hy hz hm
      by_cases hc : (n : Int) < z
      · have td : decide ((n : Int) < z) = true := decide_eq_true hc
        have HNX := Lib.hid (show entsC ((A.take (k + 1)).filter fun p => decide ((n : Int) < p.2.2)) = entsC ((A.take k).filter fun p => decide ((n : Int) < p.2.2)) ++ [.int .i64 x, .int .i64 y, .int .i64 z] by rw [hnx, if_pos (by simpa using hc), entsC_snoc])
        clear hnx
        go_wp2_with (at_builtin; refine wpList_append_row rfl (.tmp 53) (.tmp 58) 25 rfl Try.ulP7 Try.infoP7 rfl (by decide) HO.out rfl #[.int .i64 x, .int .i64 y, .int .i64 z] rfl rfl (by simp [Value.oneCell']) (by unfold maxLen; omega) (by omega) ?_; intro a6 c6 w6 o6)
        obtain ⟨g6, rfl⟩ := o6.addr (by omega)
        go_roundw
        case rel => exact ⟨k + 1, g6, m + 1, c6, by omega, by go_num, by omega, rfl, Lib.hid (by rw [HNX.out]; exact o6)⟩
        case measure => simp [intOf]; omega
      · have td : decide ((n : Int) < z) = false := decide_eq_false hc
        have HNX := Lib.hid (show entsC ((A.take (k + 1)).filter fun p => decide ((n : Int) < p.2.2)) = entsC ((A.take k).filter fun p => decide ((n : Int) < p.2.2)) by rw [hnx, if_neg (by simpa using hc), List.append_nil])
        clear hnx
        go_wp2
        go_roundw
        case rel => exact ⟨k + 1, g, m, d, by omega, by go_num, by omega, rfl, Lib.hid (by rw [HNX.out]; exact HO.out)⟩
        case measure => simp [intOf]; omega
    · have EW := enAt_of HO.out.own
      rw [List.take_of_length_le (by have := HM.out; omega), ← HF.out] at EW
      have hbw := HO.out.below
      obtain ⟨w20, rfl⟩ : ∃ w9, w9 = wr := ⟨_, rfl⟩
      have EF := HEF.out.later hbw
      have EA := HEA.out.later hbw
      have BB := HB.out.trans (hbw.mono HB.out.size)
      have HLF := Lib.hid (show F.length ≤ 1099511627776 by have h1 := HF.out; have h2 := List.length_filter_le (fun p : En => decide ((n : Int) < p.2.2)) A; rw [← h1] at h2; omega)
      have z1 : ¬ (k : Int) < (mA : Int) := by omega
      clear HO hbw HEF HEA HB hlt
      go_wp2_with fail
      refine (samePcs_w F _ _ _ _ _ _ _ EF EW HLF.out).mono ?_
      rintro e w21 ⟨rfl, hb⟩
      replace EF := EF.later hb
      replace EA := EA.later hb
      replace EW := EW.later hb
      replace BB := BB.trans (hb.mono BB.size)
      clear hb
      go_wp2_with fail
      refine (c3 _).mono ?_
      rintro e w22 ⟨aS, mS, dS, rfl, ES, hb⟩
      replace EF := EF.later hb
      replace EA := EA.later hb
      replace EW := EW.later hb
      replace BB := BB.trans (hb.mono BB.size)
      clear hb
      go_wp2_with fail
      refine (samePcs_w A _ _ _ _ _ _ _ EA ES (by omega)).mono ?_
      rintro e w23 ⟨rfl, hb⟩
      replace EF := EF.later hb
      replace EA := EA.later hb
      replace EW := EW.later hb
      replace ES := ES.later hb
      replace BB := BB.trans (hb.mono BB.size)
      clear hb
      go_wp2_with fail
      refine (alive_any _).mono ?_
      rintro e wq ⟨rfl, rfl⟩
      go_wp2
      go_ret
      exact ⟨rfl, BB⟩

end Go.Proofs.Ytgkdelpebfgfmaa
