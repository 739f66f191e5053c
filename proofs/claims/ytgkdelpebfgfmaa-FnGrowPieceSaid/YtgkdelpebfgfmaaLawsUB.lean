/-
  The walk of the law GrowPiece: it answers true, and nothing that was there is written. No conditions. (Written by wip/tools/ch7_laws.py.)
-/
import Derived.Test.YtgkdelpebfgfmaaHelpP
import Derived.Test.YtgkdelpebfgfmaaDrawV
import Derived.Deep.RegionHeld3
namespace Go.Proofs.Ytgkdelpebfgfmaa
open Go.RowKit

/-- What grows around two places with the same byte. -/
theorem grow_facts {t u : ByteArray} {I J : Nat} (hsm : sm t u I J) : ∃ X Y Z : Nat, growT t u I J = (((X : Int), (Y : Int), (Z : Int)), true) ∧ 1 ≤ Z ∧ X + Z ≤ t.size ∧ Y + Z ≤ u.size ∧
    (∀ k, k < Z → growT t u ((X : Int) + (k : Int)) ((Y : Int) + (k : Int)) = (((X : Int), (Y : Int), (Z : Int)), true)) ∧ okP t u ((X : Int), (Y : Int), (Z : Int)) ∧ ¬ okP t u ((X : Int), (Y : Int), (Z : Int) + 1) ∧ ¬ okP t u ((X : Int) - 1, (Y : Int) - 1, (Z : Int) + 1) ∧ hasP ((X : Int), (Y : Int), (Z : Int)) I J 1 := by
  have h1 := growT_yes hsm
  have hle := backP_le t u I J
  have hrb := runP_back t u I J
  have hr1 := runP_pos hsm
  have hfirst := backP_first t u I J
  have hk := fun k hk => growN_same (s := t) (t := u) (i := I) (j := J) (k := k) hk
  have hI := hsm.1
  have hJ := hsm.2.1
  have hrm := runP_room t u (I - backP t u I J) (J - backP t u I J) (by omega) (by omega)
  rw [growN] at h1 hk
  obtain ⟨A, hA⟩ : ∃ A, backP t u I J = A := ⟨_, rfl⟩
  obtain ⟨X, hX⟩ : ∃ X, I - backP t u I J = X := ⟨_, rfl⟩
  obtain ⟨Y, hY⟩ : ∃ X, J - backP t u I J = X := ⟨_, rfl⟩
  obtain ⟨Z, hZ⟩ : ∃ Z, runP t u (I - backP t u I J) (J - backP t u I J) = Z := ⟨_, rfl⟩
  rw [hX, hY] at hZ
  rw [hX, hY, hZ] at h1 hk hrm hrb
  rw [hX, hY] at hfirst
  rw [hA] at hX hY hle hrb
  refine ⟨X, Y, Z, h1, by omega, by omega, by omega, fun k hkz => ?_, ?_, ?_, ?_, ?_⟩
  · obtain ⟨h2, h3⟩ := hk k hkz
    have h4 := growT_yes h2
    rw [h3] at h4
    exact h4
  · rw [okP_iff, Int.toNat_natCast, Int.toNat_natCast, Int.toNat_natCast]
    omega
  · rw [okP_iff, Int.toNat_natCast, Int.toNat_natCast]
    omega
  · rw [okP_iff]
    rintro ⟨a1, a2, a3, a4, a5, a6⟩
    have a7 := runP_same t u ((X : Int) - 1).toNat ((Y : Int) - 1).toNat 0 (by omega)
    rw [Nat.add_zero, Nat.add_zero, show ((X : Int) - 1).toNat = X - 1 by omega, show ((Y : Int) - 1).toNat = Y - 1 by omega] at a7
    have a8 := back_pos.1 ⟨(show 0 < X by omega), (show 0 < Y by omega), a7⟩
    omega
  · simp only [hasP]
    omega

set_option maxRecDepth 4000 in
set_option maxHeartbeats 8000000 in
theorem walkFnGrowPiece (a : Option Addr) (len cap : Nat) (zs : List Int) (w : World) (h : IsRowK .u8 w a len cap zs) :
    Calls Try.prog 5 #[.slice a len cap] w fun e w' => e = .returned (.bool true) ∧ Below w.heap.size w w' := by
  by_cases hs : 1048576 < len
  · have h2 : (1048576 : Int) < (len : Int) := by omega
    go_enter Try.func5, Try.ntmps5
    go_wp2
    go_ret
    exact ⟨rfl, Below.refl _ _⟩
  go_enter Try.func5, Try.ntmps5
  go_wp2_with fail
  refine (DrawGrowPiece_any _ _ _ _ _ h).mono ?_
  rintro e w0 ⟨t, u, i, j, ht, hu, hi0, hi9, hj0, hj9, rfl, BB⟩
  clear h
  clear hs
  by_cases hc : 0 ≤ i ∧ 0 ≤ j ∧ sm t u i.toNat j.toNat
  · obtain ⟨I, rfl⟩ : ∃ I : Nat, i = I := ⟨i.toNat, by omega⟩
    obtain ⟨J, rfl⟩ : ∃ I : Nat, j = I := ⟨j.toNat, by omega⟩
    obtain ⟨_, _, hsm⟩ := hc
    rw [Int.toNat_natCast, Int.toNat_natCast] at hsm
    obtain ⟨X, Y, Z, hg, hz1, hx9, hy9, hk, hok, hno1, hno2, hhas⟩ := grow_facts hsm
    have c1 := fun w => implGrow_any t u I J X Y Z true w hg (by omega) (by omega) (by omega) (by omega)
    have c2 := fun w => specGrow_any t u I J X Y Z true w hg (by omega) (by omega)
    have HK := Lib.hid hk
    have c4 := fun w => implPieceOk_is false t u X Y ((Z : Int) + 1) w ⟨(fun h => absurd h (by decide)), fun h => absurd h hno1⟩ (by omega) (by omega) (by omega) (by omega)
    have c5 := fun w => implPieceOk_is false t u ((X : Int) - 1) ((Y : Int) - 1) ((Z : Int) + 1) w ⟨(fun h => absurd h (by decide)), fun h => absurd h hno2⟩ (by omega) (by omega) (by omega) (by omega)
    have c6 := fun w => implPieceOk_is true t u X Y Z w ⟨fun _ => hok, fun _ => rfl⟩ (by omega) (by omega) (by omega) (by omega)
    have c7 := fun w => implHas_is true X Y Z I J 1 w ⟨fun _ => hhas, fun _ => rfl⟩ (by omega) (by omega) (by omega) (by omega) (by omega)
    have v1 : IntKind.i64.wrap ((Z : Int) + 1) = (Z : Int) + 1 := IntWalk.i64_in _ (by omega)
    have v2 : IntKind.i64.wrap ((X : Int) - 1) = (X : Int) - 1 := IntWalk.i64_in _ (by omega)
    have v3 : IntKind.i64.wrap ((Y : Int) - 1) = (Y : Int) - 1 := IntWalk.i64_in _ (by omega)
    clear hg hk hok hno1 hno2 hhas hsm
    go_wp2_with fail
    refine (c1 _).mono ?_
    rintro e w1 ⟨rfl, hb⟩
    replace BB := BB.trans (hb.mono BB.size)
    clear hb
    have ha := (Below.refl w1.heap.size w1).alloc (Nat.le_refl _) (.cells #[.int .i64 (X : Int), .int .i64 (Y : Int), .int .i64 (Z : Int)] 29)
    have S7 := Side.fresh (w := w1) (B := w.heap.size) (v := (.slice none 0 0)) 29 [.int .i64 (X : Int), .int .i64 (Y : Int), .int .i64 (Z : Int)] BB.size (by intro k hk; simp [Value.ownBlock] at hk)
    replace BB := BB.trans (ha.mono BB.size)
    clear ha
    have kS70 := S7.cell 0 _ rfl
    have kS71 := S7.cell 1 _ rfl
    have kS72 := S7.cell 2 _ rfl
    go_wp2_with fail
    refine (c2 _).mono ?_
    rintro e w2 ⟨rfl, hb⟩
    clear kS70 kS71 kS72
    replace S7 := S7.later hb
    replace BB := BB.trans (hb.mono BB.size)
    clear hb
    obtain ⟨g7, hg7⟩ : ∃ g, w1.heap.size = g := ⟨_, rfl⟩
    rw [hg7]
    replace S7 : Side w2 w.heap.size (.slice none 0 0) 29 g7 [.int .i64 (X : Int), .int .i64 (Y : Int), .int .i64 (Z : Int)] := hg7 ▸ S7
    clear hg7
    have ha := (Below.refl w2.heap.size w2).alloc (Nat.le_refl _) (.cells #[.int .i64 (X : Int), .int .i64 (Y : Int), .int .i64 (Z : Int)] 29)
    have HS := Lib.hid (S7.later ha)
    have HB := Lib.hid (BB.trans (ha.mono BB.size))
    have k70 := HS.out.cell 0 _ rfl
    have k71 := HS.out.cell 1 _ rfl
    have k72 := HS.out.cell 2 _ rfl
    clear ha S7 BB c1 c2
    go_wp2
    clear k70 k71 k72
    go_loopw [11] (fun k_ wr => ∃ k : Nat, k ≤ Z ∧ k_ = .int .i64 (k : Int) ∧ Hid (Side wr w.heap.size (.slice none 0 0) 29 g7 [.int .i64 (X : Int), .int .i64 (Y : Int), .int .i64 (Z : Int)]) ∧ Hid (Below w.heap.size w wr)) (fun k_ _ => Z - (intOf k_).toNat)
    case atStart => exact ⟨0, Nat.zero_le _, rfl, HS, HB⟩
    case round =>
      clear HS HB
      obtain ⟨k, hk, rfl, HS, HB⟩ := hrel
      obtain ⟨w20, rfl⟩ : ∃ w9, w9 = wr := ⟨_, rfl⟩
      have S7 := HS.out
      have BB := HB.out
      clear HS HB
      by_cases hlt : k < Z
      · have z1 : (k : Int) < (Z : Int) := by omega
        have v4 : IntKind.i64.wrap ((X : Int) + (k : Int)) = (X : Int) + (k : Int) := IntWalk.i64_in _ (by omega)
        have v5 : IntKind.i64.wrap ((Y : Int) + (k : Int)) = (Y : Int) + (k : Int) := IntWalk.i64_in _ (by omega)
        have c3 := fun w => implGrow_any t u ((X : Int) + (k : Int)) ((Y : Int) + (k : Int)) X Y Z true w (HK.out k hlt) (by omega) (by omega) (by omega) (by omega)
        have kS70 := S7.cell 0 _ rfl
        have kS71 := S7.cell 1 _ rfl
        have kS72 := S7.cell 2 _ rfl
        go_wp2_with fail
        refine (c3 _).mono ?_
        rintro e w21 ⟨rfl, hb⟩
        clear kS70 kS71 kS72
        replace S7 := S7.later hb
        replace BB := BB.trans (hb.mono BB.size)
        clear hb
        have ha := (Below.refl w21.heap.size w21).alloc (Nat.le_refl _) (.cells #[.int .i64 (X : Int), .int .i64 (Y : Int), .int .i64 (Z : Int)] 29)
        have HS := Lib.hid (S7.later ha)
        have HB := Lib.hid (BB.trans (ha.mono BB.size))
        have k70 := HS.out.cell 0 _ rfl
        have k71 := HS.out.cell 1 _ rfl
        have k72 := HS.out.cell 2 _ rfl
        clear ha S7 BB c3
        go_wp2
        go_roundw
        case rel => exact ⟨k + 1, by omega, by go_num, HS, HB⟩
        case measure => simp [intOf]; omega
      · have z1 : ¬ (k : Int) < (Z : Int) := by omega
        have kS70 := S7.cell 0 _ rfl
        have kS71 := S7.cell 1 _ rfl
        have kS72 := S7.cell 2 _ rfl
        go_wp2_with fail
        refine (c4 _).mono ?_
        rintro e w21 ⟨rfl, hb⟩
        clear kS70 kS71 kS72
        replace S7 := S7.later hb
        replace BB := BB.trans (hb.mono BB.size)
        clear hb
        have kS70 := S7.cell 0 _ rfl
        have kS71 := S7.cell 1 _ rfl
        have kS72 := S7.cell 2 _ rfl
        go_wp2_with fail
        refine (c5 _).mono ?_
        rintro e w22 ⟨rfl, hb⟩
        clear kS70 kS71 kS72
        replace S7 := S7.later hb
        replace BB := BB.trans (hb.mono BB.size)
        clear hb
        have kS70 := S7.cell 0 _ rfl
        have kS71 := S7.cell 1 _ rfl
        have kS72 := S7.cell 2 _ rfl
        go_wp2_with fail
        refine (c6 _).mono ?_
        rintro e w23 ⟨rfl, hb⟩
        clear kS70 kS71 kS72
        replace S7 := S7.later hb
        replace BB := BB.trans (hb.mono BB.size)
        clear hb
        have kS70 := S7.cell 0 _ rfl
        have kS71 := S7.cell 1 _ rfl
        have kS72 := S7.cell 2 _ rfl
        go_wp2_with fail
        refine (c7 _).mono ?_
        rintro e w24 ⟨rfl, hb⟩
        clear kS70 kS71 kS72
        replace S7 := S7.later hb
        replace BB := BB.trans (hb.mono BB.size)
        clear hb
        have kS70 := S7.cell 0 _ rfl
        have kS71 := S7.cell 1 _ rfl
        have kS72 := S7.cell 2 _ rfl
        go_wp2_with fail
        refine (alive_any _).mono ?_
        rintro e wq ⟨rfl, rfl⟩
        clear kS70 kS71 kS72
        have kS70 := S7.cell 0 _ rfl
        have kS71 := S7.cell 1 _ rfl
        have kS72 := S7.cell 2 _ rfl
        go_wp2
        go_ret
        exact ⟨rfl, BB⟩
  · have hg := growT_no hc
    have c1 := fun w => implGrow_any t u i j 0 0 0 false w hg (by omega) (by omega) (by omega) (by omega)
    have c2 := fun w => specGrow_any t u i j 0 0 0 false w hg (by omega) (by omega)
    clear hg hc
    go_wp2_with fail
    refine (c1 _).mono ?_
    rintro e w1 ⟨rfl, hb⟩
    replace BB := BB.trans (hb.mono BB.size)
    clear hb
    have ha := (Below.refl w1.heap.size w1).alloc (Nat.le_refl _) (.cells #[.int .i64 0, .int .i64 0, .int .i64 0] 29)
    have S7 := Side.fresh (w := w1) (B := w.heap.size) (v := (.slice none 0 0)) 29 [.int .i64 0, .int .i64 0, .int .i64 0] BB.size (by intro k hk; simp [Value.ownBlock] at hk)
    replace BB := BB.trans (ha.mono BB.size)
    clear ha
    have kS70 := S7.cell 0 _ rfl
    have kS71 := S7.cell 1 _ rfl
    have kS72 := S7.cell 2 _ rfl
    go_wp2_with fail
    refine (c2 _).mono ?_
    rintro e w2 ⟨rfl, hb⟩
    clear kS70 kS71 kS72
    replace S7 := S7.later hb
    replace BB := BB.trans (hb.mono BB.size)
    clear hb
    obtain ⟨g7, hg7⟩ : ∃ g, w1.heap.size = g := ⟨_, rfl⟩
    rw [hg7]
    replace S7 : Side w2 w.heap.size (.slice none 0 0) 29 g7 [.int .i64 0, .int .i64 0, .int .i64 0] := hg7 ▸ S7
    clear hg7
    have ha := (Below.refl w2.heap.size w2).alloc (Nat.le_refl _) (.cells #[.int .i64 0, .int .i64 0, .int .i64 0] 29)
    replace S7 := S7.later ha
    replace BB := BB.trans (ha.mono BB.size)
    have k70 := S7.cell 0 _ rfl
    have k71 := S7.cell 1 _ rfl
    have k72 := S7.cell 2 _ rfl
    clear ha
    go_wp2_with fail
    refine (alive_any _).mono ?_
    rintro e wq ⟨rfl, rfl⟩
    go_wp2
    go_ret
    exact ⟨rfl, BB⟩

end Go.Proofs.Ytgkdelpebfgfmaa
