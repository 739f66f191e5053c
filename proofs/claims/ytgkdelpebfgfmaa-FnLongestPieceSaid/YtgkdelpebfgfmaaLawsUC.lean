/-
  The walks of the laws PieceHas and LongestPiece: each answers true, and nothing that was there is written. No conditions. (Written by wip/tools/ch7_laws.py.)
-/
import Derived.Test.YtgkdelpebfgfmaaHelpP
import Derived.Test.YtgkdelpebfgfmaaDrawV
import Derived.Deep.RegionHeld3
namespace Go.Proofs.Ytgkdelpebfgfmaa
open Go.RowKit

set_option maxRecDepth 4000 in
set_option maxHeartbeats 8000000 in
theorem walkFnPieceHas (a : Option Addr) (len cap : Nat) (zs : List Int) (w : World) (h : IsRowK .u8 w a len cap zs) :
    Calls Try.prog 6 #[.slice a len cap] w fun e w' => e = .returned (.bool true) ∧ Below w.heap.size w w' := by
  go_enter Try.func6, Try.ntmps6
  go_wp2_with fail
  refine (DrawPieceHas_any _ _ _ _ _ h).mono ?_
  rintro e w0 ⟨x, y, z, i, j, k, b1, b2, rfl, BB⟩
  clear h
  obtain ⟨r, hr⟩ := some_bool7 (hasP (x, y, z) i j k)
  have c1 := fun w => implHas_is r x y z i j k w hr (by omega) (by omega) (by omega) (by omega) (by omega)
  have c2 := fun w => specHas_is r x y z i j k w hr (by omega) (by omega) (by omega) (by omega) (by omega)
  have t1 : (r == r) = true := beq_self_eq_true _
  have t2 : ¬ x < 0 := by omega
  have t3 : ¬ y < 0 := by omega
  have t4 : decide (x < 0) = false := decide_eq_false t2
  have t5 : decide (y < 0) = false := decide_eq_false t3
  have v1 : IntKind.i64.wrap (i + 1) = i + 1 := IntWalk.i64_in _ (by omega)
  have v2 : IntKind.i64.wrap (j + 1) = j + 1 := IntWalk.i64_in _ (by omega)
  have v3 : IntKind.i64.wrap (k - 1) = k - 1 := IntWalk.i64_in _ (by omega)
  have c5 := fun w (hz : 1 ≤ z) => implHas_is true x y z x y z w ⟨fun _ => by simp only [hasP]; omega, fun _ => rfl⟩ (by omega) (by omega) (by omega) (by omega) (by omega)
  have hq : r = true → (0 ≤ x ∧ 0 ≤ y ∧ 0 ≤ z ∧ 0 ≤ i ∧ 0 ≤ j) ∧ 1 ≤ k ∧ x ≤ i ∧ i - x ≤ z ∧ k ≤ z - (i - x) ∧ j - y = i - x ∧ y ≤ j := fun e => hr.1 e
  clear hr
  by_cases hz : 1 ≤ z
  · have d1 : decide (z < 1) = false := decide_eq_false (by omega)
    have d2 : ¬ z < 1 := by omega
    cases r with
    | false =>
      clear hq
      have ha := (Below.refl w0.heap.size w0).alloc (Nat.le_refl _) (.cells #[.int .i64 x, .int .i64 y, .int .i64 z] 29)
      have S3 := Side.fresh (w := w0) (B := w.heap.size) (v := (.slice none 0 0)) 29 [.int .i64 x, .int .i64 y, .int .i64 z] BB.size (by intro k hk; simp [Value.ownBlock] at hk)
      replace BB := BB.trans (ha.mono BB.size)
      clear ha
      have kS30 := S3.cell 0 _ rfl
      have kS31 := S3.cell 1 _ rfl
      have kS32 := S3.cell 2 _ rfl
      go_wp2_with fail
      refine (c1 _).mono ?_
      rintro e w1 ⟨rfl, hb⟩
      clear kS30 kS31 kS32
      replace S3 := S3.later hb
      replace BB := BB.trans (hb.mono BB.size)
      clear hb
      obtain ⟨g3, hg3⟩ : ∃ g, w0.heap.size = g := ⟨_, rfl⟩
      rw [hg3]
      replace S3 : Side w1 w.heap.size (.slice none 0 0) 29 g3 [.int .i64 x, .int .i64 y, .int .i64 z] := hg3 ▸ S3
      clear hg3
      have kS30 := S3.cell 0 _ rfl
      have kS31 := S3.cell 1 _ rfl
      have kS32 := S3.cell 2 _ rfl
      go_wp2_with fail
      refine (c2 _).mono ?_
      rintro e w2 ⟨rfl, hb⟩
      clear kS30 kS31 kS32
      replace S3 := S3.later hb
      replace BB := BB.trans (hb.mono BB.size)
      clear hb
      have kS30 := S3.cell 0 _ rfl
      have kS31 := S3.cell 1 _ rfl
      have kS32 := S3.cell 2 _ rfl
      go_wp2_with fail
      refine (c5 _ hz).mono ?_
      rintro e w3 ⟨rfl, hb⟩
      clear kS30 kS31 kS32
      replace S3 := S3.later hb
      replace BB := BB.trans (hb.mono BB.size)
      clear hb
      have kS30 := S3.cell 0 _ rfl
      have kS31 := S3.cell 1 _ rfl
      have kS32 := S3.cell 2 _ rfl
      go_wp2_with fail
      refine (alive_any _).mono ?_
      rintro e wq ⟨rfl, rfl⟩
      clear kS30 kS31 kS32
      have kS30 := S3.cell 0 _ rfl
      have kS31 := S3.cell 1 _ rfl
      have kS32 := S3.cell 2 _ rfl
      go_wp2
      go_ret
      exact ⟨rfl, BB⟩
    | true =>
      have hp := hq rfl
      clear hq
      by_cases hk : k = 1
      · have hk1 : (k == 1) = true := by simpa using hk
        clear hk hp v3
        have ha := (Below.refl w0.heap.size w0).alloc (Nat.le_refl _) (.cells #[.int .i64 x, .int .i64 y, .int .i64 z] 29)
        have S3 := Side.fresh (w := w0) (B := w.heap.size) (v := (.slice none 0 0)) 29 [.int .i64 x, .int .i64 y, .int .i64 z] BB.size (by intro k hk; simp [Value.ownBlock] at hk)
        replace BB := BB.trans (ha.mono BB.size)
        clear ha
        have kS30 := S3.cell 0 _ rfl
        have kS31 := S3.cell 1 _ rfl
        have kS32 := S3.cell 2 _ rfl
        go_wp2_with fail
        refine (c1 _).mono ?_
        rintro e w1 ⟨rfl, hb⟩
        clear kS30 kS31 kS32
        replace S3 := S3.later hb
        replace BB := BB.trans (hb.mono BB.size)
        clear hb
        obtain ⟨g3, hg3⟩ : ∃ g, w0.heap.size = g := ⟨_, rfl⟩
        rw [hg3]
        replace S3 : Side w1 w.heap.size (.slice none 0 0) 29 g3 [.int .i64 x, .int .i64 y, .int .i64 z] := hg3 ▸ S3
        clear hg3
        have kS30 := S3.cell 0 _ rfl
        have kS31 := S3.cell 1 _ rfl
        have kS32 := S3.cell 2 _ rfl
        go_wp2_with fail
        refine (c2 _).mono ?_
        rintro e w2 ⟨rfl, hb⟩
        clear kS30 kS31 kS32
        replace S3 := S3.later hb
        replace BB := BB.trans (hb.mono BB.size)
        clear hb
        have kS30 := S3.cell 0 _ rfl
        have kS31 := S3.cell 1 _ rfl
        have kS32 := S3.cell 2 _ rfl
        go_wp2_with fail
        refine (c5 _ hz).mono ?_
        rintro e w3 ⟨rfl, hb⟩
        clear kS30 kS31 kS32
        replace S3 := S3.later hb
        replace BB := BB.trans (hb.mono BB.size)
        clear hb
        have kS30 := S3.cell 0 _ rfl
        have kS31 := S3.cell 1 _ rfl
        have kS32 := S3.cell 2 _ rfl
        go_wp2_with fail
        refine (alive_any _).mono ?_
        rintro e wq ⟨rfl, rfl⟩
        clear kS30 kS31 kS32
        have kS30 := S3.cell 0 _ rfl
        have kS31 := S3.cell 1 _ rfl
        have kS32 := S3.cell 2 _ rfl
        go_wp2
        go_ret
        exact ⟨rfl, BB⟩
      · have hk1 : (k == 1) = false := beq_eq_false_iff_ne.2 hk
        have c3 := fun w => implHas_is true x y z (i + 1) (j + 1) (k - 1) w ⟨fun _ => by simp only [hasP]; omega, fun _ => rfl⟩ (by omega) (by omega) (by omega) (by omega) (by omega)
        have c4 := fun w => implHas_is true x y z i j (k - 1) w ⟨fun _ => by simp only [hasP]; omega, fun _ => rfl⟩ (by omega) (by omega) (by omega) (by omega) (by omega)
        clear hp hk
        have ha := (Below.refl w0.heap.size w0).alloc (Nat.le_refl _) (.cells #[.int .i64 x, .int .i64 y, .int .i64 z] 29)
        have S3 := Side.fresh (w := w0) (B := w.heap.size) (v := (.slice none 0 0)) 29 [.int .i64 x, .int .i64 y, .int .i64 z] BB.size (by intro k hk; simp [Value.ownBlock] at hk)
        replace BB := BB.trans (ha.mono BB.size)
        clear ha
        have kS30 := S3.cell 0 _ rfl
        have kS31 := S3.cell 1 _ rfl
        have kS32 := S3.cell 2 _ rfl
        go_wp2_with fail
        refine (c1 _).mono ?_
        rintro e w1 ⟨rfl, hb⟩
        clear kS30 kS31 kS32
        replace S3 := S3.later hb
        replace BB := BB.trans (hb.mono BB.size)
        clear hb
        obtain ⟨g3, hg3⟩ : ∃ g, w0.heap.size = g := ⟨_, rfl⟩
        rw [hg3]
        replace S3 : Side w1 w.heap.size (.slice none 0 0) 29 g3 [.int .i64 x, .int .i64 y, .int .i64 z] := hg3 ▸ S3
        clear hg3
        have kS30 := S3.cell 0 _ rfl
        have kS31 := S3.cell 1 _ rfl
        have kS32 := S3.cell 2 _ rfl
        go_wp2_with fail
        refine (c2 _).mono ?_
        rintro e w2 ⟨rfl, hb⟩
        clear kS30 kS31 kS32
        replace S3 := S3.later hb
        replace BB := BB.trans (hb.mono BB.size)
        clear hb
        have kS30 := S3.cell 0 _ rfl
        have kS31 := S3.cell 1 _ rfl
        have kS32 := S3.cell 2 _ rfl
        go_wp2_with fail
        refine (c3 _).mono ?_
        rintro e w3 ⟨rfl, hb⟩
        clear kS30 kS31 kS32
        replace S3 := S3.later hb
        replace BB := BB.trans (hb.mono BB.size)
        clear hb
        have kS30 := S3.cell 0 _ rfl
        have kS31 := S3.cell 1 _ rfl
        have kS32 := S3.cell 2 _ rfl
        go_wp2_with fail
        refine (c4 _).mono ?_
        rintro e w4 ⟨rfl, hb⟩
        clear kS30 kS31 kS32
        replace S3 := S3.later hb
        replace BB := BB.trans (hb.mono BB.size)
        clear hb
        have kS30 := S3.cell 0 _ rfl
        have kS31 := S3.cell 1 _ rfl
        have kS32 := S3.cell 2 _ rfl
        go_wp2_with fail
        refine (c5 _ hz).mono ?_
        rintro e w5 ⟨rfl, hb⟩
        clear kS30 kS31 kS32
        replace S3 := S3.later hb
        replace BB := BB.trans (hb.mono BB.size)
        clear hb
        have kS30 := S3.cell 0 _ rfl
        have kS31 := S3.cell 1 _ rfl
        have kS32 := S3.cell 2 _ rfl
        go_wp2_with fail
        refine (alive_any _).mono ?_
        rintro e wq ⟨rfl, rfl⟩
        clear kS30 kS31 kS32
        have kS30 := S3.cell 0 _ rfl
        have kS31 := S3.cell 1 _ rfl
        have kS32 := S3.cell 2 _ rfl
        go_wp2
        go_ret
        exact ⟨rfl, BB⟩
  · have d1 : decide (z < 1) = true := decide_eq_true (by omega)
    have d2 : z < 1 := by omega
    cases r with
    | false =>
      clear hq
      have ha := (Below.refl w0.heap.size w0).alloc (Nat.le_refl _) (.cells #[.int .i64 x, .int .i64 y, .int .i64 z] 29)
      have S3 := Side.fresh (w := w0) (B := w.heap.size) (v := (.slice none 0 0)) 29 [.int .i64 x, .int .i64 y, .int .i64 z] BB.size (by intro k hk; simp [Value.ownBlock] at hk)
      replace BB := BB.trans (ha.mono BB.size)
      clear ha
      have kS30 := S3.cell 0 _ rfl
      have kS31 := S3.cell 1 _ rfl
      have kS32 := S3.cell 2 _ rfl
      go_wp2_with fail
      refine (c1 _).mono ?_
      rintro e w1 ⟨rfl, hb⟩
      clear kS30 kS31 kS32
      replace S3 := S3.later hb
      replace BB := BB.trans (hb.mono BB.size)
      clear hb
      obtain ⟨g3, hg3⟩ : ∃ g, w0.heap.size = g := ⟨_, rfl⟩
      rw [hg3]
      replace S3 : Side w1 w.heap.size (.slice none 0 0) 29 g3 [.int .i64 x, .int .i64 y, .int .i64 z] := hg3 ▸ S3
      clear hg3
      have kS30 := S3.cell 0 _ rfl
      have kS31 := S3.cell 1 _ rfl
      have kS32 := S3.cell 2 _ rfl
      go_wp2_with fail
      refine (c2 _).mono ?_
      rintro e w2 ⟨rfl, hb⟩
      clear kS30 kS31 kS32
      replace S3 := S3.later hb
      replace BB := BB.trans (hb.mono BB.size)
      clear hb
      have kS30 := S3.cell 0 _ rfl
      have kS31 := S3.cell 1 _ rfl
      have kS32 := S3.cell 2 _ rfl
      go_wp2_with fail
      refine (alive_any _).mono ?_
      rintro e wq ⟨rfl, rfl⟩
      clear kS30 kS31 kS32
      have kS30 := S3.cell 0 _ rfl
      have kS31 := S3.cell 1 _ rfl
      have kS32 := S3.cell 2 _ rfl
      go_wp2
      go_ret
      exact ⟨rfl, BB⟩
    | true =>
      have hp := hq rfl
      clear hq
      by_cases hk : k = 1
      · have hk1 : (k == 1) = true := by simpa using hk
        clear hk hp v3
        have ha := (Below.refl w0.heap.size w0).alloc (Nat.le_refl _) (.cells #[.int .i64 x, .int .i64 y, .int .i64 z] 29)
        have S3 := Side.fresh (w := w0) (B := w.heap.size) (v := (.slice none 0 0)) 29 [.int .i64 x, .int .i64 y, .int .i64 z] BB.size (by intro k hk; simp [Value.ownBlock] at hk)
        replace BB := BB.trans (ha.mono BB.size)
        clear ha
        have kS30 := S3.cell 0 _ rfl
        have kS31 := S3.cell 1 _ rfl
        have kS32 := S3.cell 2 _ rfl
        go_wp2_with fail
        refine (c1 _).mono ?_
        rintro e w1 ⟨rfl, hb⟩
        clear kS30 kS31 kS32
        replace S3 := S3.later hb
        replace BB := BB.trans (hb.mono BB.size)
        clear hb
        obtain ⟨g3, hg3⟩ : ∃ g, w0.heap.size = g := ⟨_, rfl⟩
        rw [hg3]
        replace S3 : Side w1 w.heap.size (.slice none 0 0) 29 g3 [.int .i64 x, .int .i64 y, .int .i64 z] := hg3 ▸ S3
        clear hg3
        have kS30 := S3.cell 0 _ rfl
        have kS31 := S3.cell 1 _ rfl
        have kS32 := S3.cell 2 _ rfl
        go_wp2_with fail
        refine (c2 _).mono ?_
        rintro e w2 ⟨rfl, hb⟩
        clear kS30 kS31 kS32
        replace S3 := S3.later hb
        replace BB := BB.trans (hb.mono BB.size)
        clear hb
        have kS30 := S3.cell 0 _ rfl
        have kS31 := S3.cell 1 _ rfl
        have kS32 := S3.cell 2 _ rfl
        go_wp2_with fail
        refine (alive_any _).mono ?_
        rintro e wq ⟨rfl, rfl⟩
        clear kS30 kS31 kS32
        have kS30 := S3.cell 0 _ rfl
        have kS31 := S3.cell 1 _ rfl
        have kS32 := S3.cell 2 _ rfl
        go_wp2
        go_ret
        exact ⟨rfl, BB⟩
      · have hk1 : (k == 1) = false := beq_eq_false_iff_ne.2 hk
        have c3 := fun w => implHas_is true x y z (i + 1) (j + 1) (k - 1) w ⟨fun _ => by simp only [hasP]; omega, fun _ => rfl⟩ (by omega) (by omega) (by omega) (by omega) (by omega)
        have c4 := fun w => implHas_is true x y z i j (k - 1) w ⟨fun _ => by simp only [hasP]; omega, fun _ => rfl⟩ (by omega) (by omega) (by omega) (by omega) (by omega)
        clear hp hk
        have ha := (Below.refl w0.heap.size w0).alloc (Nat.le_refl _) (.cells #[.int .i64 x, .int .i64 y, .int .i64 z] 29)
        have S3 := Side.fresh (w := w0) (B := w.heap.size) (v := (.slice none 0 0)) 29 [.int .i64 x, .int .i64 y, .int .i64 z] BB.size (by intro k hk; simp [Value.ownBlock] at hk)
        replace BB := BB.trans (ha.mono BB.size)
        clear ha
        have kS30 := S3.cell 0 _ rfl
        have kS31 := S3.cell 1 _ rfl
        have kS32 := S3.cell 2 _ rfl
        go_wp2_with fail
        refine (c1 _).mono ?_
        rintro e w1 ⟨rfl, hb⟩
        clear kS30 kS31 kS32
        replace S3 := S3.later hb
        replace BB := BB.trans (hb.mono BB.size)
        clear hb
        obtain ⟨g3, hg3⟩ : ∃ g, w0.heap.size = g := ⟨_, rfl⟩
        rw [hg3]
        replace S3 : Side w1 w.heap.size (.slice none 0 0) 29 g3 [.int .i64 x, .int .i64 y, .int .i64 z] := hg3 ▸ S3
        clear hg3
        have kS30 := S3.cell 0 _ rfl
        have kS31 := S3.cell 1 _ rfl
        have kS32 := S3.cell 2 _ rfl
        go_wp2_with fail
        refine (c2 _).mono ?_
        rintro e w2 ⟨rfl, hb⟩
        clear kS30 kS31 kS32
        replace S3 := S3.later hb
        replace BB := BB.trans (hb.mono BB.size)
        clear hb
        have kS30 := S3.cell 0 _ rfl
        have kS31 := S3.cell 1 _ rfl
        have kS32 := S3.cell 2 _ rfl
        go_wp2_with fail
        refine (c3 _).mono ?_
        rintro e w3 ⟨rfl, hb⟩
        clear kS30 kS31 kS32
        replace S3 := S3.later hb
        replace BB := BB.trans (hb.mono BB.size)
        clear hb
        have kS30 := S3.cell 0 _ rfl
        have kS31 := S3.cell 1 _ rfl
        have kS32 := S3.cell 2 _ rfl
        go_wp2_with fail
        refine (c4 _).mono ?_
        rintro e w4 ⟨rfl, hb⟩
        clear kS30 kS31 kS32
        replace S3 := S3.later hb
        replace BB := BB.trans (hb.mono BB.size)
        clear hb
        have kS30 := S3.cell 0 _ rfl
        have kS31 := S3.cell 1 _ rfl
        have kS32 := S3.cell 2 _ rfl
        go_wp2_with fail
        refine (alive_any _).mono ?_
        rintro e wq ⟨rfl, rfl⟩
        clear kS30 kS31 kS32
        have kS30 := S3.cell 0 _ rfl
        have kS31 := S3.cell 1 _ rfl
        have kS32 := S3.cell 2 _ rfl
        go_wp2
        go_ret
        exact ⟨rfl, BB⟩

set_option maxRecDepth 4000 in
set_option maxHeartbeats 8000000 in
theorem walkFnLongestPiece (a : Option Addr) (len cap : Nat) (zs : List Int) (w : World) (h : IsRowK .u8 w a len cap zs) :
    Calls Try.prog 7 #[.slice a len cap] w fun e w' => e = .returned (.bool true) ∧ Below w.heap.size w w' := by
  by_cases hs : 1048576 < len
  · have h2 : (1048576 : Int) < (len : Int) := by omega
    go_enter Try.func7, Try.ntmps7
    go_wp2
    go_ret
    exact ⟨rfl, Below.refl _ _⟩
  go_enter Try.func7, Try.ntmps7
  go_wp2_with fail
  refine (DrawLongestPiece_any _ _ _ _ _ h).mono ?_
  rintro e w0 ⟨t, u, ht, hu, rfl, BB⟩
  clear h
  clear hs
  obtain ⟨⟨x, y, z⟩, hR⟩ : ∃ R, longT t u = R := ⟨_, rfl⟩
  obtain ⟨⟨x', y', z'⟩, hR'⟩ : ∃ R, longT u t = R := ⟨_, rfl⟩
  obtain ⟨⟨x2, y2, z2⟩, hR2⟩ : ∃ R, longT t t = R := ⟨_, rfl⟩
  have e1 := longT_turn t u
  have e2 := longT_self t
  have e3 := longT_none t u
  have e4 := longT_ok t u
  have e5 := longT_nonneg t u
  rw [hR] at e1 e3 e4 e5
  rw [hR'] at e1
  rw [hR2] at e2
  obtain rfl : z' = z := e1
  obtain rfl : z2 = t.size := e2
  have hz9 : z' ≤ 14 := by
    rcases e4 with h | h
    · have h : z' = 0 := h
      omega
    · rw [okP_iff] at h
      omega
  have hz0 : 0 ≤ z' := e5
  have c1 := fun w => implLongest_any t u x y z' w hR (by omega) (by omega)
  have c2 := fun w => specLongest_any t u x y z' w hR (by omega) (by omega)
  have c3 := fun w => implLongest_any u t x' y' z' w hR' (by omega) (by omega)
  have c4 := fun w => implPcs_w t u (z' + 1) [] w e3 (by omega) (by omega) (by omega)
  have c6 := fun w => implLongest_any t t x2 y2 t.size w hR2 (by omega) (by omega)
  have v1 : IntKind.i64.wrap (z' + 1) = z' + 1 := IntWalk.i64_in _ (by omega)
  have HZ : Hid (z' = 0 ∨ okP t u (x, y, z')) := Lib.hid e4
  have tx : (x == x) = true := beq_self_eq_true _
  have ty : (y == y) = true := beq_self_eq_true _
  have tz : (z' == z') = true := beq_self_eq_true _
  have hf1 : ∀ w : World, (Instr.field 29 (.agg #[.int .i64 x', .int .i64 y', .int .i64 z']) 2).run Try.prog w = .ok (.int .i64 z') w := fun _ => by kernel_rfl
  have hf2 : ∀ w : World, (Instr.field 29 (.agg #[.int .i64 x2, .int .i64 y2, .int .i64 (t.size : Int)]) 2).run Try.prog w = .ok (.int .i64 (t.size : Int)) w := fun _ => by kernel_rfl
  clear hR hR' hR2 e3 e4 e5
  go_wp2_with fail
  refine (c1 _).mono ?_
  rintro e w1 ⟨rfl, hb⟩
  replace BB := BB.trans (hb.mono BB.size)
  clear hb
  have ha := (Below.refl w1.heap.size w1).alloc (Nat.le_refl _) (.cells #[.int .i64 x, .int .i64 y, .int .i64 z'] 29)
  have S5 := Side.fresh (w := w1) (B := w.heap.size) (v := (.slice none 0 0)) 29 [.int .i64 x, .int .i64 y, .int .i64 z'] BB.size (by intro k hk; simp [Value.ownBlock] at hk)
  replace BB := BB.trans (ha.mono BB.size)
  clear ha
  have kS50 := S5.cell 0 _ rfl
  have kS51 := S5.cell 1 _ rfl
  have kS52 := S5.cell 2 _ rfl
  go_wp2
  clear kS50 kS51 kS52
  obtain ⟨w2, hw2⟩ : ∃ w9, w1.alloc (.cells #[.int .i64 x, .int .i64 y, .int .i64 z'] 29) = w9 := ⟨_, rfl⟩
  obtain ⟨g5, hg5⟩ : ∃ g, w1.heap.size = g := ⟨_, rfl⟩
  rw [hw2] at S5 BB
  rw [hg5] at S5
  rw [hw2, hg5]
  clear hw2 hg5
  have HS := Lib.hid S5
  have HB := Lib.hid BB
  have HKS := Lib.hid (show ∀ w', Below w2.heap.size w2 w' → w'.cell? ⟨g5, 0, none⟩ = some (.int .i64 x) ∧ w'.cell? ⟨g5, 1, none⟩ = some (.int .i64 y) ∧ w'.cell? ⟨g5, 2, none⟩ = some (.int .i64 z') from fun w' h => ⟨(HS.out.later h).cell 0 _ rfl, (HS.out.later h).cell 1 _ rfl, (HS.out.later h).cell 2 _ rfl⟩)
  clear S5 BB
  obtain ⟨k1, k2, k3⟩ := HKS.out _ (Below.refl _ _)
  go_region_held3 (fun w' => w'.cell? ⟨g5, 0, none⟩ = some (.int .i64 x) ∧ w'.cell? ⟨g5, 1, none⟩ = some (.int .i64 y) ∧ w'.cell? ⟨g5, 2, none⟩ = some (.int .i64 z')) (first | go_keep | exact HKS.out _ hc5 | exact HKS.out _ hc6)
    ((first
      | (go_at_call 26; refine (c2 _).mono ?_; rintro e w5 ⟨rfl, hb5⟩; have hc5 : Below w2.heap.size w2 w5 := Below.trans (by repeat (first | exact Below.refl _ _ | refine Below.drew ?_ | refine below_drewN' ?_ _)) (hb5.mono (by simp)))
      | (go_at_call 25; refine (c3 _).mono ?_; rintro e w6 ⟨rfl, hb6⟩; have hc6 : Below w2.heap.size w2 w6 := hc5.trans (hb6.mono (by first | exact hc5.size | simpa using hc5.size)))))
  have S5 := HS.out.later hc6
  have BB := HB.out.trans (hc6.mono HB.out.size)
  clear hc5 hc6 hb5 hb6 HKS k1 k2 k3 HS HB c1 c2 c3
  have kS50 := S5.cell 0 _ rfl
  have kS51 := S5.cell 1 _ rfl
  have kS52 := S5.cell 2 _ rfl
  go_wp2_with fail
  refine (c4 _).mono ?_
  rintro e w7 ⟨a3, m3, c3, rfl, E3, hb⟩
  clear kS50 kS51 kS52
  replace S5 := S5.later hb
  replace BB := BB.trans (hb.mono BB.size)
  clear hb
  have hm3 : m3 = 0 := E3.len
  subst hm3
  clear E3 c4
  rcases HZ.out with hz | hok
  · subst hz
    clear HZ
    have kS50 := S5.cell 0 _ rfl
    have kS51 := S5.cell 1 _ rfl
    have kS52 := S5.cell 2 _ rfl
    go_wp2_with fail
    refine (c6 _).mono ?_
    rintro e w8 ⟨rfl, hb⟩
    clear kS50 kS51 kS52
    replace S5 := S5.later hb
    replace BB := BB.trans (hb.mono BB.size)
    clear hb
    have kS50 := S5.cell 0 _ rfl
    have kS51 := S5.cell 1 _ rfl
    have kS52 := S5.cell 2 _ rfl
    go_wp2_with fail
    refine (alive_any _).mono ?_
    rintro e wq ⟨rfl, rfl⟩
    clear kS50 kS51 kS52
    have kS50 := S5.cell 0 _ rfl
    have kS51 := S5.cell 1 _ rfl
    have kS52 := S5.cell 2 _ rfl
    go_wp2
    go_ret
    exact ⟨rfl, BB⟩
  · have hz1 : (z' == 0) = false := by
      rw [okP_iff] at hok
      exact beq_eq_false_iff_ne.2 (by omega)
    have c5 := fun w => implPieceOk_is true t u x y z' w ⟨fun _ => hok, fun _ => rfl⟩ (by rw [okP_iff] at hok; omega) (by rw [okP_iff] at hok; omega) (by omega) (by omega)
    clear hok HZ
    have kS50 := S5.cell 0 _ rfl
    have kS51 := S5.cell 1 _ rfl
    have kS52 := S5.cell 2 _ rfl
    go_wp2_with fail
    refine (c5 _).mono ?_
    rintro e w8 ⟨rfl, hb⟩
    clear kS50 kS51 kS52
    replace S5 := S5.later hb
    replace BB := BB.trans (hb.mono BB.size)
    clear hb
    have kS50 := S5.cell 0 _ rfl
    have kS51 := S5.cell 1 _ rfl
    have kS52 := S5.cell 2 _ rfl
    go_wp2_with fail
    refine (c6 _).mono ?_
    rintro e w9 ⟨rfl, hb⟩
    clear kS50 kS51 kS52
    replace S5 := S5.later hb
    replace BB := BB.trans (hb.mono BB.size)
    clear hb
    have kS50 := S5.cell 0 _ rfl
    have kS51 := S5.cell 1 _ rfl
    have kS52 := S5.cell 2 _ rfl
    go_wp2_with fail
    refine (alive_any _).mono ?_
    rintro e wq ⟨rfl, rfl⟩
    clear kS50 kS51 kS52
    have kS50 := S5.cell 0 _ rfl
    have kS51 := S5.cell 1 _ rfl
    have kS52 := S5.cell 2 _ rfl
    go_wp2
    go_ret
    exact ⟨rfl, BB⟩

end Go.Proofs.Ytgkdelpebfgfmaa
