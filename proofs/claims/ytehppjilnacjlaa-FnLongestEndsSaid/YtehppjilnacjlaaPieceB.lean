/-
  The contracts of the program's functions equalAtBegin, equalAtEnd, GrowPiece and pieceFrom. Condition: texts have at most 2^22 bytes.
-/
import Derived.Test.YtehppjilnacjlaaPieceA
import Derived.Test.YtehppjilnacjlaaPieceG
import Derived.Deep.RegionHeld3
namespace Go.Proofs.Ytehppjilnacjlaa
open Go.RowKit

set_option maxHeartbeats 4000000 in
theorem implBegin_any (s t : ByteArray) (w : World) (hs : s.size ≤ 4194304) :
    Calls Try.prog 58 #[.string s, .string t] w fun e w' => e = .returned (.int .i64 ((runP s t 0 0 : Nat) : Int)) ∧ ∃ q, w' = w.drewN q := by
  go_enter Try.func58, Try.ntmps58
  go_wp2
  go_loopw [5] (fun n_ wr => ∃ k : Nat, k ≤ runP s t 0 0 ∧ n_ = .int .i64 (k : Int) ∧ Hid (∃ q, wr = w.drewN q)) (fun n_ _ => s.size - (intOf n_).toNat)
  case atStart => exact ⟨0, Nat.zero_le _, rfl, Lib.hid ⟨0, rfl⟩⟩
  case round =>
    obtain ⟨k, hk, rfl, HQ⟩ := hrel
    have hroom := runP_room s t 0 0 (Nat.zero_le _) (Nat.zero_le _)
    have htest := run_test hk
    rw [Nat.zero_add] at htest
    have HNX := Lib.hid (show ∀ u, ∃ q, wr.drewN u = w.drewN q from fun u => by
      obtain ⟨q, rfl⟩ := HQ.out
      exact ⟨q + u, by rw [World.drewN_drewN]⟩)
    have z0 : (0 : Int) ≤ (k : Int) := by omega
    by_cases hlt : k < runP s t 0 0
    · have h3 := htest.2 hlt
      have hp := h3.1
      have hq := h3.2.1
      obtain ⟨_, tb, _⟩ := is_sm h3 hp hq
      have z1 : (k : Int) < (s.size : Int) := by omega
      have z2 : (k : Int) < (t.size : Int) := by omega
      have x1 : decide (k < s.size) = true := decide_eq_true hp
      have x2 : decide (k < t.size) = true := decide_eq_true hq
      have x3 : decide ((k : Int) < (s.size : Int)) = true := decide_eq_true z1
      have x4 : decide ((k : Int) < (t.size : Int)) = true := decide_eq_true z2
      have HLT := Lib.hid hlt
      clear h3 htest hroom hlt hk
      go_wp2
      go_quiet (fail)
      go_wp2
      go_roundw
      case rel => exact ⟨k + 1, HLT.out, by go_num, HNX.out _⟩
      case measure => simp [intOf]; omega
    · have hno : ¬ sm s t k k := fun e => hlt (htest.1 e)
      have HE := Lib.hid (show runP s t 0 0 = k by omega)
      clear htest
      by_cases hm : k < s.size
      · have z1 : (k : Int) < (s.size : Int) := by omega
        have x1 : decide (k < s.size) = true := decide_eq_true hm
        have x3 : decide ((k : Int) < (s.size : Int)) = true := decide_eq_true z1
        by_cases hn : k < t.size
        · obtain ⟨tb, _⟩ := not_sm hno hm hn
          have z2 : (k : Int) < (t.size : Int) := by omega
          have x2 : decide (k < t.size) = true := decide_eq_true hn
          have x4 : decide ((k : Int) < (t.size : Int)) = true := decide_eq_true z2
          clear hno hroom hlt hk
          go_wp2
          go_quiet (fail)
          go_wp2
          go_ret
          exact ⟨by rw [HE.out]; rfl, HNX.out _⟩
        · have z2 : ¬ (k : Int) < (t.size : Int) := by omega
          have x2 : decide (k < t.size) = false := decide_eq_false hn
          have x4 : decide ((k : Int) < (t.size : Int)) = false := decide_eq_false z2
          clear hno hroom hlt hk
          go_wp2
          go_quiet (fail)
          go_wp2
          go_ret
          exact ⟨by rw [HE.out]; rfl, HNX.out _⟩
      · have z1 : ¬ (k : Int) < (s.size : Int) := by omega
        have x1 : decide (k < s.size) = false := decide_eq_false hm
        have x3 : decide ((k : Int) < (s.size : Int)) = false := decide_eq_false z1
        clear hno hroom hlt hk
        go_wp2
        go_quiet (fail)
        go_wp2
        go_ret
        exact ⟨by rw [HE.out]; rfl, HNX.out _⟩



set_option maxRecDepth 4000 in
set_option maxHeartbeats 8000000 in
theorem implFrom_any (s t : ByteArray) (i j : Nat) (x y z : Int) (w : World) (h : fromP s t i j = (x, y, z)) (hi : i ≤ s.size) (hj : j ≤ t.size) (hs : s.size ≤ 4194304) (ht : t.size ≤ 4194304) :
    Calls Try.prog 52 #[.string s, .string t, .int .i64 (i : Int), .int .i64 (j : Int)] w fun e w' => e = .returned (.agg #[.int .i64 x, .int .i64 y, .int .i64 z]) ∧ Below w.heap.size w w' := by
  by_cases hin : 0 < i ∧ 0 < j ∧ sm s t (i - 1) (j - 1)
  · rw [fromP_in hin] at h
    simp only [Prod.mk.injEq] at h
    obtain ⟨rfl, rfl, rfl⟩ := h
    obtain ⟨h1, h2, h3⟩ := hin
    obtain ⟨p, rfl⟩ : ∃ p, i = p + 1 := ⟨i - 1, by omega⟩
    obtain ⟨q, rfl⟩ : ∃ p, j = p + 1 := ⟨j - 1, by omega⟩
    rw [Nat.add_sub_cancel, Nat.add_sub_cancel] at h3
    have hp := h3.1
    have hq := h3.2.1
    obtain ⟨_, tb, _⟩ := is_sm h3 hp hq
    have e1 : IntKind.i64.wrap ((p : Int) + 1 - 1) = (p : Int) := by rw [IntWalk.i64_in _ (by omega)]; omega
    have e2 : IntKind.i64.wrap ((q : Int) + 1 - 1) = (q : Int) := by rw [IntWalk.i64_in _ (by omega)]; omega
    have e3 : (p : Int) + 1 - 1 = (p : Int) := by omega
    have e4 : (q : Int) + 1 - 1 = (q : Int) := by omega
    have e5 : IntKind.i64.wrap (p : Int) = (p : Int) := IntWalk.i64_in _ (by omega)
    have e6 : IntKind.i64.wrap (q : Int) = (q : Int) := IntWalk.i64_in _ (by omega)
    have y1 : (0 : Int) < (p : Int) + 1 := by omega
    have y2 : (0 : Int) < (q : Int) + 1 := by omega
    have y3 : (p : Int) < (s.size : Int) := by omega
    have y4 : (q : Int) < (t.size : Int) := by omega
    have y5 : (0 : Int) ≤ (p : Int) := by omega
    have y6 : (0 : Int) ≤ (q : Int) := by omega
    have x1 : decide ((0 : Int) < (p : Int) + 1) = true := decide_eq_true y1
    have x2 : decide ((0 : Int) < (q : Int) + 1) = true := decide_eq_true y2
    clear h3 h1 h2
    go_enter Try.func52, Try.ntmps52
    go_wp2
    go_quiet (fail)
    go_wp2
    refine bodyPost_ret (v := .agg #[.int .i64 0, .int .i64 0, .int .i64 0]) (by simp [results, Try.results52, go_sem]) rfl ⟨rfl, ?_⟩
    exact below_set7 (below_set7 (below_set7 (below_drewN' ((Below.refl _ _).alloc (Nat.le_refl _) _) _) (Nat.le_refl _) _ _) (Nat.le_refl _) _ _) (Nat.le_refl _) _ _
  · rw [fromP_out hin, pieceN] at h
    simp only [Prod.mk.injEq] at h
    obtain ⟨rfl, rfl, hz⟩ := h
    obtain ⟨P2, hP2⟩ : ∃ P, s.extract i s.size = P := ⟨_, rfl⟩
    obtain ⟨Q2, hQ2⟩ : ∃ P, t.extract j t.size = P := ⟨_, rfl⟩
    have s3 : P2.size ≤ 4194304 := by rw [← hP2, ByteArray.size_extract]; omega
    have c3 := fun w => implBegin_any P2 Q2 w s3
    rw [← hP2, ← hQ2, runP_from, hz, hP2, hQ2] at c3
    have sl3 : ∀ w, (Instr.slice 9 (.string s) (some (.int .i64 (i : Int))) none none).run Try.prog w = .ok (.string P2) w := fun w => by
      have h1 := run_slice_string_l (P := Try.prog) w 9 s Try.uls7 .i64 (i : Int) (by omega) (by omega)
      rwa [Int.toNat_natCast, hP2] at h1
    have sl4 : ∀ w, (Instr.slice 9 (.string t) (some (.int .i64 (j : Int))) none none).run Try.prog w = .ok (.string Q2) w := fun w => by
      have h1 := run_slice_string_l (P := Try.prog) w 9 t Try.uls7 .i64 (j : Int) (by omega) (by omega)
      rwa [Int.toNat_natCast, hQ2] at h1
    clear hz hP2 hQ2 s3
    by_cases hi0 : i = 0
    · have y1 : ¬ (0 : Int) < (i : Int) := by omega
      have x1 : decide (0 < i) = false := decide_eq_false (by omega)
      have x2 : decide ((0 : Int) < (i : Int)) = false := decide_eq_false y1
      clear hi0 hin
      go_enter Try.func52, Try.ntmps52
      go_wp2
      go_quiet (fail)
      go_wp2
      have HS := Lib.hid ((Side.fresh (w := w) (B := w.heap.size) (v := .slice none 0 0) 45 [.int .i64 0, .int .i64 0, .int .i64 0] (Nat.le_refl _) (by intro k hk; simp [Value.ownBlock] at hk)).drewN nq)
      have HB := Lib.hid (below_drewN' ((Below.refl w.heap.size w).alloc (Nat.le_refl _) (.cells #[.int .i64 0, .int .i64 0, .int .i64 0] 45)) nq)
      obtain ⟨h8, hh8⟩ : ∃ g, w.heap.size = g := ⟨_, rfl⟩
      have HS := Lib.hid (show Side ((w.alloc (.cells #[.int .i64 0, .int .i64 0, .int .i64 0] 45)).drewN nq) w.heap.size (.slice none 0 0) 45 h8 [.int .i64 0, .int .i64 0, .int .i64 0] from hh8 ▸ HS.out)
      rw [hh8]
      clear hh8
      generalize (w.alloc (.cells #[.int .i64 0, .int .i64 0, .int .i64 0] 45)).drewN nq = w1 at HS HB ⊢
      go_region_held3 (fun _ => True) (trivial)
        ((go_at_call 58; refine (c3 _).mono ?_; rintro e w6 ⟨rfl, q6, hq6⟩; have W6 : Below w1.heap.size w1 w6 := (by rw [hq6]; exact below_drewN' (by repeat (first | exact Below.refl _ _ | refine Below.drew ?_ | refine below_drewN' ?_ _)) _); clear hq6; have HS6 := Lib.hid (HS.out.later W6); have k1 := HS6.out.cell 0 _ rfl; have k2 := HS6.out.cell 1 _ rfl; have k3 := HS6.out.cell 2 _ rfl; have r1 := HS6.out.frozen 0; have r2 := HS6.out.frozen 1; have r3 := HS6.out.frozen 2))
      have HSX := Lib.hid (((HS6.out.set_self 0 (.int .i64 (i : Int))).set_self 1 (.int .i64 (j : Int))).set_self 2 (.int .i64 z))
      have HHB := Lib.hid HS6.out.base
      have B6 := HB.out.trans (W6.mono HB.out.size)
      go_wp2
      have q1 := HSX.out.cell 0 _ rfl
      have q2 := HSX.out.cell 1 _ rfl
      have q3 := HSX.out.cell 2 _ rfl
      refine bodyPost_ret (v := .agg #[.int .i64 (i : Int), .int .i64 (j : Int), .int .i64 z]) (by simp [results, Try.results52, go_sem, q1, q2, q3]) rfl ⟨rfl, ?_⟩
      exact below_set7 (below_set7 (below_set7 B6 HHB.out _ _) HHB.out _ _) HHB.out _ _
    · have y1 : (0 : Int) < (i : Int) := by omega
      have x1 : decide (0 < i) = true := decide_eq_true (by omega)
      have x2 : decide ((0 : Int) < (i : Int)) = true := decide_eq_true y1
      by_cases hj0 : j = 0
      · have y2 : ¬ (0 : Int) < (j : Int) := by omega
        have x3 : decide (0 < j) = false := decide_eq_false (by omega)
        have x4 : decide ((0 : Int) < (j : Int)) = false := decide_eq_false y2
        clear hi0 hj0 hin
        go_enter Try.func52, Try.ntmps52
        go_wp2
        go_quiet (fail)
        go_wp2
        have HS := Lib.hid ((Side.fresh (w := w) (B := w.heap.size) (v := .slice none 0 0) 45 [.int .i64 0, .int .i64 0, .int .i64 0] (Nat.le_refl _) (by intro k hk; simp [Value.ownBlock] at hk)).drewN nq)
        have HB := Lib.hid (below_drewN' ((Below.refl w.heap.size w).alloc (Nat.le_refl _) (.cells #[.int .i64 0, .int .i64 0, .int .i64 0] 45)) nq)
        obtain ⟨h8, hh8⟩ : ∃ g, w.heap.size = g := ⟨_, rfl⟩
        have HS := Lib.hid (show Side ((w.alloc (.cells #[.int .i64 0, .int .i64 0, .int .i64 0] 45)).drewN nq) w.heap.size (.slice none 0 0) 45 h8 [.int .i64 0, .int .i64 0, .int .i64 0] from hh8 ▸ HS.out)
        rw [hh8]
        clear hh8
        generalize (w.alloc (.cells #[.int .i64 0, .int .i64 0, .int .i64 0] 45)).drewN nq = w1 at HS HB ⊢
        go_region_held3 (fun _ => True) (trivial)
          ((go_at_call 58; refine (c3 _).mono ?_; rintro e w6 ⟨rfl, q6, hq6⟩; have W6 : Below w1.heap.size w1 w6 := (by rw [hq6]; exact below_drewN' (by repeat (first | exact Below.refl _ _ | refine Below.drew ?_ | refine below_drewN' ?_ _)) _); clear hq6; have HS6 := Lib.hid (HS.out.later W6); have k1 := HS6.out.cell 0 _ rfl; have k2 := HS6.out.cell 1 _ rfl; have k3 := HS6.out.cell 2 _ rfl; have r1 := HS6.out.frozen 0; have r2 := HS6.out.frozen 1; have r3 := HS6.out.frozen 2))
        have HSX := Lib.hid (((HS6.out.set_self 0 (.int .i64 (i : Int))).set_self 1 (.int .i64 (j : Int))).set_self 2 (.int .i64 z))
        have HHB := Lib.hid HS6.out.base
        have B6 := HB.out.trans (W6.mono HB.out.size)
        go_wp2
        have q1 := HSX.out.cell 0 _ rfl
        have q2 := HSX.out.cell 1 _ rfl
        have q3 := HSX.out.cell 2 _ rfl
        refine bodyPost_ret (v := .agg #[.int .i64 (i : Int), .int .i64 (j : Int), .int .i64 z]) (by simp [results, Try.results52, go_sem, q1, q2, q3]) rfl ⟨rfl, ?_⟩
        exact below_set7 (below_set7 (below_set7 B6 HHB.out _ _) HHB.out _ _) HHB.out _ _
      · have y2 : (0 : Int) < (j : Int) := by omega
        have x3 : decide (0 < j) = true := decide_eq_true (by omega)
        have x4 : decide ((0 : Int) < (j : Int)) = true := decide_eq_true y2
        have hno : ¬ sm s t (i - 1) (j - 1) := fun e => hin ⟨by omega, by omega, e⟩
        obtain ⟨p, hp⟩ : ∃ p, i - 1 = p := ⟨_, rfl⟩
        obtain ⟨q, hq⟩ : ∃ p, j - 1 = p := ⟨_, rfl⟩
        rw [hp, hq] at hno
        have hps : p < s.size := by omega
        have hqs : q < t.size := by omega
        obtain ⟨tb, _⟩ := not_sm hno hps hqs
        have e1 : IntKind.i64.wrap ((i : Int) - 1) = (p : Int) := by rw [IntWalk.i64_in _ (by omega)]; omega
        have e2 : IntKind.i64.wrap ((j : Int) - 1) = (q : Int) := by rw [IntWalk.i64_in _ (by omega)]; omega
        have e3 : (i : Int) - 1 = (p : Int) := by omega
        have e4 : (j : Int) - 1 = (q : Int) := by omega
        have e5 : IntKind.i64.wrap (p : Int) = (p : Int) := IntWalk.i64_in _ (by omega)
        have e6 : IntKind.i64.wrap (q : Int) = (q : Int) := IntWalk.i64_in _ (by omega)
        have y3 : (p : Int) < (s.size : Int) := by omega
        have y4 : (q : Int) < (t.size : Int) := by omega
        have y5 : (0 : Int) ≤ (p : Int) := by omega
        have y6 : (0 : Int) ≤ (q : Int) := by omega
        clear hi0 hj0 hin hno hp hq
        go_enter Try.func52, Try.ntmps52
        go_wp2
        go_quiet (fail)
        go_wp2
        have HS := Lib.hid ((Side.fresh (w := w) (B := w.heap.size) (v := .slice none 0 0) 45 [.int .i64 0, .int .i64 0, .int .i64 0] (Nat.le_refl _) (by intro k hk; simp [Value.ownBlock] at hk)).drewN nq)
        have HB := Lib.hid (below_drewN' ((Below.refl w.heap.size w).alloc (Nat.le_refl _) (.cells #[.int .i64 0, .int .i64 0, .int .i64 0] 45)) nq)
        obtain ⟨h8, hh8⟩ : ∃ g, w.heap.size = g := ⟨_, rfl⟩
        have HS := Lib.hid (show Side ((w.alloc (.cells #[.int .i64 0, .int .i64 0, .int .i64 0] 45)).drewN nq) w.heap.size (.slice none 0 0) 45 h8 [.int .i64 0, .int .i64 0, .int .i64 0] from hh8 ▸ HS.out)
        rw [hh8]
        clear hh8
        generalize (w.alloc (.cells #[.int .i64 0, .int .i64 0, .int .i64 0] 45)).drewN nq = w1 at HS HB ⊢
        go_region_held3 (fun _ => True) (trivial)
          ((go_at_call 58; refine (c3 _).mono ?_; rintro e w6 ⟨rfl, q6, hq6⟩; have W6 : Below w1.heap.size w1 w6 := (by rw [hq6]; exact below_drewN' (by repeat (first | exact Below.refl _ _ | refine Below.drew ?_ | refine below_drewN' ?_ _)) _); clear hq6; have HS6 := Lib.hid (HS.out.later W6); have k1 := HS6.out.cell 0 _ rfl; have k2 := HS6.out.cell 1 _ rfl; have k3 := HS6.out.cell 2 _ rfl; have r1 := HS6.out.frozen 0; have r2 := HS6.out.frozen 1; have r3 := HS6.out.frozen 2))
        have HSX := Lib.hid (((HS6.out.set_self 0 (.int .i64 (i : Int))).set_self 1 (.int .i64 (j : Int))).set_self 2 (.int .i64 z))
        have HHB := Lib.hid HS6.out.base
        have B6 := HB.out.trans (W6.mono HB.out.size)
        go_wp2
        have q1 := HSX.out.cell 0 _ rfl
        have q2 := HSX.out.cell 1 _ rfl
        have q3 := HSX.out.cell 2 _ rfl
        refine bodyPost_ret (v := .agg #[.int .i64 (i : Int), .int .i64 (j : Int), .int .i64 z]) (by simp [results, Try.results52, go_sem, q1, q2, q3]) rfl ⟨rfl, ?_⟩
        exact below_set7 (below_set7 (below_set7 B6 HHB.out _ _) HHB.out _ _) HHB.out _ _

end Go.Proofs.Ytehppjilnacjlaa
