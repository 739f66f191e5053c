/-
  The contracts of the program's functions takeThree, entryBehind and ReadShelf. Condition: the text has at most 2^20 bytes.
-/
import Derived.Test.YtapombdkkcjodaaSixG
import Derived.Test.YtapombdkkcjodaaSixE
namespace Go.Proofs.Ytapombdkkcjodaa
open Go.RowKit

/-- What takeThree tells. -/
def threeT (s : ByteArray) (i : Nat) : Int × Int × Int × Int × Bool :=
  match at3 (bytesN s) i with
  | none => (0, 0, 0, 0, false)
  | some p => (p.1.1, p.1.2.1, p.1.2.2, p.2, true)
/-- What entryBehind tells. -/
def entryI (p d a u v t : Int) : En × Bool :=
  if 1000003 - p ≤ u then ((0, 0, 0), false) else if 0 < u then ((p + u, v, t), true) else if 9223372036854775807 - d < v then ((0, 0, 0), false)
  else if 0 < v then ((p, d + v, t), true) else if 9223372036854775806 - a < t then ((0, 0, 0), false) else ((p, d, a + 1 + t), true)
theorem shOk_snoc {L : List En} {x : En} (h : shOk L) (hb : behind (lastE none L) x) : shOk (L ++ [x]) := by
  have h1 := chainE_ok h
  have h2 : chainE none (L ++ [x]) := chainE_app.2 ⟨h1, hb, trivial⟩
  obtain ⟨h3, h4, _⟩ := chainE_back h2
  exact ⟨h3, h4⟩
/-- The bounds of the entry ahead. -/
theorem ahead_bounds {L : List En} (h : shOk L) (hf : ∀ x ∈ L, fits x) {p d a : Int} (hl : lzI (lastE none L) = (p, d, a)) : 0 ≤ p ∧ p ≤ 1000002 ∧ 0 ≤ d ∧ d ≤ 9223372036854775807 ∧ -1 ≤ a ∧ a ≤ 9223372036854775807 := by
  cases hy : lastE none L with
  | none =>
    rw [hy] at hl
    simp only [lzI, Prod.mk.injEq] at hl
    omega
  | some y =>
    rw [hy] at hl
    simp only [lzI] at hl
    subst hl
    rcases lastE_mem hy with h1 | h1
    · cases h1
    · have h2 := h.1 _ h1
      have h3 := hf _ h1
      simp only [enOk, fits] at h2 h3
      omega
theorem entry_ways {L : List En} (h : shOk L) (hf : ∀ x ∈ L, fits x) {p d a : Int} (hl : lzI (lastE none L) = (p, d, a)) {n0 n1 n2 : Nat} (h0 : n0 < 2 ^ 63) (h1 : n1 < 2 ^ 63) (h2 : n2 < 2 ^ 63) :
    (∃ x, entryI p d a n0 n1 n2 = (x, true) ∧ undifW wrap64 (lastE none L) (n0, n1, n2) = x ∧ shOk (L ++ [x]) ∧ fits x) ∨
    (entryI p d a n0 n1 n2 = ((0, 0, 0), false) ∧ ¬ enOk (undifW wrap64 (lastE none L) (n0, n1, n2))) := by
  obtain ⟨b1, b2, b3, b4, b5, b6⟩ := ahead_bounds h hf hl
  have hkeep := wrap_sums.keeps
  have hbel := wrap_sums.below
  have key : ∀ x : En, entryI p d a n0 n1 n2 = (x, true) → undifW wrap64 (lastE none L) (n0, n1, n2) = x → behind (lastE none L) x → fits x → _ := fun x e1 e2 e3 e4 => Or.inl (b := (entryI p d a n0 n1 n2 = ((0, 0, 0), false) ∧ ¬ enOk (undifW wrap64 (lastE none L) (n0, n1, n2)))) (⟨x, e1, e2, shOk_snoc h e3, e4⟩ : ∃ x, entryI p d a n0 n1 n2 = (x, true) ∧ undifW wrap64 (lastE none L) (n0, n1, n2) = x ∧ shOk (L ++ [x]) ∧ fits x)
  cases hy : lastE none L with
  | none =>
    rw [hy] at hl key
    simp only [lzI, Prod.mk.injEq] at hl
    obtain ⟨rfl, rfl, rfl⟩ := hl
    have hu : undifW wrap64 none (n0, n1, n2) = ((n0 : Int), (n1 : Int), (n2 : Int)) := rfl
    rw [hu] at key ⊢
    by_cases e0 : 1000003 ≤ n0
    · right
      refine ⟨by unfold entryI; rw [if_pos (by omega)], ?_⟩
      simp only [enOk]
      omega
    · refine key _ ?_ rfl ⟨by simp only [enOk]; omega, fun y hy => by cases hy⟩ (by simp only [fits]; omega)
      unfold entryI
      rw [if_neg (by omega)]
      split
      · simp
      · rw [if_neg (by omega)]
        split
        · simp only [Prod.mk.injEq, and_true]; omega
        · rw [if_neg (by omega)]
          simp only [Prod.mk.injEq, and_true]; omega
  | some y =>
    rw [hy] at hl key
    simp only [lzI] at hl
    subst hl
    by_cases e0 : n0 = 0
    · subst e0
      by_cases e1 : n1 = 0
      · subst e1
        have hu : undifW wrap64 (some (p, d, a)) (0, 0, n2) = (p, d, wrap64 (n2 + (a + 1))) := by simp only [undifW, if_true]
        rw [hu] at key ⊢
        by_cases e2 : 9223372036854775806 - a < n2
        · right
          have h3 := hbel (n2 + (a + 1)) (by omega) (by omega)
          refine ⟨by unfold entryI; rw [if_neg (by omega), if_neg (by omega), if_neg (by omega), if_neg (by omega), if_pos e2], ?_⟩
          simp only [enOk]
          omega
        · have h3 := hkeep (n2 + (a + 1)) (by omega) (by omega)
          rw [h3] at key ⊢
          refine key _ ?_ rfl ⟨by simp only [enOk]; omega, fun y hy => by injection hy with hy; subst hy; rw [enLt_iff]; omega⟩ (by simp only [fits]; omega)
          unfold entryI
          rw [if_neg (by omega), if_neg (by omega), if_neg (by omega), if_neg (by omega), if_neg e2]
          simp only [Prod.mk.injEq, and_true, true_and]; omega
      · have hu : undifW wrap64 (some (p, d, a)) (0, n1, n2) = (p, wrap64 (n1 + d), (n2 : Int)) := by simp only [undifW, if_true, if_neg e1]
        rw [hu] at key ⊢
        by_cases e2 : 9223372036854775807 - d < n1
        · right
          have h3 := hbel (n1 + d) (by omega) (by omega)
          refine ⟨by unfold entryI; rw [if_neg (by omega), if_neg (by omega), if_pos e2], ?_⟩
          simp only [enOk]
          omega
        · have h3 := hkeep (n1 + d) (by omega) (by omega)
          rw [h3] at key ⊢
          refine key _ ?_ rfl ⟨by simp only [enOk]; omega, fun y hy => by injection hy with hy; subst hy; rw [enLt_iff]; omega⟩ (by simp only [fits]; omega)
          unfold entryI
          rw [if_neg (by omega), if_neg (by omega), if_neg e2, if_pos (by omega)]
          simp only [Prod.mk.injEq, and_true, true_and]; omega
    · have hu : undifW wrap64 (some (p, d, a)) (n0, n1, n2) = (wrap64 (p + n0), (n1 : Int), (n2 : Int)) := by simp only [undifW, if_neg e0]
      rw [hu] at key ⊢
      by_cases e2 : 1000003 - p ≤ n0
      · right
        refine ⟨by unfold entryI; rw [if_pos e2], ?_⟩
        simp only [enOk]
        rcases Int.lt_or_le (p + n0) (2 ^ 63) with h4 | h4
        · have h3 := hkeep (p + n0) (by omega) h4
          omega
        · have h3 := hbel (p + n0) h4 (by omega)
          omega
      · have h3 := hkeep (p + n0) (by omega) (by omega)
        rw [h3] at key ⊢
        refine key _ ?_ rfl ⟨by simp only [enOk]; omega, fun y hy => by injection hy with hy; subst hy; rw [enLt_iff]; omega⟩ (by simp only [fits]; omega)
        unfold entryI
        rw [if_neg e2, if_pos (by omega)]

set_option maxRecDepth 4000 in
set_option maxHeartbeats 2000000 in
theorem implEntry_any (p d a u v t x y z : Int) (b : Bool) (w : World) (h : entryI p d a u v t = ((x, y, z), b)) (hp : 0 ≤ p ∧ p ≤ 1000002 ∧ 0 ≤ d ∧ d ≤ 9223372036854775807 ∧ -1 ≤ a ∧ a ≤ 9223372036854775807)
    (hu : 0 ≤ u ∧ u ≤ 9223372036854775807) (hv : 0 ≤ v ∧ v ≤ 9223372036854775807) (ht : 0 ≤ t ∧ t ≤ 9223372036854775807) :
    Calls Try.prog 36 #[.agg #[.int .i64 p, .int .i64 d, .int .i64 a], .agg #[.int .i64 u, .int .i64 v, .int .i64 t]] w fun e w' => e = .returned (.tuple #[.agg #[.int .i64 x, .int .i64 y, .int .i64 z], .bool b]) ∧ Below w.heap.size w w' := by
  obtain ⟨p0, p9, d0, d9, a0, a9⟩ := hp
  obtain ⟨u0, u9⟩ := hu
  obtain ⟨v0, v9⟩ := hv
  obtain ⟨t0, t9⟩ := ht
  unfold entryI at h
  by_cases c1 : 1000003 - p ≤ u
  · rw [if_pos c1] at h
    simp only [Prod.mk.injEq] at h
    obtain ⟨⟨rfl, rfl, rfl⟩, rfl⟩ := h
    go_enter Try.func36, Try.ntmps36
    go_wp2
    refine bodyPost_ret (v := .tuple #[.agg #[.int .i64 (0), .int .i64 (0), .int .i64 (0)], .bool false]) (by simp [results, Try.results36, go_sem]) rfl ⟨rfl, ?_⟩
    repeat (first | exact Below.refl _ _ | apply below_drewN' | (refine Below.alloc ?_ (by simp <;> omega) _))
  · rw [if_neg c1] at h
    by_cases c2 : 0 < u
    · rw [if_pos c2] at h
      simp only [Prod.mk.injEq] at h
      obtain ⟨⟨rfl, rfl, rfl⟩, rfl⟩ := h
      go_enter Try.func36, Try.ntmps36
      go_wp2
      refine bodyPost_ret (v := .tuple #[.agg #[.int .i64 (p + u), .int .i64 (v), .int .i64 (t)], .bool true]) (by simp [results, Try.results36, go_sem]) rfl ⟨rfl, ?_⟩
      repeat (first | exact Below.refl _ _ | apply below_drewN' | (refine Below.alloc ?_ (by simp <;> omega) _))
    · rw [if_neg c2] at h
      by_cases c3 : 9223372036854775807 - d < v
      · rw [if_pos c3] at h
        simp only [Prod.mk.injEq] at h
        obtain ⟨⟨rfl, rfl, rfl⟩, rfl⟩ := h
        go_enter Try.func36, Try.ntmps36
        go_wp2
        refine bodyPost_ret (v := .tuple #[.agg #[.int .i64 (0), .int .i64 (0), .int .i64 (0)], .bool false]) (by simp [results, Try.results36, go_sem]) rfl ⟨rfl, ?_⟩
        repeat (first | exact Below.refl _ _ | apply below_drewN' | (refine Below.alloc ?_ (by simp <;> omega) _))
      · rw [if_neg c3] at h
        by_cases c4 : 0 < v
        · rw [if_pos c4] at h
          simp only [Prod.mk.injEq] at h
          obtain ⟨⟨rfl, rfl, rfl⟩, rfl⟩ := h
          go_enter Try.func36, Try.ntmps36
          go_wp2
          refine bodyPost_ret (v := .tuple #[.agg #[.int .i64 (p), .int .i64 (d + v), .int .i64 (t)], .bool true]) (by simp [results, Try.results36, go_sem]) rfl ⟨rfl, ?_⟩
          repeat (first | exact Below.refl _ _ | apply below_drewN' | (refine Below.alloc ?_ (by simp <;> omega) _))
        · rw [if_neg c4] at h
          by_cases c5 : 9223372036854775806 - a < t
          · rw [if_pos c5] at h
            simp only [Prod.mk.injEq] at h
            obtain ⟨⟨rfl, rfl, rfl⟩, rfl⟩ := h
            go_enter Try.func36, Try.ntmps36
            go_wp2
            refine bodyPost_ret (v := .tuple #[.agg #[.int .i64 (0), .int .i64 (0), .int .i64 (0)], .bool false]) (by simp [results, Try.results36, go_sem]) rfl ⟨rfl, ?_⟩
            repeat (first | exact Below.refl _ _ | apply below_drewN' | (refine Below.alloc ?_ (by simp <;> omega) _))
          · rw [if_neg c5] at h
            simp only [Prod.mk.injEq] at h
            obtain ⟨⟨rfl, rfl, rfl⟩, rfl⟩ := h
            go_enter Try.func36, Try.ntmps36
            go_wp2
            refine bodyPost_ret (v := .tuple #[.agg #[.int .i64 (p), .int .i64 (d), .int .i64 (a + 1 + t)], .bool true]) (by simp [results, Try.results36, go_sem]) rfl ⟨rfl, ?_⟩
            repeat (first | exact Below.refl _ _ | apply below_drewN' | (refine Below.alloc ?_ (by simp <;> omega) _))

set_option maxRecDepth 4000 in
set_option maxHeartbeats 2000000 in
theorem implThree_any (s : ByteArray) (i : Nat) (u v t q : Int) (b : Bool) (w : World) (h : threeT s i = (u, v, t, q, b)) (hi : i ≤ s.size) (hs : s.size ≤ 1048576) :
    Calls Try.prog 35 #[.string s, .int .i64 (i : Int)] w fun e w' => e = .returned (.tuple #[.agg #[.int .i64 u, .int .i64 v, .int .i64 t], .int .i64 q, .bool b]) ∧ Below w.heap.size w w' := by
  have HH := Lib.hid h
  clear h
  rcases take_ways s i hi with ⟨ht0, hn0⟩ | ⟨n0, q1, ht0, hn0, hq0, hq1, hb0⟩
  · have c0 := fun w => implTake_any s i 0 0 false w ht0 (by omega) (by omega)
    have h9 := HH.out
    rw [threeT, at3_no1 hn0] at h9
    simp only [Prod.mk.injEq] at h9
    obtain ⟨rfl, rfl, rfl, rfl, rfl⟩ := h9
    clear ht0 hn0 HH
    go_enter Try.func35, Try.ntmps35
    go_wp2_with fail
    refine (c0 _).mono ?_
    rintro e w2 ⟨rfl, b2⟩
    have HZ := Lib.hid (((Side.fresh (w := w) (B := w.heap.size) (v := .slice none 0 0) 48 [.int .i64 0, .int .i64 0, .int .i64 0] (Nat.le_refl _) (by intro k hk; simp [Value.ownBlock] at hk))).later b2)
    have k1 := HZ.out.cell 0 _ rfl
    have k2 := HZ.out.cell 1 _ rfl
    have k3 := HZ.out.cell 2 _ rfl
    have r1 := HZ.out.frozen 0
    have r2 := HZ.out.frozen 1
    have r3 := HZ.out.frozen 2
    have HS := Lib.hid (((HZ.out.set_self 0 (.int .i64 0)).set_self 1 (.int .i64 0)).set_self 2 (.int .i64 0))
    have s1 := HS.out.cell 0 _ rfl
    have s2 := HS.out.cell 1 _ rfl
    have s3 := HS.out.cell 2 _ rfl
    go_wp2
    refine bodyPost_ret (v := .tuple #[.agg #[.int .i64 (0), .int .i64 (0), .int .i64 (0)], .int .i64 (0), .bool false]) (by simp [results, Try.results35, go_sem, s1, s2, s3]) rfl ⟨rfl, ?_⟩
    exact below_set (below_set (below_set (((Below.refl _ _).alloc (Nat.le_refl _) _).trans (b2.mono (by simp))) (Nat.le_refl _) _ _) (Nat.le_refl _) _ _) (Nat.le_refl _) _ _
  · have c0 := fun w => implTake_any s i n0 q1 true w ht0 (by omega) (by omega)
    rcases take_ways s q1 hq1 with ⟨ht1, hn1⟩ | ⟨n1, q2, ht1, hn1, hqq1, hq2, hb1⟩
    · have c1 := fun w => implTake_any s q1 0 0 false w ht1 (by omega) (by omega)
      have h9 := HH.out
      rw [threeT, at3_no2 hn0 hn1] at h9
      simp only [Prod.mk.injEq] at h9
      obtain ⟨rfl, rfl, rfl, rfl, rfl⟩ := h9
      clear ht0 hn0 ht1 hn1 HH
      go_enter Try.func35, Try.ntmps35
      go_wp2_with fail
      refine (c0 _).mono ?_
      rintro e w1 ⟨rfl, b1⟩
      go_wp2_with fail
      refine (c1 _).mono ?_
      rintro e w2 ⟨rfl, b2⟩
      have b2 := b1.trans (b2.mono b1.size)
      have HZ := Lib.hid (((Side.fresh (w := w) (B := w.heap.size) (v := .slice none 0 0) 48 [.int .i64 0, .int .i64 0, .int .i64 0] (Nat.le_refl _) (by intro k hk; simp [Value.ownBlock] at hk))).later b2)
      have k1 := HZ.out.cell 0 _ rfl
      have k2 := HZ.out.cell 1 _ rfl
      have k3 := HZ.out.cell 2 _ rfl
      have r1 := HZ.out.frozen 0
      have r2 := HZ.out.frozen 1
      have r3 := HZ.out.frozen 2
      have HS := Lib.hid (((HZ.out.set_self 0 (.int .i64 0)).set_self 1 (.int .i64 0)).set_self 2 (.int .i64 0))
      have s1 := HS.out.cell 0 _ rfl
      have s2 := HS.out.cell 1 _ rfl
      have s3 := HS.out.cell 2 _ rfl
      go_wp2
      refine bodyPost_ret (v := .tuple #[.agg #[.int .i64 (0), .int .i64 (0), .int .i64 (0)], .int .i64 (0), .bool false]) (by simp [results, Try.results35, go_sem, s1, s2, s3]) rfl ⟨rfl, ?_⟩
      exact below_set (below_set (below_set (((Below.refl _ _).alloc (Nat.le_refl _) _).trans (b2.mono (by simp))) (Nat.le_refl _) _ _) (Nat.le_refl _) _ _) (Nat.le_refl _) _ _
    · have c1 := fun w => implTake_any s q1 n1 q2 true w ht1 (by omega) (by omega)
      rcases take_ways s q2 hq2 with ⟨ht2, hn2⟩ | ⟨n2, q3, ht2, hn2, hqq2, hq3, hb2⟩
      · have c2 := fun w => implTake_any s q2 0 0 false w ht2 (by omega) (by omega)
        have h9 := HH.out
        rw [threeT, at3_no3 hn0 hn1 hn2] at h9
        simp only [Prod.mk.injEq] at h9
        obtain ⟨rfl, rfl, rfl, rfl, rfl⟩ := h9
        clear ht0 hn0 ht1 hn1 ht2 hn2 HH
        go_enter Try.func35, Try.ntmps35
        go_wp2_with fail
        refine (c0 _).mono ?_
        rintro e w1 ⟨rfl, b1⟩
        go_wp2_with fail
        refine (c1 _).mono ?_
        rintro e w3 ⟨rfl, b3⟩
        have b3 := b1.trans (b3.mono b1.size)
        go_wp2_with fail
        refine (c2 _).mono ?_
        rintro e w2 ⟨rfl, b2⟩
        have b2 := b3.trans (b2.mono b3.size)
        have HZ := Lib.hid (((Side.fresh (w := w) (B := w.heap.size) (v := .slice none 0 0) 48 [.int .i64 0, .int .i64 0, .int .i64 0] (Nat.le_refl _) (by intro k hk; simp [Value.ownBlock] at hk))).later b2)
        have k1 := HZ.out.cell 0 _ rfl
        have k2 := HZ.out.cell 1 _ rfl
        have k3 := HZ.out.cell 2 _ rfl
        have r1 := HZ.out.frozen 0
        have r2 := HZ.out.frozen 1
        have r3 := HZ.out.frozen 2
        have HS := Lib.hid (((HZ.out.set_self 0 (.int .i64 0)).set_self 1 (.int .i64 0)).set_self 2 (.int .i64 0))
        have s1 := HS.out.cell 0 _ rfl
        have s2 := HS.out.cell 1 _ rfl
        have s3 := HS.out.cell 2 _ rfl
        go_wp2
        refine bodyPost_ret (v := .tuple #[.agg #[.int .i64 (0), .int .i64 (0), .int .i64 (0)], .int .i64 (0), .bool false]) (by simp [results, Try.results35, go_sem, s1, s2, s3]) rfl ⟨rfl, ?_⟩
        exact below_set (below_set (below_set (((Below.refl _ _).alloc (Nat.le_refl _) _).trans (b2.mono (by simp))) (Nat.le_refl _) _ _) (Nat.le_refl _) _ _) (Nat.le_refl _) _ _
      · have c2 := fun w => implTake_any s q2 n2 q3 true w ht2 (by omega) (by omega)
        have h9 := HH.out
        rw [threeT, at3_parts hn0 hn1 hn2] at h9
        simp only [Prod.mk.injEq] at h9
        obtain ⟨rfl, rfl, rfl, rfl, rfl⟩ := h9
        clear ht0 hn0 ht1 hn1 ht2 hn2 HH
        go_enter Try.func35, Try.ntmps35
        go_wp2_with fail
        refine (c0 _).mono ?_
        rintro e w1 ⟨rfl, b1⟩
        go_wp2_with fail
        refine (c1 _).mono ?_
        rintro e w3 ⟨rfl, b3⟩
        have b3 := b1.trans (b3.mono b1.size)
        go_wp2_with fail
        refine (c2 _).mono ?_
        rintro e w2 ⟨rfl, b2⟩
        have b2 := b3.trans (b2.mono b3.size)
        have HZ := Lib.hid (((Side.fresh (w := w) (B := w.heap.size) (v := .slice none 0 0) 48 [.int .i64 0, .int .i64 0, .int .i64 0] (Nat.le_refl _) (by intro k hk; simp [Value.ownBlock] at hk))).later b2)
        have k1 := HZ.out.cell 0 _ rfl
        have k2 := HZ.out.cell 1 _ rfl
        have k3 := HZ.out.cell 2 _ rfl
        have r1 := HZ.out.frozen 0
        have r2 := HZ.out.frozen 1
        have r3 := HZ.out.frozen 2
        have HS := Lib.hid (((HZ.out.set_self 0 (.int .i64 n0)).set_self 1 (.int .i64 n1)).set_self 2 (.int .i64 n2))
        have s1 := HS.out.cell 0 _ rfl
        have s2 := HS.out.cell 1 _ rfl
        have s3 := HS.out.cell 2 _ rfl
        go_wp2
        refine bodyPost_ret (v := .tuple #[.agg #[.int .i64 (n0), .int .i64 (n1), .int .i64 (n2)], .int .i64 (q3), .bool true]) (by simp [results, Try.results35, go_sem, s1, s2, s3]) rfl ⟨rfl, ?_⟩
        exact below_set (below_set (below_set (((Below.refl _ _).alloc (Nat.le_refl _) _).trans (b2.mono (by simp))) (Nat.le_refl _) _ _) (Nat.le_refl _) _ _) (Nat.le_refl _) _ _

end Go.Proofs.Ytapombdkkcjodaa
