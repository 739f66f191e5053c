/-
  The contracts of the program's functions entryAheadOfAll and toldBehind. Condition: the numbers of entries are numbers of the program.
-/
import Derived.Test.YtapombdkkcjodaaSixC
namespace Go.Proofs.Ytapombdkkcjodaa
open Go.RowKit

/-- What is told of an entry behind another one. -/
def toldI (p d a x y z : Int) : En := if x = p then (if y = d then (0, 0, z - (a + 1)) else (0, y - d, z)) else (x - p, y, z)
/-- The entry ahead; none of a shelf ahead of the first one. -/
def lzI : Option En → En
  | none => (0, 0, -1)
  | some x => x
/-- What toldBehind may be asked. -/
structure ToldOk (p d a x y z : Int) : Prop where
  p0 : 0 ≤ p
  d0 : 0 ≤ d
  x0 : 0 ≤ x
  x9 : x ≤ 9223372036854775807
  y0 : 0 ≤ y
  y9 : y ≤ 9223372036854775807
  z0 : 0 ≤ z
  z9 : z ≤ 9223372036854775807
  px : p ≤ x
  dy : x = p → d ≤ y
  az : x = p → y = d → -1 ≤ a ∧ a < z
theorem toldI_bounds {p d a x y z u v t : Int} (h : ToldOk p d a x y z) (ht : toldI p d a x y z = (u, v, t)) : 0 ≤ u ∧ u ≤ 9223372036854775807 ∧ 0 ≤ v ∧ v ≤ 9223372036854775807 ∧ 0 ≤ t ∧ t ≤ 9223372036854775807 := by
  obtain ⟨h1, h2, h3, h4, h5, h6, h7, h8, h9, h10, h11⟩ := h
  unfold toldI at ht
  split at ht
  · rename_i e1
    split at ht
    · rename_i e2
      have := h11 e1 e2
      simp only [Prod.mk.injEq] at ht
      omega
    · have := h10 e1
      simp only [Prod.mk.injEq] at ht
      omega
  · simp only [Prod.mk.injEq] at ht
    omega
theorem told_is {l : List En} (h : shOk l) {k : Nat} (hk : k < l.length) {x y z p d a : Int} (hx : l[k] = (x, y, z)) (hf : fits (x, y, z)) (hl : lzI (lastE none (l.take k)) = (p, d, a)) :
    ToldOk p d a x y z ∧ dif (lastE none (l.take k)) l[k] = ((toldI p d a x y z).1.toNat, (toldI p d a x y z).2.1.toNat, (toldI p d a x y z).2.2.toNat) := by
  have h1 := shOk_to h k hk hk
  rw [hx] at h1
  obtain ⟨⟨h2, h3, h4, h5⟩, h6⟩ := h1
  obtain ⟨f1, f2, f3⟩ := hf
  simp only at h2 h3 h4 h5 f1 f2 f3
  cases k with
  | zero =>
    rw [lastE_zero] at hl ⊢
    simp only [lzI, Prod.mk.injEq] at hl
    obtain ⟨rfl, rfl, rfl⟩ := hl
    refine ⟨⟨by omega, by omega, h2, by omega, h4, by omega, h5, by omega, h2, fun _ => h4, fun _ _ => by omega⟩, ?_⟩
    rw [hx]
    simp only [dif, toldI]
    repeat' split
    all_goals (refine Prod.ext ?_ (Prod.ext ?_ ?_) <;> simp only <;> omega)
  | succ k =>
    have hk' : k < l.length := by omega
    rw [lastE_take hk'] at hl ⊢
    simp only [lzI] at hl
    have h7 : enLt l[k] (x, y, z) := h6 (by omega)
    have h8 := (shOk_to h k hk' hk').1
    rw [hl] at h7 h8 ⊢
    rw [enLt_iff] at h7
    simp only [enOk] at h8
    refine ⟨⟨by omega, by omega, h2, by omega, h4, by omega, h5, by omega, by omega, fun _ => by omega, fun _ _ => by omega⟩, ?_⟩
    rw [hx]
    by_cases e1 : x = p
    · by_cases e2 : y = d
      · simp only [dif, toldI, if_pos e1, if_pos e2]; rfl
      · simp only [dif, toldI, if_pos e1, if_neg e2]; rfl
    · simp only [dif, toldI, if_neg e1]

theorem implAhead_any (w : World) :
    Calls Try.prog 30 #[] w fun e w' => e = .returned (.agg #[.int .i64 0, .int .i64 0, .int .i64 (-1)]) ∧ Below w.heap.size w w' := by
  go_enter Try.func30, Try.ntmps30
  go_wp2
  refine bodyPost_ret (v := .agg #[.int .i64 0, .int .i64 0, .int .i64 (-1)]) (by simp [results, Try.results30, go_sem]) rfl ⟨rfl, ?_⟩
  repeat (first | exact Below.refl _ _ | apply below_drewN' | (refine Below.alloc ?_ (by simp <;> omega) _))

set_option maxHeartbeats 1000000 in
theorem implTold_any (p d a x y z u v t : Int) (w : World) (h : toldI p d a x y z = (u, v, t)) (ho : ToldOk p d a x y z) :
    Calls Try.prog 31 #[.agg #[.int .i64 p, .int .i64 d, .int .i64 a], .agg #[.int .i64 x, .int .i64 y, .int .i64 z]] w fun e w' => e = .returned (.agg #[.int .i64 u, .int .i64 v, .int .i64 t]) ∧ Below w.heap.size w w' := by
  obtain ⟨h1, h2, h3, h4, h5, h6, h7, h8, h9, h10, h11⟩ := ho
  by_cases e1 : x = p
  · subst e1
    have t1 : (x == x) = true := beq_self_eq_true _
    have t1' : (x != x) = false := by rw [bne, t1]; rfl
    by_cases e2 : y = d
    · subst e2
      have t2 : (y == y) = true := beq_self_eq_true _
      have t2' : (y != y) = false := by rw [bne, t2]; rfl
      obtain ⟨a0, a9⟩ := h11 rfl rfl
      simp only [toldI, if_true, Prod.mk.injEq] at h
      obtain ⟨rfl, rfl, rfl⟩ := h
      clear h10 h11
      go_enter Try.func31, Try.ntmps31
      go_wp2
      refine bodyPost_ret (v := .agg #[.int .i64 0, .int .i64 0, .int .i64 (z - (a + 1))]) (by simp [results, Try.results31, go_sem]) rfl ⟨rfl, ?_⟩
      repeat (first | exact Below.refl _ _ | apply below_drewN' | (refine Below.alloc ?_ (by simp <;> omega) _))
    · have t2 : (y == d) = false := by simpa using e2
      have t2' : (y != d) = true := by rw [bne, t2]; rfl
      simp only [toldI, if_true, if_neg e2, Prod.mk.injEq] at h
      obtain ⟨rfl, rfl, rfl⟩ := h
      have h10 := h10 rfl
      clear h11 e2
      go_enter Try.func31, Try.ntmps31
      go_wp2
      refine bodyPost_ret (v := .agg #[.int .i64 0, .int .i64 (y - d), .int .i64 z]) (by simp [results, Try.results31, go_sem]) rfl ⟨rfl, ?_⟩
      repeat (first | exact Below.refl _ _ | apply below_drewN' | (refine Below.alloc ?_ (by simp <;> omega) _))
  · have t1 : (x == p) = false := by simpa using e1
    have t1' : (x != p) = true := by rw [bne, t1]; rfl
    simp only [toldI, if_neg e1, Prod.mk.injEq] at h
    obtain ⟨rfl, rfl, rfl⟩ := h
    clear h10 h11 e1
    go_enter Try.func31, Try.ntmps31
    go_wp2
    refine bodyPost_ret (v := .agg #[.int .i64 (x - p), .int .i64 y, .int .i64 z]) (by simp [results, Try.results31, go_sem]) rfl ⟨rfl, ?_⟩
    repeat (first | exact Below.refl _ _ | apply below_drewN' | (refine Below.alloc ?_ (by simp <;> omega) _))

end Go.Proofs.Ytapombdkkcjodaa
