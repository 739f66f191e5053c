/-
  The walk of chapter 3's law PrintPower over drawn numbers, and the contract of their draw: it returns true, and nothing that was there is written. No conditions.
-/
import Derived.Test.YtpheiapnhgllnaaPrintI
import Derived.Test.YtpheiapnhgllnaaDrawC
import Derived.Test.YtpheiapnhgllnaaHelpA
import Derived.OpenShut
import Derived.Deep.DrawnRows
import Derived.Deep.RegionWith
namespace Go.Proofs.Ytpheiapnhgllnaa
open Go.RowKit

theorem wf_boundsT {n : Int} (h : (Lit.int .i64 n).wf = true) : -9223372036854775808 ≤ n ∧ n ≤ 9223372036854775807 := by
  simp [Lit.wf, IntKind.min, IntKind.max, IntKind.signed, IntKind.bits] at h
  omega
theorem wrap_bounds (z : Int) : -9223372036854775808 ≤ IntKind.i64.wrap z ∧ IntKind.i64.wrap z ≤ 9223372036854775807 := wf_boundsT (wf_wrap .i64 z)

theorem pick_h (W w : World) (g : Nat) (a : Option Addr) (n c B : Nat) (m : Int) (hG : W.grownBy w (some g)) (h : RdAt w g a n c B) (hB : B < 1000000) (h0 : 0 < m) (hm9 : m < 1000000) :
    Calls Try.prog 36 #[.pointer (some ⟨g, 0, none⟩), .int .i64 m] w fun e w' => ∃ r : Nat, (r : Int) < m ∧ e = .returned (.int .i64 r) ∧ RdAt w' g a n c (B + 1) ∧ W.grownBy w' (some g) :=
  (pick_pos w g a n c B m hB h h0 hm9).mono fun _ _ ⟨r, hr, he, hrd, hg⟩ => ⟨r, hr, he, hrd, grownBy_trans hG hg⟩

/-- The one of five numbers that is asked for. -/
def five5 (a0 a1 : Int) (r : Nat) : Int := if r = 0 then a0 else if r = 1 then a1 else if r = 2 then -1 else if r = 3 then 1000002 else 1099511627776
theorem five5_bounds (a0 a1 : Int) (r : Nat) (h0 : -9223372036854775808 ≤ a0 ∧ a0 ≤ 9223372036854775807) (h1 : -9223372036854775808 ≤ a1 ∧ a1 ≤ 9223372036854775807) : -9223372036854775808 ≤ five5 a0 a1 r ∧ five5 a0 a1 r ≤ 9223372036854775807 := by
  unfold five5
  split
  · exact h0
  · split
    · exact h1
    · split
      · omega
      · split <;> omega

theorem five_new (w : World) (a0 a1 : Int) (e : TypeId) (r : Nat) (hr : (r : Int) < 5) :
    (w.alloc (.cells #[.int .i64 a0, .int .i64 a1, .int .i64 (-1), .int .i64 1000002, .int .i64 1099511627776] e)).cell? ⟨w.heap.size, r, none⟩ = some (.int .i64 (five5 a0 a1 r)) := by
  rw [cell_of_row _ w.heap.size _ _ e (0, 0) (heap_alloc_new w _)]
  have h : r = 0 ∨ r = 1 ∨ r = 2 ∨ r = 3 ∨ r = 4 := by omega
  rcases h with rfl | rfl | rfl | rfl | rfl <;> rfl

/-- Behind five numbers that were just laid, one of them asked for. -/
theorem pick_lit (W w : World) (g : Nat) (a : Option Addr) (n c B : Nat) (m : Int) (a0 a1 : Int) (t : TypeId) (r0 : Nat) (hr0 : (r0 : Int) < 5) (hG : W.grownBy w (some g)) (h : RdAt w g a n c B) (hB : B < 1000000) (h0 : 0 < m) (hm9 : m < 1000000) :
    Calls Try.prog 36 #[.pointer (some ⟨g, 0, none⟩), .int .i64 m] (w.alloc (.cells #[.int .i64 a0, .int .i64 a1, .int .i64 (-1), .int .i64 1000002, .int .i64 1099511627776] t)) fun e w' => ∃ r : Nat, (r : Int) < m ∧ e = .returned (.int .i64 r) ∧ RdAt w' g a n c (B + 1) ∧ W.grownBy w' (some g) ∧ w'.cell? ⟨w.heap.size, r0, none⟩ = some (.int .i64 (five5 a0 a1 r0)) := by
  refine (pick_pos _ g a n c B m hB (rd_alloc h _) h0 hm9).mono ?_
  rintro e w' ⟨r, hr, he, hrd, hg⟩
  have hlt := h.lt
  have hk : w'.heap[w.heap.size]? = (w.alloc (.cells #[.int .i64 a0, .int .i64 a1, .int .i64 (-1), .int .i64 1000002, .int .i64 1099511627776] t)).heap[w.heap.size]? := hg.block _ (by simp) (fun e => by simp at e; omega)
  exact ⟨r, hr, he, hrd, grownBy_trans hG (grownBy_trans (World.grownBy_alloc w _ _) hg), (World.cell?_of_block hk).trans (five_new w a0 a1 t r0 hr0)⟩
/-- The one of them that this call asks for. -/
theorem pick_lit5 (W w : World) (g : Nat) (a : Option Addr) (n c B : Nat) (m : Int) (a0 a1 : Int) (t : TypeId) (hG : W.grownBy w (some g)) (h : RdAt w g a n c B) (hm : m = 5) (hB : B < 1000000) :
    Calls Try.prog 36 #[.pointer (some ⟨g, 0, none⟩), .int .i64 m] (w.alloc (.cells #[.int .i64 a0, .int .i64 a1, .int .i64 (-1), .int .i64 1000002, .int .i64 1099511627776] t)) fun e w' => ∃ r : Nat, (r : Int) < 5 ∧ e = .returned (.int .i64 r) ∧ RdAt w' g a n c (B + 1) ∧ W.grownBy w' (some g) ∧ (g < w.heap.size ∧ w.heap.size < w'.heap.size) ∧ w'.cell? ⟨w.heap.size, r, none⟩ = some (.int .i64 (five5 a0 a1 r)) := by
  subst hm
  refine (pick_pos _ g a n c B 5 hB (rd_alloc h _) (by omega) (by omega)).mono ?_
  rintro e w' ⟨r, hr, he, hrd, hg⟩
  have hlt := h.lt
  have hs := hg.size
  simp at hs
  have hk : w'.heap[w.heap.size]? = (w.alloc (.cells #[.int .i64 a0, .int .i64 a1, .int .i64 (-1), .int .i64 1000002, .int .i64 1099511627776] t)).heap[w.heap.size]? := hg.block _ (by simp) (fun e => by simp at e; omega)
  exact ⟨r, hr, he, hrd, grownBy_trans hG (grownBy_trans (World.grownBy_alloc w _ _) hg), ⟨hlt, by omega⟩, (World.cell?_of_block hk).trans (five_new w a0 a1 t r hr)⟩
/-- A cell of another block stays. -/
theorem pick_cell (W w : World) (g L r0 : Nat) (v : Value) (a : Option Addr) (n c B : Nat) (m : Int) (hc : w.cell? ⟨L, r0, none⟩ = some v) (hG : W.grownBy w (some g)) (h : RdAt w g a n c B) (hL : g < L ∧ L < w.heap.size) (hB : B < 1000000) (h0 : 0 < m) (hm9 : m < 1000000) :
    Calls Try.prog 36 #[.pointer (some ⟨g, 0, none⟩), .int .i64 m] w fun e w' => ∃ r : Nat, (r : Int) < m ∧ e = .returned (.int .i64 r) ∧ RdAt w' g a n c (B + 1) ∧ W.grownBy w' (some g) ∧ w'.cell? ⟨L, r0, none⟩ = some v := by
  refine (pick_pos w g a n c B m hB h h0 hm9).mono ?_
  rintro e w' ⟨r, hr, he, hrd, hg⟩
  exact ⟨r, hr, he, hrd, grownBy_trans hG hg, (World.cell?_of_block (w := w) (hg.block L hL.2 (fun e => by simp at e; omega))).trans hc⟩

attribute [local go_sem ↓] Go.wp_at_zero Go.wp_at_succ

set_option maxHeartbeats 4000000 in
set_option maxRecDepth 20000 in
theorem DrawPowers_any (w : World) (a : Option Addr) (len cap : Nat) (zs : List Int) (h : IsRowK .u8 w a len cap zs) :
    Calls Try.prog 14 #[.slice a len cap] w fun e w' => ∃ x y : Int, (-9223372036854775808 ≤ x ∧ x ≤ 9223372036854775807) ∧ 0 ≤ y ∧ y ≤ 255 ∧ e = .returned (.tuple #[.int .i64 x, .int .i64 y]) ∧ Below w.heap.size w w' := by
  go_enter Try.func14, Try.ntmps14
  go_wp2_with fail
  refine (open_any _ _ _ _ _ h).mono ?_
  rintro e w1 ⟨n, rfl, hrd, hb, hs⟩
  clear h
  go_wp2
  have hrdD : ∀ q, RdAt (w1.drewN q) w.heap.size a n cap 0 := fun q => hrd.kept (fun _ _ => rfl)
  have hrdE : RdAt w1.drew w.heap.size a n cap 0 := hrd.kept (fun _ _ => rfl)
  have hGD : ∀ q, w1.grownBy (w1.drewN q) (some w.heap.size) := fun q => ⟨rfl, rfl, rfl, Nat.le_refl _, fun _ _ _ => rfl⟩
  have hz : ∀ (W : World) (a0 a1 : Int) (r : Nat), (r : Int) < 5 → (W.alloc (.cells #[.int .i64 a0, .int .i64 a1, .int .i64 (-1), .int .i64 1000002, .int .i64 1099511627776] 3)).cell? ⟨W.heap.size, r, none⟩ = some (.int .i64 (five5 a0 a1 r)) := fun W a0 a1 r hr => five_new W a0 a1 3 r hr
  go_region_with (first
    | (go_at_call 36; refine (pick_cell w1 _ _ _ _ _ a n cap _ _ (by assumption) (by assumption) (by assumption) (by assumption) (by omega) (by omega) (by omega)).mono ?_; rintro e w2 ⟨r, hr, rfl, hrd2, hg2, hc2⟩)
    | (go_at_call 36; refine (pick_lit w1 _ _ a n cap _ _ _ _ _ _ (by assumption) (by assumption) (by assumption) (by omega) (by omega) (by omega)).mono ?_; rintro e w2 ⟨r, hr, rfl, hrd2, hg2, hc2⟩)
    | (go_at_call 36; refine (pick_lit5 w1 _ _ a n cap _ _ _ _ _ (by assumption) (by assumption) (by omega) (by omega)).mono ?_; rintro e w2 ⟨r, hr, rfl, hrd2, hg2, hl2, hc2⟩)
    | (go_at_call 36; refine (pick_h w1 _ _ a n cap _ _ (by first | assumption | exact hGD _) (by first | assumption | exact hrdD _ | exact hrdE) (by omega) (by omega) (by omega)).mono ?_; rintro e w2 ⟨r, hr, rfl, hrd2, hg2⟩))
  all_goals
    have hB := below_rdC hb hs hg2
    go_wp2
    go_ret2
    exact ⟨_, _, five5_bounds _ _ _ (by omega) (wrap_bounds _), by omega, by omega, rfl, by first | exact hB | exact hB.alloc hB.size _⟩

set_option maxHeartbeats 2000000 in
theorem walkFnPrintPower (a : Option Addr) (len cap : Nat) (zs : List Int) (w : World) (h : IsRowK .u8 w a len cap zs) :
    Calls Try.prog 4 #[.slice a len cap] w fun e w' => e = .returned (.bool true) ∧ Below w.heap.size w w' := by
  go_enter Try.func4, Try.ntmps4
  go_wp2_with fail
  refine (DrawPowers_any _ _ _ _ _ h).mono ?_
  rintro e w1 ⟨x, y, ⟨hx0, hx9⟩, hy0, hy9, rfl, hb⟩
  clear h
  have c1 := fun w => implPrintPower_any x w hx0 hx9
  have c2 := fun w => implPrintPower_any y w (by omega) (by omega)
  have c3 := fun w => specPrintPower_any x w hx0 hx9
  have c4 := fun w => implPrintPower_any 1 w (by omega) (by omega)
  rw [show pwZ 1 = 257 from by decide +kernel] at c4
  have p1 := pwZ_lt x
  have p2 := pwZ_lt y
  have hmul : 0 ≤ x → (pwZ x * pwZ y).tmod 1000003 = pwZ (x + y) := fun h => by
    obtain ⟨n, rfl⟩ : ∃ n : Nat, x = n := ⟨x.toNat, by omega⟩
    obtain ⟨m, rfl⟩ : ∃ m : Nat, y = m := ⟨y.toNat, by omega⟩
    have e1 : ∀ k : Nat, pwZ (k : Int) = (pwN k : Nat) := fun k => by unfold pwZ; rw [if_neg (by omega), Int.toNat_natCast]
    rw [e1, e1, show (n : Int) + (m : Int) = ((n + m : Nat) : Int) from by omega, e1, pwN_add]
    exact tmod_nat _ (pwN n * pwN m) (by simp)
  obtain ⟨X, hX⟩ : ∃ X, pwZ x = X := ⟨_, rfl⟩
  obtain ⟨Y, hY⟩ : ∃ Y, pwZ y = Y := ⟨_, rfl⟩
  rw [hX] at c1 c3 p1
  rw [hY] at c2 p2
  rw [hX, hY] at hmul
  obtain ⟨p10, p19⟩ := p1
  obtain ⟨p20, p29⟩ := p2
  have h1 : 0 ≤ X * Y := Int.mul_nonneg (by omega) (by omega)
  have h2 : X * Y ≤ 1000002 * 1000002 := Int.mul_le_mul (by omega) (by omega) (by omega) (by omega)
  have w1' : IntKind.i64.wrap (X * Y) = X * Y := IntWalk.i64_in _ (by omega)
  clear h1 h2 hX hY
  go_wp2_with fail
  refine (c1 _).mono ?_
  rintro e w2 ⟨rfl, rfl⟩
  go_wp2_with fail
  refine (c2 _).mono ?_
  rintro e w2 ⟨rfl, rfl⟩
  go_wp2_with fail
  refine (c3 _).mono ?_
  rintro e w2 ⟨rfl, rfl⟩
  by_cases hneg : x < 0
  · clear hmul
    go_wp2_with fail
    refine (c4 _).mono ?_
    rintro e w2 ⟨rfl, rfl⟩
    go_wp2_with fail
    refine (alive_any _).mono ?_
    rintro e w2 ⟨rfl, rfl⟩
    go_wp2
    go_ret
    exact ⟨rfl, hb⟩
  by_cases hbig : 1125899906842624 < x
  · clear hmul
    go_wp2_with fail
    refine (c4 _).mono ?_
    rintro e w2 ⟨rfl, rfl⟩
    go_wp2_with fail
    refine (alive_any _).mono ?_
    rintro e w2 ⟨rfl, rfl⟩
    go_wp2
    go_ret
    exact ⟨rfl, hb⟩
  have hm := hmul (by omega)
  have c5 := fun w => implPrintPower_any (x + y) w (by omega) (by omega)
  obtain ⟨Z, hZ⟩ : ∃ Z, pwZ (x + y) = Z := ⟨_, rfl⟩
  rw [hZ] at c5 hm
  clear hmul hZ
  go_wp2_with fail
  refine (c5 _).mono ?_
  rintro e w2 ⟨rfl, rfl⟩
  go_wp2_with fail
  refine (c4 _).mono ?_
  rintro e w2 ⟨rfl, rfl⟩
  go_wp2_with fail
  refine (alive_any _).mono ?_
  rintro e w2 ⟨rfl, rfl⟩
  go_wp2
  go_ret
  exact ⟨rfl, hb⟩

end Go.Proofs.Ytpheiapnhgllnaa
