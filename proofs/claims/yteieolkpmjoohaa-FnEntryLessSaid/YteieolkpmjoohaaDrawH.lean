/-
  The contract of the model's draw of two entries; nothing that was there is written. Condition: the bytes can be read.
-/
import Derived.Test.YteieolkpmjoohaaDrawF
namespace Go.Proofs.Yteieolkpmjoohaa
open Go.RowKit

theorem grown_row {w w' : World} {g k : Nat} {o : Obj} (h : w.heap[k]? = some o) (hg : w.grownBy w' (some g)) (hne : k ≠ g) : w'.heap[k]? = some o :=
  (hg.block k (Array.getElem?_eq_some_iff.1 h).1 (by simpa using hne)).trans h

set_option maxRecDepth 4000 in
set_option maxHeartbeats 4000000 in
theorem DrawEntryLess_any (w : World) (a : Option Addr) (len cap : Nat) (zs : List Int) (h : IsRowK .u8 w a len cap zs) :
    Calls Try.prog 14 #[.slice a len cap] w fun e w' => ∃ r1 r2 r3 r4 r5 r6 : Int, e = .returned (.tuple #[.agg #[.int .i64 r1, .int .i64 r2, .int .i64 r3], .agg #[.int .i64 r4, .int .i64 r5, .int .i64 r6]]) ∧ Below w.heap.size w w' := by
  obtain ⟨hs, hhs⟩ : ∃ hs, w.heap.size = hs := ⟨_, rfl⟩
  have hZ : ∀ w2, w2 = (w.alloc (.cells #[.int .i64 0, .int .i64 0, .int .i64 0] 24)).alloc (.cells #[.int .i64 0, .int .i64 0, .int .i64 0] 24) →
      IsRowK .u8 w2 a len cap zs ∧ w2.heap[hs]? = some (.cells #[.int .i64 0, .int .i64 0, .int .i64 0] 24 (0, 0)) ∧ w2.heap[hs + 1]? = some (.cells #[.int .i64 0, .int .i64 0, .int .i64 0] 24 (0, 0)) ∧ w2.heap.size = hs + 2 ∧ Below hs w w2 := by
    intro w2 e
    subst e hhs
    have k1 := heap_alloc_new w (.cells #[.int .i64 0, .int .i64 0, .int .i64 0] 24)
    have k2 := heap_alloc_old (w.alloc (.cells #[.int .i64 0, .int .i64 0, .int .i64 0] 24)) (.cells #[.int .i64 0, .int .i64 0, .int .i64 0] 24) (r := w.heap.size) (by simp)
    have k3 := heap_alloc_new (w.alloc (.cells #[.int .i64 0, .int .i64 0, .int .i64 0] 24)) (.cells #[.int .i64 0, .int .i64 0, .int .i64 0] 24)
    rw [show (w.alloc (.cells #[.int .i64 0, .int .i64 0, .int .i64 0] 24)).heap.size = w.heap.size + 1 by simp] at k3
    have hb := below_alloc2 w (.cells #[.int .i64 0, .int .i64 0, .int .i64 0] 24) (.cells #[.int .i64 0, .int .i64 0, .int .i64 0] 24)
    refine ⟨?_, k2.trans k1, k3, by simp, hb⟩
    rcases h with h | ⟨x, h1, h2, h3, h4, h5, h6⟩
    · exact .inl h
    · exact .inr ⟨x, h1, h2, h3, h4, fun i hi => (hb.cell (World.block_lt_of_cell? w _ (h5 i hi))).trans (h5 i hi), h6⟩
  have HZ := Lib.hid hZ
  clear hZ h
  go_enter Try.func14, Try.ntmps14
  go_wp2_with fail
  generalize hw2 : World.alloc _ _ = w2
  obtain ⟨hrow, r1, r2, hsz, hb2⟩ := HZ.out w2 hw2.symm
  clear HZ hw2
  refine (open_any _ _ _ _ _ hrow).mono ?_
  rintro e w3 ⟨n, rfl, hrd, hb3, hs3⟩
  rw [hsz] at hb3 hrd hs3 ⊢
  have r1 := (hb3.block hs (by omega)).trans r1
  have r2 := (hb3.block (hs + 1) (by omega)).trans r2
  have hB3 : Below hs w w3 := hb2.trans (hb3.mono (by omega))
  clear hrow hb3 hb2
  go_wp2_with fail
  refine (pick_pos _ _ a n cap _ 2 (by omega) hrd (by omega) (by omega)).mono ?_
  rintro e w4 ⟨x1, hx1, rfl, hrd, hg⟩
  have r1 := grown_row r1 hg (by omega)
  have r2 := grown_row r2 hg (by omega)
  have hB4 := hB3.grown hg (by omega) (fun k hk => by simp at hk; omega)
  clear hg hB3 hx1
  go_wp2_with fail
  refine (pick_pos _ _ a n cap _ 2 (by omega) hrd (by omega) (by omega)).mono ?_
  rintro e w5 ⟨x2, hx2, rfl, hrd, hg⟩
  have r1 := grown_row r1 hg (by omega)
  have r2 := grown_row r2 hg (by omega)
  have hB5 := hB4.grown hg (by have := hB4.size; omega) (fun k hk => by simp at hk; omega)
  clear hg hB4 hx2
  go_wp2_with fail
  refine (pick_pos _ _ a n cap _ 3 (by omega) hrd (by omega) (by omega)).mono ?_
  rintro e w6 ⟨x3, hx3, rfl, hrd, hg⟩
  have r1 := grown_row r1 hg (by omega)
  have r2 := grown_row r2 hg (by omega)
  have hB6 := hB5.grown hg (by have := hB5.size; omega) (fun k hk => by simp at hk; omega)
  clear hg hB5 hx3
  go_wp2_with fail
  refine (pick_pos _ _ a n cap _ 2 (by omega) hrd (by omega) (by omega)).mono ?_
  rintro e w7 ⟨x4, hx4, rfl, hrd, hg⟩
  have r1 := grown_row r1 hg (by omega)
  have r2 := grown_row r2 hg (by omega)
  have hB7 := hB6.grown hg (by have := hB6.size; omega) (fun k hk => by simp at hk; omega)
  clear hg hB6 hx4
  go_wp2_with fail
  refine (pick_pos _ _ a n cap _ 2 (by omega) hrd (by omega) (by omega)).mono ?_
  rintro e w8 ⟨x5, hx5, rfl, hrd, hg⟩
  have r1 := grown_row r1 hg (by omega)
  have r2 := grown_row r2 hg (by omega)
  have hB8 := hB7.grown hg (by have := hB7.size; omega) (fun k hk => by simp at hk; omega)
  clear hg hB7 hx5
  go_wp2_with fail
  refine (pick_pos _ _ a n cap _ 3 (by omega) hrd (by omega) (by omega)).mono ?_
  rintro e w9 ⟨x6, hx6, rfl, hrd, hg⟩
  have r1 := grown_row r1 hg (by omega)
  have r2 := grown_row r2 hg (by omega)
  have hB9 := hB8.grown hg (by have := hB8.size; omega) (fun k hk => by simp at hk; omega)
  clear hg hB8 hx6 hrd
  have f1 := frozen_of_row w9 hs 0 _ _ r1
  have f2 := frozen_of_row w9 hs 1 _ _ r1
  have f3 := frozen_of_row w9 hs 2 _ _ r1
  have f4 := frozen_of_row w9 (hs + 1) 0 _ _ r2
  have f5 := frozen_of_row w9 (hs + 1) 1 _ _ r2
  have f6 := frozen_of_row w9 (hs + 1) 2 _ _ r2
  have g1 : w9.cell? ⟨hs, 0, none⟩ = some (.int .i64 0) := cell_of_row w9 hs 0 _ _ _ r1
  have g2 : w9.cell? ⟨hs, 1, none⟩ = some (.int .i64 0) := cell_of_row w9 hs 1 _ _ _ r1
  have g3 : w9.cell? ⟨hs, 2, none⟩ = some (.int .i64 0) := cell_of_row w9 hs 2 _ _ _ r1
  have g4 : w9.cell? ⟨hs + 1, 0, none⟩ = some (.int .i64 0) := cell_of_row w9 (hs + 1) 0 _ _ _ r2
  have g5 : w9.cell? ⟨hs + 1, 1, none⟩ = some (.int .i64 0) := cell_of_row w9 (hs + 1) 1 _ _ _ r2
  have g6 : w9.cell? ⟨hs + 1, 2, none⟩ = some (.int .i64 0) := cell_of_row w9 (hs + 1) 2 _ _ _ r2
  go_wp2_with fail
  refine bodyPost_ret (v := .tuple #[.agg #[.int .i64 x1, .int .i64 x2, .int .i64 x3], .agg #[.int .i64 x4, .int .i64 x5, .int .i64 x6]]) (by simp [results, Try.results14, go_sem, *]) rfl ⟨_, _, _, _, _, _, rfl, ?_⟩
  rw [hhs]
  exact (((((hB9.setCell (Nat.le_refl _) _).setCell (Nat.le_refl _) _).setCell (Nat.le_refl _) _).setCell (Nat.le_succ _) _).setCell (Nat.le_succ _) _).setCell (Nat.le_succ _) _

end Go.Proofs.Yteieolkpmjoohaa
