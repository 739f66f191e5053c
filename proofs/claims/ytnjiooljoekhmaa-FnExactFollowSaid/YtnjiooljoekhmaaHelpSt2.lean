/-
  The contract of the laws' own helper toState. Conditions: at most 2^20 edges.
-/
import Derived.Test.YtnjiooljoekhmaaHelpState
import Derived.Test.YtnjiooljoekhmaaSide
namespace Go.Proofs.Ytnjiooljoekhmaa
open Go.RowKit Go.ChangeShapes

/-- A cell of another block is written. -/
theorem One.besideB {W : World} {B : Nat} {w : World} {e : TypeId} {s : Nat} {a : Option Addr} {n c : Nat} {xs : List Value} (h : One W B w e s a n c xs) {b : Nat} (hb : B ≤ b) (hne : ∀ k, (Value.slice a n c).ownBlock = some k → k ≠ b) (j : Nat) (v : Value) : One W B (w.setCell ⟨b, j, none⟩ v) e s a n c xs := by
  have hG : w.grownBy (w.setCell ⟨b, j, none⟩ v) (some b) := ⟨rfl, rfl, rfl, by simp [World.setCell], fun k _ hk => Below.heap_setCell _ _ _ _ (fun e => hk (by simp [e]))⟩
  refine ⟨h.own.kept hG ?_, Nat.le_trans h.base hG.size, h.below.grown hG h.base (fun k hk => by injection hk with e; omega)⟩
  cases hb2 : (Value.slice a n c).ownBlock with
  | none => exact .inl rfl
  | some k => exact .inr (fun e => by
      injection e with e
      exact hne k hb2 e)

set_option maxHeartbeats 4000000 in
theorem toState_any (d1 d2 : Int) (F : List (Int × Int)) (a : Option Addr) (n c : Nat) (w : World) (hn : n = F.length) (hm : n ≤ 1048576) (hat : CellsAt w a (pairsC F)) :
    Calls Try.prog 40 #[.agg #[.int .i64 d1, .int .i64 d2, .slice a n c]] w fun e w' => ∃ a', e = .returned (.agg #[.int .i64 d1, .int .i64 d2, .slice a' n n]) ∧ One w w.heap.size w' 57 2 a' n n (pairsC F) := by
  have HT := Lib.hid (fun (w' : World) (hb : Below w.heap.size w w') => toEdgeS_any F a n c w' hn hm (hat.below hb))
  have HB := Lib.hid (fun o1 o2 o3 => ((Below.refl w.heap.size w).alloc (Nat.le_refl _) o1).alloc (heap_le_alloc _ _) o2 |>.alloc (Nat.le_trans (heap_le_alloc w o1) (heap_le_alloc _ o2)) o3)
  clear hn hat
  go_enter Try.func40, Try.ntmps40
  go_wp2_with fail
  refine (HT.out _ (HB.out _ _ _)).mono ?_
  rintro e w2 ⟨a', rfl, ho⟩
  have HO := Lib.hid (ho.under (HB.out _ _ _) (HB.out _ _ _).size)
  have S2 : Side w2 w.heap.size (.slice none 0 0) 41 (w.heap.size + 1 + 1) [.int .i64 d1, .int .i64 d2, .slice none 0 0] := by
    have h := (Side.fresh (w := (w.alloc (.cells #[.int .i64 d1, .int .i64 d2, .slice a n c] 52)).alloc (.cells #[.int .i64 0, .int .i64 0, .slice none 0 0] 41)) (B := w.heap.size) (v := .slice none 0 0) 41 [.int .i64 d1, .int .i64 d2, .slice none 0 0] (Nat.le_trans (heap_le_alloc w _) (heap_le_alloc _ _)) (by intro k hk; simp [Value.ownBlock] at hk)).later ho.below
    simpa using h
  have S1 : Side w2 w.heap.size (.slice none 0 0) 41 (w.heap.size + 1) [.int .i64 0, .int .i64 0, .slice none 0 0] := by
    have h := ((Side.fresh (w := w.alloc (.cells #[.int .i64 d1, .int .i64 d2, .slice a n c] 52)) (B := w.heap.size) (v := .slice none 0 0) 41 [.int .i64 0, .int .i64 0, .slice none 0 0] (heap_le_alloc w _) (by intro k hk; simp [Value.ownBlock] at hk)).later ((Below.refl _ _).alloc (Nat.le_refl _) (.cells #[.int .i64 d1, .int .i64 d2, .slice none 0 0] 41))).later ho.below
    simpa using h
  have HNE : ∀ k, (Value.slice a' n n).ownBlock = some k → w.heap.size + 1 + 1 < k := fun k hk => by
    have h := (ho.own.lt k hk).1
    simp at h
    omega
  have k2 := S2.cell 2 _ rfl
  have f2 := S2.frozen 2
  have s2 := S2.set_self 2 (.slice a' n n)
  have s1 := S1.set_other (g := w.heap.size + 1 + 1) (by omega) 2 (.slice a' n n)
  have c0 := s2.cell 0 _ rfl
  have c1 := s2.cell 1 _ rfl
  have c2 := s2.cell 2 _ rfl
  have e0 := s1.cell 0 _ rfl
  have e1 := s1.cell 1 _ rfl
  have e2 := s1.cell 2 _ rfl
  have q0 := s1.frozen 0
  have q1 := s1.frozen 1
  have q2 := s1.frozen 2
  have r1 := s1.set_self 0 (.int .i64 d1)
  have r2 := r1.set_self 1 (.int .i64 d2)
  have r3 := r2.set_self 2 (.slice a' n n)
  have y0 := r3.cell 0 _ rfl
  have y1 := r3.cell 1 _ rfl
  have y2 := r3.cell 2 _ rfl
  have p1 := r1.frozen 1
  have p2 := r2.frozen 2
  have p3 := r1.cell 1 _ rfl
  have p4 := r2.cell 2 _ rfl
  have o1 := HO.out.besideB (b := w.heap.size + 1 + 1) (by omega) (fun k hk => by have := HNE k hk; omega) 2 (.slice a' n n)
  have o2 := o1.besideB (b := w.heap.size + 1) (by omega) (fun k hk => by have := HNE k hk; omega) 0 (.int .i64 d1)
  have o3 := o2.besideB (b := w.heap.size + 1) (by omega) (fun k hk => by have := HNE k hk; omega) 1 (.int .i64 d2)
  have o4 := Lib.hid (o3.besideB (b := w.heap.size + 1) (by omega) (fun k hk => by have := HNE k hk; omega) 2 (.slice a' n n))
  clear ho S1 S2 s1 s2 r1 r2 r3 o1 o2 o3 HNE HO
  go_wp2
  refine bodyPost_ret (v := .agg #[.int .i64 d1, .int .i64 d2, .slice a' n n]) (by simp [results, Try.results40, go_sem, y0, y1, y2]) rfl ⟨a', rfl, o4.out⟩

end Go.Proofs.Ytnjiooljoekhmaa
