/-
  Blocks that lie beside a row that grows. No program is read. No conditions.
-/
import Derived.Test.YtehppjilnacjlaaApart
namespace Go.Proofs.Ytehppjilnacjlaa
open Go.RowKit

/-- A block that the call itself made, beside a row that grows. -/
structure Side (w : World) (B : Nat) (v : Value) (e : TypeId) (b : Nat) (xs : List Value) : Prop where
  at_ : w.heap[b]? = some (.cells xs.toArray e (0, 0))
  base : B ≤ b
  apart : v.ownBlock ≠ some b
theorem Side.lt {w : World} {B : Nat} {v : Value} {e : TypeId} {b : Nat} {xs : List Value} (h : Side w B v e b xs) : b < w.heap.size := (Array.getElem?_eq_some_iff.1 h.at_).1
theorem Side.later {w w' : World} {B : Nat} {v : Value} {e : TypeId} {b : Nat} {xs : List Value} (h : Side w B v e b xs) (hb : Below w.heap.size w w') : Side w' B v e b xs := ⟨(hb.block b h.lt).trans h.at_, h.base, h.apart⟩
theorem Side.drewN {w : World} {B : Nat} {v : Value} {e : TypeId} {b : Nat} {xs : List Value} (h : Side w B v e b xs) (q : Nat) : Side (w.drewN q) B v e b xs := ⟨h.at_, h.base, h.apart⟩
theorem Side.grow {w w' : World} {B : Nat} {v v' : Value} {e : TypeId} {b : Nat} {xs : List Value} (h : Side w B v e b xs) (hg : w.grownBy w' v.ownBlock) (hs : Spared w v v') : Side w' B v' e b xs :=
  ⟨(hg.block b h.lt (fun e => h.apart e.symm)).trans h.at_, h.base, hs b h.lt h.apart⟩
theorem Side.cell {w : World} {B : Nat} {v : Value} {e : TypeId} {b : Nat} {xs : List Value} (h : Side w B v e b xs) (j : Nat) (u : Value) (hj : xs[j]? = some u) : w.cell? ⟨b, j, none⟩ = some u := by
  rw [cell_of_row w b j _ e (0, 0) h.at_]
  simpa using hj
theorem Side.frozen {w : World} {B : Nat} {v : Value} {e : TypeId} {b : Nat} {xs : List Value} (h : Side w B v e b xs) (j : Nat) : w.frozen? ⟨b, j, none⟩ = false := by simp [World.frozen?, h.at_]
theorem Side.fresh {w : World} {B : Nat} {v : Value} (e : TypeId) (xs : List Value) (hB : B ≤ w.heap.size) (hv : ∀ k, v.ownBlock = some k → k < w.heap.size) : Side (w.alloc (.cells xs.toArray e)) B v e w.heap.size xs :=
  ⟨heap_alloc_new w _, hB, fun h => Nat.lt_irrefl _ (hv _ h)⟩
theorem Side.set_self {w : World} {B : Nat} {v : Value} {e : TypeId} {b : Nat} {xs : List Value} (h : Side w B v e b xs) (j : Nat) (u : Value) : Side (w.setCell ⟨b, j, none⟩ u) B v e b (xs.set j u) := by
  refine ⟨?_, h.base, h.apart⟩
  simp only [World.setCell, Array.getElem?_modify, h.at_, if_true, Option.map_some]
  simp
theorem Side.set_other {w : World} {B : Nat} {v : Value} {e : TypeId} {b : Nat} {xs : List Value} (h : Side w B v e b xs) {g : Nat} (hg : b ≠ g) (j : Nat) (u : Value) : Side (w.setCell ⟨g, j, none⟩ u) B v e b xs :=
  ⟨(Below.heap_setCell _ _ _ _ hg).trans h.at_, h.base, h.apart⟩
/-- The row stays while such a block is written. -/
theorem One.beside {W : World} {B : Nat} {w : World} {e : TypeId} {s : Nat} {a : Option Addr} {n c : Nat} {xs : List Value} (h : One W B w e s a n c xs) {g : Nat} (hB : B ≤ g) (hg : (Value.slice a n c).ownBlock ≠ some g) (j : Nat) (u : Value) : One W B (w.setCell ⟨g, j, none⟩ u) e s a n c xs := by
  have hG : w.grownBy (w.setCell ⟨g, j, none⟩ u) (some g) := ⟨rfl, rfl, rfl, by simp [World.setCell], fun k _ hk => Below.heap_setCell _ _ _ _ (fun e => hk (by simp [e]))⟩
  exact ⟨h.own.kept hG (.inr hg), Nat.le_trans h.base hG.size, h.below.grown hG h.base (fun k hk => by injection hk with hk; omega)⟩
theorem One.block_lt {W : World} {B : Nat} {w : World} {e : TypeId} {s : Nat} {a : Option Addr} {n c : Nat} {xs : List Value} (h : One W B w e s a n c xs) : ∀ k, (Value.slice a n c).ownBlock = some k → k < w.heap.size := fun k hk => (h.own.lt k hk).2
/-- Such a block as a row of records. -/
theorem Side.row {W w : World} {B : Nat} {v : Value} {e : TypeId} {b : Nat} {xs : List Value} (h : Side w B v e b xs) {s n : Nat} (hn : xs.length = n * s) (h63 : n ≤ maxLen) (hB : B ≤ w.heap.size) (hb : Below B W w) : One W B w e s (some ⟨b, 0, none⟩) n n xs :=
  ⟨⟨hn, .inr ⟨b, n, xs.toArray, rfl, h.base, h.at_, Nat.le_refl _, h63, by simpa using hn, by rw [← hn]; simp⟩⟩, hB, hb⟩

end Go.Proofs.Ytehppjilnacjlaa
