/-
  Blocks that lie beside a row that grows (no program is read), and mathematics of how a shelf is read. No conditions.
-/
import Derived.Test.YtapombdkkcjodaaSixD
import Derived.Test.YtapombdkkcjodaaApart
namespace Go.Proofs.Ytapombdkkcjodaa
open Go.RowKit

/-- A block that the call itself made, beside a row that grows. -/
structure Side (w : World) (B : Nat) (v : Value) (e : TypeId) (b : Nat) (xs : List Value) : Prop where
  at_ : w.heap[b]? = some (.cells xs.toArray e (0, 0))
  base : B ≤ b
  apart : v.ownBlock ≠ some b
theorem Side.lt {w : World} {B : Nat} {v : Value} {e : TypeId} {b : Nat} {xs : List Value} (h : Side w B v e b xs) : b < w.heap.size := (Array.getElem?_eq_some_iff.1 h.at_).1
theorem Side.later {w w' : World} {B : Nat} {v : Value} {e : TypeId} {b : Nat} {xs : List Value} (h : Side w B v e b xs) (hb : Below w.heap.size w w') : Side w' B v e b xs := ⟨(hb.block b h.lt).trans h.at_, h.base, h.apart⟩
theorem Side.drewN {w : World} {B : Nat} {v : Value} {e : TypeId} {b : Nat} {xs : List Value} (h : Side w B v e b xs) (q : Nat) : Side (w.drewN q) B v e b xs := ⟨h.at_, h.base, h.apart⟩
theorem Side.grow {w w' : World} {B : Nat} {v v' : Value} {e : TypeId} {b : Nat} {xs : List Value} (h : Side w B v e b xs) (hg : w.grownBy w' v.ownBlock) (hs : Spared w v v') : Side w' B v' e b xs :=
  ⟨(hg.block b h.lt (fun e => h.apart e.symm)).trans h.at_, h.base, hs b h.lt h.apart⟩
theorem Side.cell {w : World} {B : Nat} {v : Value} {e : TypeId} {b : Nat} {xs : List Value} (h : Side w B v e b xs) (j : Nat) (u : Value) (hj : xs[j]? = some u) : w.cell? ⟨b, j, none⟩ = some u := by
  rw [cell_of_row w b j _ e (0, 0) h.at_]
  simpa using hj
theorem Side.frozen {w : World} {B : Nat} {v : Value} {e : TypeId} {b : Nat} {xs : List Value} (h : Side w B v e b xs) (j : Nat) : w.frozen? ⟨b, j, none⟩ = false := by simp [World.frozen?, h.at_]
theorem Side.fresh {w : World} {B : Nat} {v : Value} (e : TypeId) (xs : List Value) (hB : B ≤ w.heap.size) (hv : ∀ k, v.ownBlock = some k → k < w.heap.size) : Side (w.alloc (.cells xs.toArray e)) B v e w.heap.size xs :=
  ⟨heap_alloc_new w _, hB, fun h => Nat.lt_irrefl _ (hv _ h)⟩
theorem Side.set_self {w : World} {B : Nat} {v : Value} {e : TypeId} {b : Nat} {xs : List Value} (h : Side w B v e b xs) (j : Nat) (u : Value) : Side (w.setCell ⟨b, j, none⟩ u) B v e b (xs.set j u) := by
  refine ⟨?_, h.base, h.apart⟩
  simp only [World.setCell, Array.getElem?_modify, h.at_, if_true, Option.map_some]
  simp
theorem Side.set_other {w : World} {B : Nat} {v : Value} {e : TypeId} {b : Nat} {xs : List Value} (h : Side w B v e b xs) {g : Nat} (hg : b ≠ g) (j : Nat) (u : Value) : Side (w.setCell ⟨g, j, none⟩ u) B v e b xs :=
  ⟨(Below.heap_setCell _ _ _ _ hg).trans h.at_, h.base, h.apart⟩
/-- The row stays while such a block is written. -/
theorem One.beside {W : World} {B : Nat} {w : World} {e : TypeId} {s : Nat} {a : Option Addr} {n c : Nat} {xs : List Value} (h : One W B w e s a n c xs) {g : Nat} (hB : B ≤ g) (hg : (Value.slice a n c).ownBlock ≠ some g) (j : Nat) (u : Value) : One W B (w.setCell ⟨g, j, none⟩ u) e s a n c xs := by
  have hG : w.grownBy (w.setCell ⟨g, j, none⟩ u) (some g) := ⟨rfl, rfl, rfl, by simp [World.setCell], fun k _ hk => Below.heap_setCell _ _ _ _ (fun e => hk (by simp [e]))⟩
  exact ⟨h.own.kept hG (.inr hg), Nat.le_trans h.base hG.size, h.below.grown hG h.base (fun k hk => by injection hk with hk; omega)⟩
theorem One.block_lt {W : World} {B : Nat} {w : World} {e : TypeId} {s : Nat} {a : Option Addr} {n c : Nat} {xs : List Value} (h : One W B w e s a n c xs) : ∀ k, (Value.slice a n c).ownBlock = some k → k < w.heap.size := fun k hk => (h.own.lt k hk).2
/-- Such a block as a row of records. -/
theorem Side.row {W w : World} {B : Nat} {v : Value} {e : TypeId} {b : Nat} {xs : List Value} (h : Side w B v e b xs) {s n : Nat} (hn : xs.length = n * s) (h63 : n ≤ maxLen) (hB : B ≤ w.heap.size) (hb : Below B W w) : One W B w e s (some ⟨b, 0, none⟩) n n xs :=
  ⟨⟨hn, .inr ⟨b, n, xs.toArray, rfl, h.base, h.at_, Nat.le_refl _, h63, by simpa using hn, by rw [← hn]; simp⟩⟩, hB, hb⟩

theorem wrap_sums : Sums wrap64 := ⟨fun x => by unfold wrap64; omega, fun x h1 h2 => by unfold wrap64; omega, fun x h1 h2 => by unfold wrap64; omega⟩
theorem wrap_wrap (x : Int) : wrap64 (wrap64 x) = wrap64 x := by unfold wrap64; omega
theorem wrap_in {x : Int} (h : -9223372036854775808 ≤ x ∧ x ≤ 9223372036854775807) : wrap64 x = x := by unfold wrap64; omega
theorem wrap_add (x y : Int) : wrap64 (x + wrap64 y) = wrap64 (x + y) := by unfold wrap64; omega

/-- What is read of a text that is none of a shelf. -/
theorem readT_none {s : ByteArray} (h : readS wrap64 (bytesN s) = none) : readT wrap64 s = ([], false) := by rw [readT, h]
theorem readT_some {s : ByteArray} {l : List En} (h : readS wrap64 (bytesN s) = some l) : readT wrap64 s = (l, true) := by rw [readT, h]
theorem readS_no {s : List Nat} (h : at1 s 0 = none) : readS wrap64 s = none := by rw [readS, h]; rfl
theorem readS_many {s : List Nat} {m i : Nat} (h : at1 s 0 = some (m, i)) (hm : s.length < m) : readS wrap64 s = none := by
  rw [readS, h, Option.bind_some]
  dsimp only
  rw [if_pos hm]
/-- Each entry has three bytes at least. -/
theorem readS_room {s : List Nat} (hb : ∀ b ∈ s, b < 256) {m i : Nat} (h : at1 s 0 = some (m, i)) (hm : s.length < i + 3 * m) : readS wrap64 s = none := by
  cases hr : readS wrap64 s with
  | none => rfl
  | some l =>
    exfalso
    obtain ⟨h1, h2, h3, h4⟩ := (readS_iff wrap_sums hb l).1 hr
    have e1 := at1_put (a := []) (n := l.length) (r := encE none l) (s := s) (by rw [List.nil_append, ← h4, textE]) h3
    rw [List.length_nil, h] at e1
    simp only [Option.some.injEq, Prod.mk.injEq] at e1
    have e2 := encE_len none l
    have e4 : s.length = (putN l.length).length + (encE none l).length := by rw [← h4, textE, List.length_append]
    omega
theorem readS_at {s : List Nat} {m i : Nat} (h : at1 s 0 = some (m, i)) (hm : m ≤ s.length) : readS wrap64 s = (readM wrap64 s i m).bind fun q => if q.2 = s.length ∧ shOk q.1 then some q.1 else none := by
  rw [readS, h, Option.bind_some]
  dsimp only
  rw [if_neg (by omega)]
theorem readS_stop {s : List Nat} {m i k : Nat} (h : at1 s 0 = some (m, i)) (hm : m ≤ s.length) (hk : k ≤ m) (hr : readM wrap64 s i k = none) : readS wrap64 s = none := by
  rw [readS_at h hm, readM_none hk hr]; rfl
theorem readS_end {s : List Nat} {m i j : Nat} {L : List En} (h : at1 s 0 = some (m, i)) (hm : m ≤ s.length) (hr : readM wrap64 s i m = some (L, j)) : readS wrap64 s = if j = s.length ∧ shOk L then some L else none := by
  rw [readS_at h hm, hr]; rfl
/-- Where an entry that is read is none of a shelf, no shelf is read. -/
theorem readS_bad {s : List Nat} (hb : ∀ b ∈ s, b < 256) {m i k j : Nat} {L : List En} {x : En} (h : at1 s 0 = some (m, i)) (hk : k < m) (hr : readM wrap64 s i (k + 1) = some (L ++ [x], j)) (hL : L.length = k) (hx : ¬ enOk x) : readS wrap64 s = none := by
  cases hs : readS wrap64 s with
  | none => rfl
  | some l =>
    exfalso
    obtain ⟨h1, h2, h3, h4⟩ := (readS_iff wrap_sums hb l).1 hs
    have e1 := at1_put (a := []) (n := l.length) (r := encE none l) (s := s) (by rw [List.nil_append, ← h4, textE]) h3
    rw [List.length_nil, h] at e1
    simp only [Option.some.injEq, Prod.mk.injEq, Nat.zero_add] at e1
    have e2 := readM_text wrap_sums (a := putN l.length) (r := []) (s := s) h1 h2 (by rw [← h4, textE, List.append_nil]) (k + 1) (by omega)
    rw [← e1.2, hr] at e2
    simp only [Option.some.injEq, Prod.mk.injEq] at e2
    have h5 : x ∈ l.take (k + 1) := by rw [← e2.1]; simp
    exact hx (h1.1 x (List.mem_of_mem_take h5))

/-- What the model's loop keeps of what was read. -/
structure ReadTo (s : List Nat) (i k : Nat) (L : List En) (j : Nat) : Prop where
  read : readM wrap64 s i k = some (L, j)
  len : L.length = k
theorem ReadTo.zero (s : List Nat) (i : Nat) : ReadTo s i 0 [] i := ⟨rfl, rfl⟩
theorem ReadTo.next {s : List Nat} {i k : Nat} {L : List En} {j : Nat} (h : ReadTo s i k L j) {t : Nat × Nat × Nat} {j' : Nat} (ht : at3 s j = some (t, j')) : ReadTo s i (k + 1) (L ++ [undifW wrap64 (lastE none L) t]) j' := by
  refine ⟨?_, by simp [h.len]⟩
  rw [readM_next h.read, ht]; rfl
theorem ReadTo.stop {s : List Nat} {i k : Nat} {L : List En} {j : Nat} (h : ReadTo s i k L j) (ht : at3 s j = none) : readM wrap64 s i (k + 1) = none := by
  rw [readM_next h.read, ht]; rfl
theorem ReadTo.last {s : List Nat} {i k : Nat} {L : List En} {j : Nat} (h : ReadTo s i k L j) : (k = 0 ∧ lastE none L = none) ∨ (0 < k ∧ ∃ y, lastE none L = some y) := by
  have hl := h.len
  rcases List.eq_nil_or_concat L with rfl | ⟨L', x, rfl⟩
  · left
    exact ⟨by simpa using hl.symm, rfl⟩
  · right
    refine ⟨?_, x, ?_⟩
    · simp at hl; omega
    · rw [List.concat_eq_append, lastE_snoc]
theorem at3_parts {s : List Nat} {j c0 q1 : Nat} (h0 : at1 s j = some (c0, q1)) {c1 q2 : Nat} (h1 : at1 s q1 = some (c1, q2)) {c2 q3 : Nat} (h2 : at1 s q2 = some (c2, q3)) : at3 s j = some ((c0, c1, c2), q3) := by
  simp only [at3, h0, h1, h2, Option.bind_some]
theorem at3_no1 {s : List Nat} {j : Nat} (h0 : at1 s j = none) : at3 s j = none := by simp only [at3, h0, Option.bind_none]
theorem at3_no2 {s : List Nat} {j c0 q1 : Nat} (h0 : at1 s j = some (c0, q1)) (h1 : at1 s q1 = none) : at3 s j = none := by simp only [at3, h0, h1, Option.bind_none, Option.bind_some]
theorem at3_no3 {s : List Nat} {j c0 q1 : Nat} (h0 : at1 s j = some (c0, q1)) {c1 q2 : Nat} (h1 : at1 s q1 = some (c1, q2)) (h2 : at1 s q2 = none) : at3 s j = none := by simp only [at3, h0, h1, h2, Option.bind_none, Option.bind_some]
/-- What TakeNumber tells at a place of a text. -/
theorem take_ways (s : ByteArray) (i : Nat) (hi : i ≤ s.size) : (takeT s i = (0, 0, false) ∧ at1 (bytesN s) i = none) ∨ ∃ n j : Nat, takeT s i = ((n : Int), (j : Int), true) ∧ at1 (bytesN s) i = some (n, j) ∧ i < j ∧ j ≤ s.size ∧ (n : Int) ≤ 9223372036854775807 := by
  cases h : at1 (bytesN s) i with
  | none => exact .inl ⟨takeT_none h, rfl⟩
  | some p =>
    obtain ⟨n, j⟩ := p
    obtain ⟨h1, h2, _, h4⟩ := at1_is (bytesN_lt s) (by rw [bytesN_len]; exact hi) h
    rw [bytesN_len] at h2
    exact .inr ⟨n, j, takeT_some h, rfl, h1, h2, by omega⟩

end Go.Proofs.Ytapombdkkcjodaa
