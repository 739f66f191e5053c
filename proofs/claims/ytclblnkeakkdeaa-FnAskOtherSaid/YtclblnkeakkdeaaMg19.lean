/-
  Laws for memory of no program: a slice of the call's own that may begin in the middle of its block (cells of one value each): cut short, moved on, appended to. No conditions.
-/
import Derived.Test.YtclblnkeakkdeaaMg11
import Derived.Maps.AppendAt
namespace Go.Proofs.Ytclblnkeakkdeaa
open Go.RowKit

/-- A slice of the call's own, from wherever in its block on. -/
structure Seg (w : World) (B : Nat) (e : TypeId) (a : Option Addr) (n c : Nat) (xs : List Value) : Prop where
  len : xs.length = n
  room : n ≤ c
  most : c ≤ maxLen
  spot : (a = none ∧ c = 0) ∨ ∃ g o cur, a = some ⟨g, o, none⟩ ∧ B ≤ g ∧ w.heap[g]? = some (.cells cur e (0, 0)) ∧ o + c ≤ cur.size ∧ ∀ j u, xs[j]? = some u → cur[o + j]? = some u

theorem Seg.nil (w : World) (B : Nat) (e : TypeId) : Seg w B e none 0 0 [] := ⟨rfl, Nat.le_refl _, Nat.zero_le _, .inl ⟨rfl, rfl⟩⟩

theorem Seg.lt {w : World} {B : Nat} {e : TypeId} {a : Option Addr} {n c : Nat} {xs : List Value} (h : Seg w B e a n c xs) : ∀ k, Value.ownBlock (.slice a n c) = some k → B ≤ k ∧ k < w.heap.size := by
  intro k hk
  rcases h.spot with ⟨rfl, _⟩ | ⟨g, o, cur, rfl, hb, hg, _⟩
  · simp [Value.ownBlock] at hk
  · simp [Value.ownBlock] at hk
    subst hk
    exact ⟨hb, (Array.getElem?_eq_some_iff.1 hg).1⟩

theorem Seg.kept {w w' : World} {B : Nat} {e : TypeId} {a : Option Addr} {n c : Nat} {xs : List Value} {row : Option Nat} (h : Seg w B e a n c xs) (hg : w.grownBy w' row) (hne : ∀ k, Value.ownBlock (.slice a n c) = some k → row ≠ some k) : Seg w' B e a n c xs := by
  refine ⟨h.len, h.room, h.most, ?_⟩
  rcases h.spot with hn | ⟨g, o, cur, rfl, hb, hgg, rest⟩
  · exact .inl hn
  · refine .inr ⟨g, o, cur, rfl, hb, ?_, rest⟩
    rw [hg.block g (Array.getElem?_eq_some_iff.1 hgg).1 (fun e => hne g rfl e.symm)]
    exact hgg

theorem Seg.at_ {w : World} {B : Nat} {e : TypeId} {a : Option Addr} {n c : Nat} {xs : List Value} (h : Seg w B e a n c xs) : CellsAt w a xs := by
  refine ⟨fun hne => ?_⟩
  rcases h.spot with ⟨rfl, h0⟩ | ⟨g, o, cur, rfl, hb, hg, hs, hc⟩
  · exfalso
    apply hne
    apply List.length_eq_zero_iff.1
    have := h.len
    have := h.room
    omega
  · exact ⟨g, o, rfl, (Array.getElem?_eq_some_iff.1 hg).1, fun j v hj => by rw [cell_of_row w g (o + j) cur e (0, 0) hg]; exact hc j v hj⟩

theorem Seg.take {w : World} {B : Nat} {e : TypeId} {a : Option Addr} {n c : Nat} {xs : List Value} (h : Seg w B e a n c xs) (m : Nat) (hm : m ≤ n) : Seg w B e a m c (xs.take m) := by
  refine ⟨by rw [List.length_take, h.len]; omega, Nat.le_trans hm h.room, h.most, ?_⟩
  rcases h.spot with hn | ⟨g, o, cur, rfl, hb, hg, hs, hc⟩
  · exact .inl hn
  · refine .inr ⟨g, o, cur, rfl, hb, hg, hs, fun j u hj => hc j u ?_⟩
    rw [List.getElem?_take] at hj
    split at hj
    · exact hj
    · cases hj

theorem Seg.next {w : World} {B g o n c : Nat} {e : TypeId} {xs : List Value} (h : Seg w B e (some ⟨g, o, none⟩) n c xs) (hn : 1 ≤ n) : Seg w B e (some ⟨g, o + 1, none⟩) (n - 1) (c - 1) (xs.drop 1) := by
  have h1 := h.room
  have h2 := h.most
  refine ⟨by rw [List.length_drop, h.len], by omega, by omega, ?_⟩
  rcases h.spot with ⟨hn, _⟩ | ⟨g', o', cur, ha, hb, hg, hs, hc⟩
  · cases hn
  · obtain ⟨rfl, rfl⟩ := (by simpa using ha : g = g' ∧ o = o')
    refine .inr ⟨g, o + 1, cur, rfl, hb, hg, by omega, fun j u hj => ?_⟩
    rw [List.getElem?_drop] at hj
    have := hc (1 + j) u hj
    rw [← this]
    congr 1
    omega

/-- Where a slice lies after an append: in its old block, or in one that was not there. -/
def Stayed (w : World) (v v' : Value) : Prop := v'.ownBlock = v.ownBlock ∨ ∃ k, v'.ownBlock = some k ∧ w.heap.size ≤ k

/-- One cell more in such a slice. -/
theorem run_append_seg {P : Program} (w : World) (B : Nat) (t ty e : TypeId) (i : TypeInfo) (z : Value) (bytes : Nat) (ht : P.underlying t = some (.slice e)) (hi : P.info? e = some i) (hz : i.zero = some z)
    (hsize : i.size = 1) (hby : i.bytes = bytes) (hzs : z.cells.size = 1)
    (a : Option Addr) (n c : Nat) (xs : List Value) (h : Seg w B e a n c xs)
    (A : Addr) (cA : Nat) (u : Value) (hu : w.cell? A = some u) (h1 : u.oneCell' = true)
    (h63 : n + 1 ≤ maxLen) (hbytes : (n + 1) * bytes ≤ 140737488355328) (hB : B ≤ w.heap.size) :
    ∃ a' c' w', (Builtin.append_ #[t, t] ty #[.slice a n c, .slice (some A) 1 cA]).run P w = .ok (.slice a' (n + 1) c') w' ∧ Seg w' B e a' (n + 1) c' (xs ++ [u]) ∧ w.grownBy w' (Value.ownBlock (.slice a n c)) ∧
      Stayed w (.slice a n c) (.slice a' (n + 1) c') := by
  subst hby
  have hcell : ∀ j v, [u][j]? = some v → w.cell? (A.add j) = some v := by
    intro j v hj
    cases j with
    | zero =>
      have e0 : A.add 0 = A := by cases A; unfold Addr.add; split <;> simp_all
      rw [e0, hu]
      simpa using hj
    | succ j => simp at hj
  have hlen : (xs ++ [u]).length = n + 1 := by rw [List.length_append, h.len]; rfl
  have hone : ∀ x ∈ [u], x.oneCell' = true := by intro x hx; obtain rfl := List.mem_singleton.1 hx; exact h1
  have hsmall : n + 1 ≤ 9223372036854775807 := by simp only [maxLen] at h63; omega
  have grown : ∀ (old : Nat) (row : Option Nat),
      Seg (w.drew.alloc (.cells (xs.toArray ++ [u].toArray ++ Builtin.zeroCells z.cells (grownCap w (n + 1) old e - (n + 1))) e)) B e (some ⟨w.heap.size, 0, none⟩) (n + 1) (grownCap w (n + 1) old e) (xs ++ [u]) ∧
      w.grownBy (w.drew.alloc (.cells (xs.toArray ++ [u].toArray ++ Builtin.zeroCells z.cells (grownCap w (n + 1) old e - (n + 1))) e)) row := by
    intro old row
    have hge := grownCap_ge w (n + 1) old e
    refine ⟨⟨hlen, hge, grownCap_le_maxLen w (n + 1) old e h63, .inr ⟨w.heap.size, 0, _, rfl, hB, heap_alloc_new w.drew _, ?_, fun j v hj => ?_⟩⟩, ⟨rfl, rfl, rfl, by simp, fun k hk _ => heap_alloc_old w.drew _ hk⟩⟩
    · simp only [Array.size_append, List.size_toArray, size_zeroCells, hzs, h.len, List.length_singleton]
      omega
    · have hj2 : j < (xs ++ [u]).length := (List.getElem?_eq_some_iff.1 hj).1
      rw [Nat.zero_add, ← Array.getElem?_toList]
      simp only [Array.toList_append]
      rw [List.getElem?_append_left hj2]
      exact hj
  rcases h.spot with ⟨rfl, rfl⟩ | ⟨g, o, cur, rfl, hb, hg, hs, hc⟩
  · have hn0 : n = 0 := by have := h.room; omega
    subst hn0
    have hx : xs = [] := List.length_eq_zero_iff.1 h.len
    subst hx
    have hr := run_append_nil (P := P) w t ty e i z ht hi hz A 1 cA [u] (by simp [hsize]) hcell (by omega) (by omega) (by omega)
    have hgr := grown 0 (Value.ownBlock (.slice none 0 0))
    simp only [Nat.zero_add, List.nil_append, Array.empty_append] at hgr ⊢
    exact ⟨_, _, _, hr, hgr.1, hgr.2, .inr ⟨w.heap.size, rfl, Nat.le_refl _⟩⟩
  · by_cases hroom : n + 1 ≤ c
    · have hfit : o + n + 0 + [u].length ≤ cur.size := by simp; omega
      have hf := run_firstCells_some (P := P) w i.size 1 A 1 cA [u] (by simp [hsize]) hcell
      have hst := run_storeCells_at P g (o + n) e [u] 0 cur w hg hfit hone
      simp only [Nat.add_zero] at hst
      have hr : (Builtin.append_ #[t, t] ty #[.slice (some ⟨g, o, none⟩) n c, .slice (some A) 1 cA]).run P w = .ok (.slice (some ⟨g, o, none⟩) (n + 1) c) (w.setRow g (cur.toList.take (o + n) ++ [u] ++ cur.toList.drop (o + n + [u].length)).toArray) := by
        rw [hsize] at hf
        simp [Builtin.append_, run_underlying ht, sizeOf, typeInfo, hi, Builtin.lenOf, hroom, hf, Addr.add_lit, hsize, hst]
      refine ⟨_, _, _, hr, ?_, ⟨rfl, rfl, rfl, by simp, fun k _ hk => setRow_other w g k _ (fun e => hk (by simp [Value.ownBlock, e]))⟩, .inl rfl⟩
      refine ⟨hlen, hroom, h.most, .inr ⟨g, o, _, rfl, hb, setRow_heap w g cur _ e _ hg, ?_, fun j v hj => ?_⟩⟩
      · simp only [List.size_toArray, List.length_append, List.length_take, List.length_drop, Array.length_toList, List.length_singleton]
        simp at hfit
        omega
      · have hj2 : j < (xs ++ [u]).length := (List.getElem?_eq_some_iff.1 hj).1
        rw [hlen] at hj2
        simp at hfit
        simp only [List.getElem?_toArray]
        by_cases e : j = n
        · subst e
          rw [List.append_assoc, List.getElem?_append_right (by simp; omega)]
          rw [List.getElem?_append_right (by rw [h.len]; exact Nat.le_refl _), h.len] at hj
          have e2 : o + j - (cur.toList.take (o + j)).length = 0 := by simp; omega
          rw [e2]
          simpa using hj
        · rw [List.getElem?_append_left (by rw [h.len]; omega)] at hj
          rw [List.append_assoc, List.getElem?_append_left (by simp; omega), List.getElem?_take_of_lt (by omega), Array.getElem?_toList]
          exact hc j v hj
    · have holds : ∀ j v, xs[j]? = some v → w.cell? ((⟨g, o, none⟩ : Addr).add j) = some v := by
        intro j v hj
        rw [Addr.add_lit, cell_of_row w g (o + j) cur e (0, 0) hg]
        exact hc j v hj
      have hr := run_append_grow (P := P) w t ty e i z ht hi hz ⟨g, o, none⟩ n c xs (by rw [h.len, hsize]; omega) holds A 1 cA [u] (by simp [hsize]) hcell (by omega) (by omega) (growslice_fits (by omega) hbytes)
      have hgr := grown c (Value.ownBlock (.slice (some ⟨g, o, none⟩) n c))
      exact ⟨_, _, _, hr, hgr.1, hgr.2, .inr ⟨w.heap.size, rfl, Nat.le_refl _⟩⟩

theorem wpList_append_seg {P : Program} {w0 : World} {ops : Array Oper} {rest : List Oper} {o : Oper} {act : Act} {Q : Exit → Act → World → Prop} (B : Nat) {e1 : TypeId} {a1 : Option Addr} {n1 c1 : Nat} {xs1 : List Value}
    (hgd : o.guard = none) (s x : Operand) (t : TypeId)
    (ho : o.op = .call { callee := .builtin .append, args := #[s, x], argTypes := #[t, t] })
    {z : Value} {bytes : Nat} (ht : P.underlying t = some (.slice e1)) (hinfo : (P.info? e1).map (fun i => (i.zero, i.size, i.bytes)) = some (some z, 1, bytes)) (hzs : z.cells.size = 1)
    (h2 : Seg w0 B e1 a1 n1 c1 xs1) (hB : B ≤ w0.heap.size) (hs : act.eval s = .slice a1 n1 c1)
    (u : Value) (hx : act.eval x = .slice (some ⟨w0.heap.size, 0, none⟩) 1 1) (h1 : u.oneCell' = true)
    (h63 : n1 + 1 ≤ maxLen) (hbytes : (n1 + 1) * bytes ≤ 140737488355328)
    (h : ∀ ad' cap' w', Seg w' B e1 ad' (n1 + 1) cap' (xs1 ++ [u]) → w0.grownBy w' (Value.ownBlock (.slice a1 n1 c1)) → Stayed w0 (.slice a1 n1 c1) (.slice ad' (n1 + 1) cap') → wpList P ops Q rest (act.put o.dst (.slice ad' (n1 + 1) cap')) w') :
    wpList P ops Q (o :: rest) act (w0.alloc (.cells #[u] e1)) := by
  obtain ⟨i, hi, hz, hsi, hby⟩ := info_parts hinfo
  have hcell : (w0.alloc (.cells #[u] e1)).cell? ⟨w0.heap.size, 0, none⟩ = some u := by
    rw [cell_of_row _ w0.heap.size 0 #[u] e1 (0, 0) (heap_alloc_new w0 _)]; rfl
  have h3 : Seg (w0.alloc (.cells #[u] e1)) B e1 a1 n1 c1 xs1 := h2.kept (World.grownBy_alloc w0 _ none) (fun _ _ => by simp)
  obtain ⟨a', c', w', hr, hseg, hg, hst⟩ := run_append_seg (P := P) (w0.alloc (.cells #[u] e1)) B t o.type e1 i z bytes ht hi hz hsi hby hzs a1 n1 c1 xs1 h3 ⟨w0.heap.size, 0, none⟩ 1 u hcell h1 h63 hbytes (Nat.le_trans hB (heap_le_alloc _ _))
  refine wpList_plain hgd fun K hK => ?_
  unfold Oper.wp execOp
  simp only [ho, resolve, invoke, builtin, Sem.run_bind, Sem.run_pure, Result.andThen_ok, List.map_toArray, List.map_cons, List.map_nil, hs, hx, hr]
  refine hK _ _ (h a' c' w' hseg (grownBy_trans (World.grownBy_alloc w0 _ _) hg) ?_)
  rcases hst with h | ⟨k, h4, h5⟩
  · exact .inl h
  · exact .inr ⟨k, h4, Nat.le_trans (heap_le_alloc _ _) h5⟩

/-- One element more in a row of the call's own, and where it lies. -/
theorem wpList_append_own1 {P : Program} {w0 : World} {ops : Array Oper} {rest : List Oper} {o : Oper} {act : Act} {Q : Exit → Act → World → Prop} {B : Nat} {e1 : TypeId} {s1 : Nat} {a1 : Option Addr} {n1 c1 : Nat} {xs1 : List Value}
    (hgd : o.guard = none) (s x : Operand) (t : TypeId)
    (ho : o.op = .call { callee := .builtin .append, args := #[s, x], argTypes := #[t, t] })
    {z : Value} {bytes : Nat} (ht : P.underlying t = some (.slice e1)) (hinfo : (P.info? e1).map (fun i => (i.zero, i.size, i.bytes)) = some (some z, s1, bytes)) (hzs : z.cells.size = s1) (hsz : 0 < s1)
    (h2 : w0.ownsRow B e1 s1 (.slice a1 n1 c1) n1 xs1) (hB : B ≤ w0.heap.size) (hs : act.eval s = .slice a1 n1 c1)
    (us : Array Value) (hx : act.eval x = .slice (some ⟨w0.heap.size, 0, none⟩) 1 1) (hl : us.size = s1) (h1 : ∀ u ∈ us.toList, u.oneCell' = true)
    (h63 : n1 + 1 ≤ maxLen) (hbytes : (n1 + 1) * bytes ≤ 140737488355328)
    (h : ∀ ad' cap' w', w'.ownsRow B e1 s1 (.slice ad' (n1 + 1) cap') (n1 + 1) (xs1 ++ us.toList) → w0.grownBy w' (Value.ownBlock (.slice a1 n1 c1)) → Stayed w0 (.slice a1 n1 c1) (.slice ad' (n1 + 1) cap') → wpList P ops Q rest (act.put o.dst (.slice ad' (n1 + 1) cap')) w') :
    wpList P ops Q (o :: rest) act (w0.alloc (.cells us e1)) := by
  obtain ⟨i, hi, hz, hsi, hby⟩ := info_parts hinfo
  refine wpList_append_own_at (w0.alloc (.cells us e1)) hgd s x t ho B e1 i z s1 bytes ht hi hz hsi hby hzs hsz _ n1 xs1 hs (h2.alloc _) ⟨w0.heap.size, 0, none⟩ 1 1 us.toList hx (by simp [hl]) ?_ h1 h63 hbytes (Nat.le_trans hB (heap_le_alloc _ _)) ?_
  · intro j u hj
    rw [Addr.add_lit, cell_of_row _ w0.heap.size (0 + j) us e1 (0, 0) (heap_alloc_new w0 _)]
    simpa using hj
  · intro v' w' hown' hg' _ hat'
    obtain ⟨a', c', rfl⟩ := ownsRow_shape hown'
    refine h a' c' w' hown' (grownBy_trans (World.grownBy_alloc w0 _ _) hg') ?_
    rcases hat' with e | e
    · exact .inl e
    · exact .inr ⟨_, e, heap_le_alloc _ _⟩

/-- Two slices of the call's own in different blocks. -/
def Parted (v v' : Value) : Prop := ∀ k, v.ownBlock = some k → v'.ownBlock ≠ some k

theorem Parted.symm {v v' : Value} (h : Parted v v') : Parted v' v := fun k h1 h2 => h k h2 h1
/-- One of the two is appended to. -/
theorem Parted.stayed {w : World} {v u u' : Value} (h : Parted v u) (hv : ∀ k, v.ownBlock = some k → k < w.heap.size) (hs : Stayed w u u') : Parted v u' := by
  intro k h1 h2
  rcases hs with e | ⟨j, e, hj⟩
  · exact h k h1 (e ▸ h2)
  · have := hv k h1
    rw [e] at h2
    injection h2 with h2
    omega

end Go.Proofs.Ytclblnkeakkdeaa
