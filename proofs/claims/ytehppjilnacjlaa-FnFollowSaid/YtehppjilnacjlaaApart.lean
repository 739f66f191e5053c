/-
  Where a row lies behind an append: in its own block, or in a new one. So two rows of one type that lie apart stay apart. No conditions.
-/
import Derived.Test.YtehppjilnacjlaaMem
namespace Go.Proofs.Ytehppjilnacjlaa
open Go.RowKit

/-- What lies in other blocks than a row lies in other blocks than the row that was appended to. -/
def Spared (w : World) (v v' : Value) : Prop := ∀ q, q < w.heap.size → v.ownBlock ≠ some q → v'.ownBlock ≠ some q

theorem append_spared {P : Program} (w : World) (base : Nat) (t ty e : TypeId) (i : TypeInfo) (z : Value) (size bytes : Nat) (ht : P.underlying t = some (.slice e)) (hi : P.info? e = some i) (hz : i.zero = some z)
    (hsize : i.size = size) (hby : i.bytes = bytes) (hsz : 0 < size)
    (v : Value) (n : Nat) (xs : List Value) (hown : w.ownsRow base e size v n xs)
    (a : Addr) (m c : Nat) (news : List Value) (hl : news.length = m * size) (hnews : ∀ j u, news[j]? = some u → w.cell? (a.add j) = some u) (h1 : ∀ u ∈ news, u.oneCell' = true) (hm : 0 < m)
    (h63 : n + m ≤ maxLen) (hbytes : (n + m) * bytes ≤ 140737488355328) (v' : Value) (w' : World)
    (hr : (Builtin.append_ #[t, t] ty #[v, .slice (some a) m c]).run P w = .ok v' w') : Spared w v v' := by
  subst hsize
  subst hby
  have hsmall : n + m ≤ 9223372036854775807 := by simp only [maxLen] at h63; omega
  intro q hq hne
  rcases hown.2 with ⟨rfl, rfl⟩ | ⟨g, cap, cur, rfl, hbg, hg, hnc, hcm, hcs, htake⟩
  · have e1 := run_append_nil (P := P) w t ty e i z ht hi hz a m c news hl hnews hm (by omega) (by have hb := hbytes; simp only [Nat.zero_add] at hb; omega)
    rw [e1] at hr
    injection hr with h2 _
    subst h2
    simp only [Value.ownBlock, ne_eq, Option.some.injEq]
    omega
  · by_cases hroom : n + m ≤ cap
    · have hfit : n * i.size + news.length ≤ cur.size := by rw [hl, hcs, ← Nat.add_mul]; exact Nat.mul_le_mul_right _ hroom
      have e1 := run_append_room (P := P) w t ty e i ht hi g n cap cur hg a m c news hl hnews h1 hroom hfit
      rw [e1] at hr
      injection hr with h2 _
      subst h2
      exact hne
    · have e1 := run_append_grow (P := P) w t ty e i z ht hi hz ⟨g, 0, none⟩ n cap xs hown.1 (hown.cells (g := g) rfl) a m c news hl hnews (by omega) (by omega) (growslice_fits (by omega) hbytes)
      rw [e1] at hr
      injection hr with h2 _
      subst h2
      simp only [Value.ownBlock, ne_eq, Option.some.injEq]
      omega

/-- One element more in a row; what lies apart stays apart. -/
theorem wpList_append_apart {P : Program} {W w0 : World} {ops : Array Oper} {rest : List Oper} {o : Oper} {act : Act} {Q : Exit → Act → World → Prop} {B : Nat} {e1 : TypeId} {s1 : Nat} {a1 : Option Addr} {n1 c1 : Nat} {xs1 : List Value}
    (hgd : o.guard = none) (s x : Operand) (t : TypeId)
    (ho : o.op = .call { callee := .builtin .append, args := #[s, x], argTypes := #[t, t] })
    {z : Value} {bytes : Nat} (ht : P.underlying t = some (.slice e1)) (hinfo : (P.info? e1).map (fun i => (i.zero, i.size, i.bytes)) = some (some z, s1, bytes)) (hzs : z.cells.size = s1) (hsz : 0 < s1)
    (h2 : One W B w0 e1 s1 a1 n1 c1 xs1) (hs : act.eval s = .slice a1 n1 c1)
    (us : Array Value) (hx : act.eval x = .slice (some ⟨w0.heap.size, 0, none⟩) 1 1) (hl : us.size = s1) (h1 : ∀ u ∈ us.toList, u.oneCell' = true)
    (h63 : n1 + 1 ≤ maxLen) (hbytes : (n1 + 1) * bytes ≤ 140737488355328)
    (h : ∀ ad' cap' w', One W B w' e1 s1 ad' (n1 + 1) cap' (xs1 ++ us.toList) → w0.grownBy w' (Value.ownBlock (.slice a1 n1 c1)) → Spared w0 (.slice a1 n1 c1) (.slice ad' (n1 + 1) cap') → wpList P ops Q rest (act.put o.dst (.slice ad' (n1 + 1) cap')) w') :
    wpList P ops Q (o :: rest) act (w0.alloc (.cells us e1)) := by
  obtain ⟨i, hi, hz, hsi, hby⟩ := info_parts hinfo
  have hcell : ∀ j u, us.toList[j]? = some u → (w0.alloc (.cells us e1)).cell? ((⟨w0.heap.size, 0, none⟩ : Addr).add j) = some u := by
    intro j u hj
    rw [Addr.add_lit, cell_of_row _ w0.heap.size (0 + j) us e1 (0, 0) (heap_alloc_new w0 _)]
    simpa using hj
  have hown2 : (w0.alloc (.cells us e1)).ownsRow B e1 s1 (.slice a1 n1 c1) n1 xs1 := h2.own.alloc _
  obtain ⟨v', w', hr, hown', hg', _⟩ := run_append_own (P := P) (w0.alloc (.cells us e1)) B t o.type e1 i z s1 bytes ht hi hz hsi hby hzs hsz _ n1 xs1 hown2 ⟨w0.heap.size, 0, none⟩ 1 1 us.toList (by simp [hl]) hcell h1 h63 hbytes (by have := h2.base; simp; omega)
  have hsp := append_spared (P := P) (w0.alloc (.cells us e1)) B t o.type e1 i z s1 bytes ht hi hz hsi hby hsz _ n1 xs1 hown2 ⟨w0.heap.size, 0, none⟩ 1 1 us.toList (by simp [hl]) hcell h1 (by omega) h63 hbytes v' w' hr
  obtain ⟨a', c', rfl⟩ := ownsRow_shape hown'
  have hG : w0.grownBy w' (Value.ownBlock (.slice a1 n1 c1)) := grownBy_trans (World.grownBy_alloc w0 _ _) hg'
  refine wpList_plain hgd fun _ hK => ?_
  unfold Oper.wp execOp
  simp only [ho, resolve, invoke, builtin, Sem.run_bind, Sem.run_pure, Result.andThen_ok, List.map_toArray, List.map_cons, List.map_nil, hs, hx, hr]
  exact hK _ _ (h a' c' w' ⟨hown', Nat.le_trans h2.base hG.size, below_grown_own h2.below h2.own hG (Nat.le_refl _) h2.base⟩ hG (fun q hq hne => hsp q (by simp; omega) hne))

/-- Cells that lie apart from a row stay as they are when it grows, and lie apart from what it becomes. -/
structure Beside (w : World) (a : Option Addr) (cs : List Value) (v : Value) : Prop where
  at_ : CellsAt w a cs
  apart : cs ≠ [] → ∀ b o, a = some ⟨b, o, none⟩ → v.ownBlock ≠ some b

theorem Beside.grow {w w' : World} {a : Option Addr} {cs : List Value} {v v' : Value} (h : Beside w a cs v) (hg : w.grownBy w' v.ownBlock) (hs : Spared w v v') : Beside w' a cs v' :=
  ⟨⟨fun hne => by
      obtain ⟨b, o, ha, hb, hc⟩ := h.at_.spot hne
      exact ⟨b, o, ha, Nat.lt_of_lt_of_le hb hg.size, fun j u hj => (World.cell?_of_block (hg.block b hb (fun e => h.apart hne b o ha e.symm))).trans (hc j u hj)⟩⟩,
   fun hne b o ha => by
      obtain ⟨b', o', ha', hb', _⟩ := h.at_.spot hne
      obtain ⟨rfl, rfl⟩ := (by simpa using ha.symm.trans ha' : b = b' ∧ o = o')
      exact hs b hb' (h.apart hne b o ha)⟩

theorem Beside.drewN {w : World} {a : Option Addr} {cs : List Value} {v : Value} (h : Beside w a cs v) (q : Nat) : Beside (w.drewN q) a cs v := ⟨h.at_.drewN q, h.apart⟩

/-- One record more at the end of a row, and where it lies then. -/
theorem run_append_sp {P : Program} {W w0 : World} {B : Nat} {e1 : TypeId} {s1 : Nat} {a1 : Option Addr} {n1 c1 : Nat} {xs1 : List Value} (t ty : TypeId)
    {z : Value} {bytes : Nat} (ht : P.underlying t = some (.slice e1)) (hinfo : (P.info? e1).map (fun i => (i.zero, i.size, i.bytes)) = some (some z, s1, bytes)) (hzs : z.cells.size = s1) (hsz : 0 < s1)
    (h2 : One W B w0 e1 s1 a1 n1 c1 xs1) (A : Option Addr) (m c : Nat) (news : List Value) (hm : news.length = m * s1) (hat : CellsAt w0 A news) (h1 : ∀ u ∈ news, u.oneCell' = true)
    (hm0 : 0 < m) (h63 : n1 + m ≤ maxLen) (hbytes : (n1 + m) * bytes ≤ 140737488355328) :
    ∃ ad' cap' w', (Builtin.append_ #[t, t] ty #[.slice a1 n1 c1, .slice A m c]).run P w0 = .ok (.slice ad' (n1 + m) cap') w' ∧ One W B w' e1 s1 ad' (n1 + m) cap' (xs1 ++ news) ∧ w0.grownBy w' (Value.ownBlock (.slice a1 n1 c1)) ∧ Spared w0 (.slice a1 n1 c1) (.slice ad' (n1 + m) cap') := by
  obtain ⟨i, hi, hz, hsi, hby⟩ := info_parts hinfo
  have hne : news ≠ [] := fun e => by
    rw [e] at hm
    have := Nat.mul_pos hm0 hsz
    simp at hm
    omega
  obtain ⟨b, o, rfl, _, hc⟩ := hat.spot hne
  have hcells : ∀ j u, news[j]? = some u → w0.cell? ((⟨b, o, none⟩ : Addr).add j) = some u := fun j u hu => by
    rw [Addr.add_lit]
    exact hc j u hu
  obtain ⟨v', w', hr, hown', hg', _⟩ := run_append_own (P := P) w0 B t ty e1 i z s1 bytes ht hi hz hsi hby hzs hsz _ n1 xs1 h2.own ⟨b, o, none⟩ m c news hm hcells h1 h63 hbytes h2.base
  have hsp := append_spared (P := P) w0 B t ty e1 i z s1 bytes ht hi hz hsi hby hsz _ n1 xs1 h2.own ⟨b, o, none⟩ m c news hm hcells h1 hm0 h63 hbytes v' w' hr
  obtain ⟨a', c', rfl⟩ := ownsRow_shape hown'
  exact ⟨a', c', w', hr, ⟨hown', Nat.le_trans h2.base hg'.size, below_grown_own h2.below h2.own hg' (Nat.le_refl _) h2.base⟩, hg', hsp⟩
theorem step_append_sp {P : Program} {ops : Array Oper} {o : Oper} {act : Act} {K : Act → World → Prop} {Q : Exit → Act → World → Prop} {E : Prop} {w0 : World} (W : World) (B : Nat) {e1 : TypeId} {s1 : Nat} (a1 : Option Addr) (n1 c1 : Nat) (xs1 : List Value)
    (A : Option Addr) (m c : Nat) (news : List Value)
    (hgd : o.guard = none) (s x : Operand) (t : TypeId) (ho : o.op = .call { callee := .builtin .append, args := #[s, x], argTypes := #[t, t] })
    (hs : act.eval s = .slice a1 n1 c1) (hx : act.eval x = .slice A m c)
    {z : Value} {bytes : Nat} (ht : P.underlying t = some (.slice e1)) (hinfo : (P.info? e1).map (fun i => (i.zero, i.size, i.bytes)) = some (some z, s1, bytes)) (hzs : z.cells.size = s1) (hsz : 0 < s1)
    (hm : news.length = m * s1) (h1 : ∀ u ∈ news, u.oneCell' = true) (hm0 : 0 < m) (h63 : n1 + m ≤ maxLen) (hbytes : (n1 + m) * bytes ≤ 140737488355328)
    (h2 : One W B w0 e1 s1 a1 n1 c1 xs1) (hat : CellsAt w0 A news)
    (h : ∀ ad' cap' w', One W B w' e1 s1 ad' (n1 + m) cap' (xs1 ++ news) → w0.grownBy w' (Value.ownBlock (.slice a1 n1 c1)) → Spared w0 (.slice a1 n1 c1) (.slice ad' (n1 + m) cap') → K (act.put o.dst (.slice ad' (n1 + m) cap')) w') :
    if Region.wanted o (yielded ops act.tmps) = true then Oper.wp P o act w0 K Q else E := by
  have hw : Region.wanted o (yielded ops act.tmps) = true := by simp [Region.wanted, hgd]
  rw [if_pos hw]
  obtain ⟨ad', cap', w', hr, h3, h4, h5⟩ := run_append_sp (P := P) t o.type ht hinfo hzs hsz h2 A m c news hm hat h1 hm0 h63 hbytes
  unfold Oper.wp execOp
  simp only [ho, resolve, invoke, builtin, Sem.run_bind, Sem.run_pure, Result.andThen_ok, List.map_toArray, List.map_cons, List.map_nil, hs, hx, hr]
  exact h ad' cap' w' h3 h4 h5

/-- The same, and the old cells stay where they were. -/
theorem run_append_fr {P : Program} {W w0 : World} {B : Nat} {e1 : TypeId} {s1 : Nat} {g1 n1 c1 : Nat} {xs1 : List Value} (t ty : TypeId)
    {z : Value} {bytes : Nat} (ht : P.underlying t = some (.slice e1)) (hinfo : (P.info? e1).map (fun i => (i.zero, i.size, i.bytes)) = some (some z, s1, bytes)) (hzs : z.cells.size = s1) (hsz : 0 < s1)
    (h2 : One W B w0 e1 s1 (some ⟨g1, 0, none⟩) n1 c1 xs1) (A : Option Addr) (m c : Nat) (news : List Value) (hm : news.length = m * s1) (hat : CellsAt w0 A news) (h1 : ∀ u ∈ news, u.oneCell' = true)
    (hm0 : 0 < m) (h63 : n1 + m ≤ maxLen) (hbytes : (n1 + m) * bytes ≤ 140737488355328) :
    ∃ ad' cap' w', (Builtin.append_ #[t, t] ty #[.slice (some ⟨g1, 0, none⟩) n1 c1, .slice A m c]).run P w0 = .ok (.slice ad' (n1 + m) cap') w' ∧ One W B w' e1 s1 ad' (n1 + m) cap' (xs1 ++ news) ∧ w0.grownBy w' (Value.ownBlock (.slice (some ⟨g1, 0, none⟩) n1 c1)) ∧ Spared w0 (.slice (some ⟨g1, 0, none⟩) n1 c1) (.slice ad' (n1 + m) cap') ∧ ∀ j, j < n1 * s1 → w'.cell? ⟨g1, j, none⟩ = w0.cell? ⟨g1, j, none⟩ := by
  obtain ⟨ad', cap', w', hr, h3, h4, h5⟩ := run_append_sp (P := P) t ty ht hinfo hzs hsz h2 A m c news hm hat h1 hm0 h63 hbytes
  refine ⟨ad', cap', w', hr, h3, h4, h5, fun j hj => ?_⟩
  obtain ⟨i, hi, hz, hsi, hby⟩ := info_parts hinfo
  subst hsi
  subst hby
  have hne : news ≠ [] := fun e => by
    rw [e] at hm
    have := Nat.mul_pos hm0 hsz
    simp at hm
    omega
  obtain ⟨b, o, rfl, _, hc⟩ := hat.spot hne
  have hcells : ∀ j u, news[j]? = some u → w0.cell? ((⟨b, o, none⟩ : Addr).add j) = some u := fun j u hu => by
    rw [Addr.add_lit]
    exact hc j u hu
  rcases h2.own.2 with ⟨hv, _⟩ | ⟨g, cap, cur, hv, hbg, hg, hnc, hcm, hcs, htake⟩
  · simp at hv
  · obtain ⟨rfl, rfl⟩ := (by simpa using hv : g1 = g ∧ c1 = cap)
    by_cases hroom : n1 + m ≤ c1
    · have hfit : n1 * i.size + news.length ≤ cur.size := by rw [hm, hcs, ← Nat.add_mul]; exact Nat.mul_le_mul_right _ hroom
      have e1 := run_append_room (P := P) w0 t ty _ i ht hi g1 n1 c1 cur hg ⟨b, o, none⟩ m c news hm hcells h1 hroom hfit
      rw [e1] at hr
      injection hr with k1 _
      simp only [Value.slice.injEq] at k1
      obtain ⟨k1, _, _⟩ := k1
      subst k1
      rw [h3.own.cellAt j (by rw [Nat.add_mul]; omega), h2.own.cellAt j hj, List.getElem?_append_left (by rw [h2.own.1]; exact hj)]
    · have e1 := run_append_grow (P := P) w0 t ty _ i z ht hi hz ⟨g1, 0, none⟩ n1 c1 xs1 h2.own.1 (h2.own.cells (g := g1) rfl) ⟨b, o, none⟩ m c news hm hcells (by omega) (by simp only [maxLen] at h63; omega) (growslice_fits (by omega) hbytes)
      rw [e1] at hr
      injection hr with _ k2
      subst k2
      have hlt : g1 < w0.heap.size := (Array.getElem?_eq_some_iff.1 hg).1
      exact World.cell?_of_block (Below.heap_alloc w0.drew _ g1 hlt)
theorem step_append_fr {P : Program} {ops : Array Oper} {o : Oper} {act : Act} {K : Act → World → Prop} {Q : Exit → Act → World → Prop} {E : Prop} {w0 : World} (W : World) (B : Nat) {e1 : TypeId} {s1 : Nat} (g1 n1 c1 : Nat) (xs1 : List Value)
    (A : Option Addr) (m c : Nat) (news : List Value)
    (hgd : o.guard = none) (s x : Operand) (t : TypeId) (ho : o.op = .call { callee := .builtin .append, args := #[s, x], argTypes := #[t, t] })
    (hs : act.eval s = .slice (some ⟨g1, 0, none⟩) n1 c1) (hx : act.eval x = .slice A m c)
    {z : Value} {bytes : Nat} (ht : P.underlying t = some (.slice e1)) (hinfo : (P.info? e1).map (fun i => (i.zero, i.size, i.bytes)) = some (some z, s1, bytes)) (hzs : z.cells.size = s1) (hsz : 0 < s1)
    (hm : news.length = m * s1) (h1 : ∀ u ∈ news, u.oneCell' = true) (hm0 : 0 < m) (h63 : n1 + m ≤ maxLen) (hbytes : (n1 + m) * bytes ≤ 140737488355328)
    (h2 : One W B w0 e1 s1 (some ⟨g1, 0, none⟩) n1 c1 xs1) (hat : CellsAt w0 A news)
    (h : ∀ ad' cap' w', One W B w' e1 s1 ad' (n1 + m) cap' (xs1 ++ news) → w0.grownBy w' (Value.ownBlock (.slice (some ⟨g1, 0, none⟩) n1 c1)) → Spared w0 (.slice (some ⟨g1, 0, none⟩) n1 c1) (.slice ad' (n1 + m) cap') → (∀ j, j < n1 * s1 → w'.cell? ⟨g1, j, none⟩ = w0.cell? ⟨g1, j, none⟩) → K (act.put o.dst (.slice ad' (n1 + m) cap')) w') :
    if Region.wanted o (yielded ops act.tmps) = true then Oper.wp P o act w0 K Q else E := by
  have hw : Region.wanted o (yielded ops act.tmps) = true := by simp [Region.wanted, hgd]
  rw [if_pos hw]
  obtain ⟨ad', cap', w', hr, h3, h4, h5, h6⟩ := run_append_fr (P := P) t o.type ht hinfo hzs hsz h2 A m c news hm hat h1 hm0 h63 hbytes
  unfold Oper.wp execOp
  simp only [ho, resolve, invoke, builtin, Sem.run_bind, Sem.run_pure, Result.andThen_ok, List.map_toArray, List.map_cons, List.map_nil, hs, hx, hr]
  exact h ad' cap' w' h3 h4 h5 h6

end Go.Proofs.Ytehppjilnacjlaa
