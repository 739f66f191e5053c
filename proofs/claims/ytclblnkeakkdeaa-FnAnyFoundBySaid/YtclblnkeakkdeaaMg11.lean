/-
  Where a row lies behind an append: in its own block, or in a new one. So two rows of one type that lie apart stay apart. No conditions.
  Blocks that lie beside a row that grows. No program is read. No conditions.
  Words for rows of records of three numbers. No program is read here. No conditions.
  The contracts of the model's functions PieceOk, PieceHas and GrowPiece. Condition: texts have at most 2^22 bytes.
  Help for the contracts of the program's pieces: parts of texts, where pieces begin, room of rows. No conditions.
-/
import Derived.Test.YtclblnkeakkdeaaMg9
import Derived.Test.YtclblnkeakkdeaaMg1
import Derived.Test.YtclblnkeakkdeaaMg2
import Derived.Test.YtclblnkeakkdeaaProg
import Derived.Lib.Hide
import Derived.Deep.QuietTactic
import Derived.BigQuiet
import Derived.IntWalk
namespace Go.Proofs.Ytclblnkeakkdeaa
open Go.RowKit

/-- What lies in other blocks than a row lies in other blocks than the row that was appended to. -/
def Spared (w : World) (v v' : Value) : Prop := ∀ q, q < w.heap.size → v.ownBlock ≠ some q → v'.ownBlock ≠ some q

theorem append_spared {P : Program} (w : World) (base : Nat) (t ty e : TypeId) (i : TypeInfo) (z : Value) (size bytes : Nat) (ht : P.underlying t = some (.slice e)) (hi : P.info? e = some i) (hz : i.zero = some z)
    (hsize : i.size = size) (hby : i.bytes = bytes) (hsz : 0 < size)
    (v : Value) (n : Nat) (xs : List Value) (hown : w.ownsRow base e size v n xs)
    (a : Addr) (m c : Nat) (news : List Value) (hl : news.length = m * size) (hnews : ∀ j u, news[j]? = some u → w.cell? (a.add j) = some u) (h1 : ∀ u ∈ news, u.oneCell' = true) (hm : 0 < m)
    (h63 : n + m ≤ maxLen) (hbytes : (n + m) * bytes ≤ 140737488355328) (v' : Value) (w' : World)
    (hr : (Builtin.append_ #[t, t] ty #[v, .slice (some a) m c]).run P w = .ok v' w') : Spared w v v' := by
  subst hsize
  subst hby
  have hsmall : n + m ≤ 9223372036854775807 := by simp only [maxLen] at h63; omega
  intro q hq hne
  rcases hown.2 with ⟨rfl, rfl⟩ | ⟨g, cap, cur, rfl, hbg, hg, hnc, hcm, hcs, htake⟩
  · have e1 := run_append_nil (P := P) w t ty e i z ht hi hz a m c news hl hnews hm (by omega) (by have hb := hbytes; simp only [Nat.zero_add] at hb; omega)
    rw [e1] at hr
    injection hr with h2 _
    subst h2
    simp only [Value.ownBlock, ne_eq, Option.some.injEq]
    omega
  · by_cases hroom : n + m ≤ cap
    · have hfit : n * i.size + news.length ≤ cur.size := by rw [hl, hcs, ← Nat.add_mul]; exact Nat.mul_le_mul_right _ hroom
      have e1 := run_append_room (P := P) w t ty e i ht hi g n cap cur hg a m c news hl hnews h1 hroom hfit
      rw [e1] at hr
      injection hr with h2 _
      subst h2
      exact hne
    · have e1 := run_append_grow (P := P) w t ty e i z ht hi hz ⟨g, 0, none⟩ n cap xs hown.1 (hown.cells (g := g) rfl) a m c news hl hnews (by omega) (by omega) (growslice_fits (by omega) hbytes)
      rw [e1] at hr
      injection hr with h2 _
      subst h2
      simp only [Value.ownBlock, ne_eq, Option.some.injEq]
      omega

/-- One element more in a row; what lies apart stays apart. -/
theorem wpList_append_apart {P : Program} {W w0 : World} {ops : Array Oper} {rest : List Oper} {o : Oper} {act : Act} {Q : Exit → Act → World → Prop} {B : Nat} {e1 : TypeId} {s1 : Nat} {a1 : Option Addr} {n1 c1 : Nat} {xs1 : List Value}
    (hgd : o.guard = none) (s x : Operand) (t : TypeId)
    (ho : o.op = .call { callee := .builtin .append, args := #[s, x], argTypes := #[t, t] })
    {z : Value} {bytes : Nat} (ht : P.underlying t = some (.slice e1)) (hinfo : (P.info? e1).map (fun i => (i.zero, i.size, i.bytes)) = some (some z, s1, bytes)) (hzs : z.cells.size = s1) (hsz : 0 < s1)
    (h2 : One W B w0 e1 s1 a1 n1 c1 xs1) (hs : act.eval s = .slice a1 n1 c1)
    (us : Array Value) (hx : act.eval x = .slice (some ⟨w0.heap.size, 0, none⟩) 1 1) (hl : us.size = s1) (h1 : ∀ u ∈ us.toList, u.oneCell' = true)
    (h63 : n1 + 1 ≤ maxLen) (hbytes : (n1 + 1) * bytes ≤ 140737488355328)
    (h : ∀ ad' cap' w', One W B w' e1 s1 ad' (n1 + 1) cap' (xs1 ++ us.toList) → w0.grownBy w' (Value.ownBlock (.slice a1 n1 c1)) → Spared w0 (.slice a1 n1 c1) (.slice ad' (n1 + 1) cap') → wpList P ops Q rest (act.put o.dst (.slice ad' (n1 + 1) cap')) w') :
    wpList P ops Q (o :: rest) act (w0.alloc (.cells us e1)) := by
  obtain ⟨i, hi, hz, hsi, hby⟩ := info_parts hinfo
  have hcell : ∀ j u, us.toList[j]? = some u → (w0.alloc (.cells us e1)).cell? ((⟨w0.heap.size, 0, none⟩ : Addr).add j) = some u := by
    intro j u hj
    rw [Addr.add_lit, cell_of_row _ w0.heap.size (0 + j) us e1 (0, 0) (heap_alloc_new w0 _)]
    simpa using hj
  have hown2 : (w0.alloc (.cells us e1)).ownsRow B e1 s1 (.slice a1 n1 c1) n1 xs1 := h2.own.alloc _
  obtain ⟨v', w', hr, hown', hg', _⟩ := run_append_own (P := P) (w0.alloc (.cells us e1)) B t o.type e1 i z s1 bytes ht hi hz hsi hby hzs hsz _ n1 xs1 hown2 ⟨w0.heap.size, 0, none⟩ 1 1 us.toList (by simp [hl]) hcell h1 h63 hbytes (by have := h2.base; simp; omega)
  have hsp := append_spared (P := P) (w0.alloc (.cells us e1)) B t o.type e1 i z s1 bytes ht hi hz hsi hby hsz _ n1 xs1 hown2 ⟨w0.heap.size, 0, none⟩ 1 1 us.toList (by simp [hl]) hcell h1 (by omega) h63 hbytes v' w' hr
  obtain ⟨a', c', rfl⟩ := ownsRow_shape hown'
  have hG : w0.grownBy w' (Value.ownBlock (.slice a1 n1 c1)) := grownBy_trans (World.grownBy_alloc w0 _ _) hg'
  refine wpList_plain hgd fun _ hK => ?_
  unfold Oper.wp execOp
  simp only [ho, resolve, invoke, builtin, Sem.run_bind, Sem.run_pure, Result.andThen_ok, List.map_toArray, List.map_cons, List.map_nil, hs, hx, hr]
  exact hK _ _ (h a' c' w' ⟨hown', Nat.le_trans h2.base hG.size, below_grown_own h2.below h2.own hG (Nat.le_refl _) h2.base⟩ hG (fun q hq hne => hsp q (by simp; omega) hne))

/-- Cells that lie apart from a row stay as they are when it grows, and lie apart from what it becomes. -/
structure Beside (w : World) (a : Option Addr) (cs : List Value) (v : Value) : Prop where
  at_ : CellsAt w a cs
  apart : cs ≠ [] → ∀ b o, a = some ⟨b, o, none⟩ → v.ownBlock ≠ some b

theorem Beside.grow {w w' : World} {a : Option Addr} {cs : List Value} {v v' : Value} (h : Beside w a cs v) (hg : w.grownBy w' v.ownBlock) (hs : Spared w v v') : Beside w' a cs v' :=
  ⟨⟨fun hne => by
      obtain ⟨b, o, ha, hb, hc⟩ := h.at_.spot hne
      exact ⟨b, o, ha, Nat.lt_of_lt_of_le hb hg.size, fun j u hj => (World.cell?_of_block (hg.block b hb (fun e => h.apart hne b o ha e.symm))).trans (hc j u hj)⟩⟩,
   fun hne b o ha => by
      obtain ⟨b', o', ha', hb', _⟩ := h.at_.spot hne
      obtain ⟨rfl, rfl⟩ := (by simpa using ha.symm.trans ha' : b = b' ∧ o = o')
      exact hs b hb' (h.apart hne b o ha)⟩

theorem Beside.drewN {w : World} {a : Option Addr} {cs : List Value} {v : Value} (h : Beside w a cs v) (q : Nat) : Beside (w.drewN q) a cs v := ⟨h.at_.drewN q, h.apart⟩

end Go.Proofs.Ytclblnkeakkdeaa

namespace Go.Proofs.Ytclblnkeakkdeaa
open Go.RowKit

/-- A block that the call itself made, beside a row that grows. -/
structure Side (w : World) (B : Nat) (v : Value) (e : TypeId) (b : Nat) (xs : List Value) : Prop where
  at_ : w.heap[b]? = some (.cells xs.toArray e (0, 0))
  base : B ≤ b
  apart : v.ownBlock ≠ some b
theorem Side.lt {w : World} {B : Nat} {v : Value} {e : TypeId} {b : Nat} {xs : List Value} (h : Side w B v e b xs) : b < w.heap.size := (Array.getElem?_eq_some_iff.1 h.at_).1
theorem Side.later {w w' : World} {B : Nat} {v : Value} {e : TypeId} {b : Nat} {xs : List Value} (h : Side w B v e b xs) (hb : Below w.heap.size w w') : Side w' B v e b xs := ⟨(hb.block b h.lt).trans h.at_, h.base, h.apart⟩
theorem Side.drewN {w : World} {B : Nat} {v : Value} {e : TypeId} {b : Nat} {xs : List Value} (h : Side w B v e b xs) (q : Nat) : Side (w.drewN q) B v e b xs := ⟨h.at_, h.base, h.apart⟩
theorem Side.grow {w w' : World} {B : Nat} {v v' : Value} {e : TypeId} {b : Nat} {xs : List Value} (h : Side w B v e b xs) (hg : w.grownBy w' v.ownBlock) (hs : Spared w v v') : Side w' B v' e b xs :=
  ⟨(hg.block b h.lt (fun e => h.apart e.symm)).trans h.at_, h.base, hs b h.lt h.apart⟩
theorem Side.cell {w : World} {B : Nat} {v : Value} {e : TypeId} {b : Nat} {xs : List Value} (h : Side w B v e b xs) (j : Nat) (u : Value) (hj : xs[j]? = some u) : w.cell? ⟨b, j, none⟩ = some u := by
  rw [cell_of_row w b j _ e (0, 0) h.at_]
  simpa using hj
theorem Side.frozen {w : World} {B : Nat} {v : Value} {e : TypeId} {b : Nat} {xs : List Value} (h : Side w B v e b xs) (j : Nat) : w.frozen? ⟨b, j, none⟩ = false := by simp [World.frozen?, h.at_]
theorem Side.fresh {w : World} {B : Nat} {v : Value} (e : TypeId) (xs : List Value) (hB : B ≤ w.heap.size) (hv : ∀ k, v.ownBlock = some k → k < w.heap.size) : Side (w.alloc (.cells xs.toArray e)) B v e w.heap.size xs :=
  ⟨heap_alloc_new w _, hB, fun h => Nat.lt_irrefl _ (hv _ h)⟩
theorem Side.set_self {w : World} {B : Nat} {v : Value} {e : TypeId} {b : Nat} {xs : List Value} (h : Side w B v e b xs) (j : Nat) (u : Value) : Side (w.setCell ⟨b, j, none⟩ u) B v e b (xs.set j u) := by
  refine ⟨?_, h.base, h.apart⟩
  simp only [World.setCell, Array.getElem?_modify, h.at_, if_true, Option.map_some]
  simp
theorem Side.set_other {w : World} {B : Nat} {v : Value} {e : TypeId} {b : Nat} {xs : List Value} (h : Side w B v e b xs) {g : Nat} (hg : b ≠ g) (j : Nat) (u : Value) : Side (w.setCell ⟨g, j, none⟩ u) B v e b xs :=
  ⟨(Below.heap_setCell _ _ _ _ hg).trans h.at_, h.base, h.apart⟩
/-- The row stays while such a block is written. -/
theorem One.beside {W : World} {B : Nat} {w : World} {e : TypeId} {s : Nat} {a : Option Addr} {n c : Nat} {xs : List Value} (h : One W B w e s a n c xs) {g : Nat} (hB : B ≤ g) (hg : (Value.slice a n c).ownBlock ≠ some g) (j : Nat) (u : Value) : One W B (w.setCell ⟨g, j, none⟩ u) e s a n c xs := by
  have hG : w.grownBy (w.setCell ⟨g, j, none⟩ u) (some g) := ⟨rfl, rfl, rfl, by simp [World.setCell], fun k _ hk => Below.heap_setCell _ _ _ _ (fun e => hk (by simp [e]))⟩
  exact ⟨h.own.kept hG (.inr hg), Nat.le_trans h.base hG.size, h.below.grown hG h.base (fun k hk => by injection hk with hk; omega)⟩
theorem One.block_lt {W : World} {B : Nat} {w : World} {e : TypeId} {s : Nat} {a : Option Addr} {n c : Nat} {xs : List Value} (h : One W B w e s a n c xs) : ∀ k, (Value.slice a n c).ownBlock = some k → k < w.heap.size := fun k hk => (h.own.lt k hk).2
/-- Such a block as a row of records. -/
theorem Side.row {W w : World} {B : Nat} {v : Value} {e : TypeId} {b : Nat} {xs : List Value} (h : Side w B v e b xs) {s n : Nat} (hn : xs.length = n * s) (h63 : n ≤ maxLen) (hB : B ≤ w.heap.size) (hb : Below B W w) : One W B w e s (some ⟨b, 0, none⟩) n n xs :=
  ⟨⟨hn, .inr ⟨b, n, xs.toArray, rfl, h.base, h.at_, Nat.le_refl _, h63, by simpa using hn, by rw [← hn]; simp⟩⟩, hB, hb⟩

end Go.Proofs.Ytclblnkeakkdeaa

namespace Go.Proofs.Ytclblnkeakkdeaa
open Go.RowKit

/-- Such rows as the model holds them. -/
def entC (x : En) : List Value := [.int .i64 x.1, .int .i64 x.2.1, .int .i64 x.2.2]
def entsC (l : List En) : List Value := l.flatMap entC
theorem entC_len (x : En) : (entC x).length = 3 := rfl
theorem entsC_len (l : List En) : (entsC l).length = l.length * 3 := flat_len entC 3 entC_len l
theorem entsC_append (l m : List En) : entsC (l ++ m) = entsC l ++ entsC m := by simp [entsC]
theorem entsC_one (l : List En) : ∀ u ∈ entsC l, u.oneCell' = true := by
  intro u hu
  simp only [entsC, List.mem_flatMap, entC] at hu
  obtain ⟨x, _, hx⟩ := hu
  simp only [List.mem_cons, List.not_mem_nil, or_false] at hx
  rcases hx with rfl | rfl | rfl <;> rfl
theorem entsC_snoc (l : List En) (x : En) : entsC (l ++ [x]) = entsC l ++ [.int .i64 x.1, .int .i64 x.2.1, .int .i64 x.2.2] := by rw [entsC_append]; rfl
theorem entsC_take (l : List En) (k : Nat) : (entsC l).take (k * 3) = entsC (l.take k) := by
  induction l generalizing k with
  | nil => simp [entsC]
  | cons x l ih =>
    cases k with
    | zero => simp [entsC]
    | succ k =>
      rw [List.take_succ_cons]
      show (entC x ++ entsC l).take ((k + 1) * 3) = entC x ++ entsC (l.take k)
      rw [List.take_append, entC_len, show (k + 1) * 3 - 3 = k * 3 by omega, ih, List.take_of_length_le (by rw [entC_len]; omega)]
theorem entsC_drop (l : List En) (k : Nat) : (entsC l).drop (k * 3) = entsC (l.drop k) := by
  induction l generalizing k with
  | nil => simp [entsC]
  | cons x l ih =>
    cases k with
    | zero => simp
    | succ k =>
      rw [List.drop_succ_cons]
      show (entC x ++ entsC l).drop ((k + 1) * 3) = entsC (l.drop k)
      rw [List.drop_append, entC_len, show (k + 1) * 3 - 3 = k * 3 by omega, ih, List.drop_of_length_le (by rw [entC_len]; omega)]
      rfl

theorem CellsAt.ent {w : World} {a : Option Addr} {l : List En} (h : CellsAt w a (entsC l)) (hne : l ≠ []) : ∃ b o, a = some ⟨b, o, none⟩ ∧ b < w.heap.size ∧
    ∀ k (hk : k < l.length), w.cell? ⟨b, o + k * 3, none⟩ = some (.int .i64 l[k].1) ∧ w.cell? ⟨b, o + k * 3 + 1, none⟩ = some (.int .i64 l[k].2.1) ∧ w.cell? ⟨b, o + k * 3 + 2, none⟩ = some (.int .i64 l[k].2.2) := by
  obtain ⟨b, o, ha, hb, hc⟩ := h.spot (fun e => by have := congrArg List.length e; rw [entsC_len] at this; simp at this; exact hne (List.length_eq_zero_iff.1 (by omega)))
  refine ⟨b, o, ha, hb, fun k hk => ⟨?_, ?_, ?_⟩⟩
  · have := hc (k * 3 + 0) (.int .i64 l[k].1) (by rw [entsC, flat_get entC 3 entC_len l k 0 hk (by omega)]; rfl)
    simpa using this
  · have := hc (k * 3 + 1) (.int .i64 l[k].2.1) (by rw [entsC, flat_get entC 3 entC_len l k 1 hk (by omega)]; rfl)
    rwa [← Nat.add_assoc] at this
  · have := hc (k * 3 + 2) (.int .i64 l[k].2.2) (by rw [entsC, flat_get entC 3 entC_len l k 2 hk (by omega)]; rfl)
    rwa [← Nat.add_assoc] at this
theorem ent_cells {w : World} {a : Option Addr} {l : List En} (h : CellsAt w a (entsC l)) {i : Nat} {x y z : Int} (hi : i < l.length) (hm : l[i] = (x, y, z)) :
    ∃ b o, a = some ⟨b, o, none⟩ ∧ b < w.heap.size ∧ w.cell? ⟨b, o + i * 3, none⟩ = some (.int .i64 x) ∧ w.cell? ⟨b, o + i * 3 + 1, none⟩ = some (.int .i64 y) ∧ w.cell? ⟨b, o + i * 3 + 2, none⟩ = some (.int .i64 z) := by
  obtain ⟨b, o, ha, hb, hc⟩ := h.ent (fun e => by rw [e] at hi; simp at hi)
  have h1 := hc i hi
  rw [hm] at h1
  exact ⟨b, o, ha, hb, h1.1, h1.2.1, h1.2.2⟩

theorem ents_len {w : World} {B : Nat} {e : TypeId} {a : Option Addr} {n c : Nat} {l : List En} (h : w.ownsRow B e 3 (.slice a n c) n (entsC l)) : n = l.length := by
  have := h.1
  rw [entsC_len] at this; omega

end Go.Proofs.Ytclblnkeakkdeaa

namespace Go.Proofs.Ytclblnkeakkdeaa
open Go.RowKit

theorem Try.uls7 : Try.prog.underlying 9 = some .string := by kernel_rfl
theorem eq7_no {P Q : ByteArray} (h : ¬ P = Q) : (P.toList == Q.toList) = false := by
  rw [ByteArray.toList_eq, ByteArray.toList_eq]
  refine beq_eq_false_iff_ne.2 fun e => h (ByteArray.ext (Array.toList_inj.1 e))
theorem back_test {s t : ByteArray} {i j k : Nat} (hk : k ≤ backP s t i j) : (0 < i - k ∧ 0 < j - k ∧ sm s t (i - k - 1) (j - k - 1)) ↔ k < backP s t i j := by
  have hle := backP_le s t i j
  constructor
  · rintro ⟨h1, h2, h3⟩
    rcases Nat.lt_or_ge k (backP s t i j) with h | h
    · exact h
    · exfalso
      obtain rfl : k = backP s t i j := by omega
      have h4 := backP_first s t i j
      rw [backP_step h1 h2 h3] at h4
      omega
  · intro h
    have h1 := backP_same s t i j (backP s t i j - 1 - k) (by omega)
    rw [show i - backP s t i j + (backP s t i j - 1 - k) = i - k - 1 by omega, show j - backP s t i j + (backP s t i j - 1 - k) = j - k - 1 by omega] at h1
    exact ⟨by omega, by omega, h1⟩
theorem run_test {s t : ByteArray} {i j k : Nat} (hk : k ≤ runP s t i j) : sm s t (i + k) (j + k) ↔ k < runP s t i j := by
  constructor
  · intro h
    rcases Nat.lt_or_ge k (runP s t i j) with h1 | h1
    · exact h1
    · exfalso
      obtain rfl : k = runP s t i j := by omega
      exact runP_stop s t i j h
  · exact runP_same s t i j k
/-- A number that a block holds. -/
def cellN (w : World) (b j : Nat) : Nat := match w.cell? ⟨b, j, none⟩ with
  | some (.int _ a) => a.toNat
  | _ => 0
theorem cellN_is {w : World} {b j : Nat} {a : Int} (h : w.cell? ⟨b, j, none⟩ = some (.int .i64 a)) : cellN w b j = a.toNat := by rw [cellN, h]



end Go.Proofs.Ytclblnkeakkdeaa

namespace Go.Proofs.Ytclblnkeakkdeaa
open Go.RowKit

theorem alloc_size7 (w : World) (o : Obj) : (w.alloc o).heap.size = w.heap.size + 1 := by simp
theorem pieces_room {s t : ByteArray} (N i j : Nat) (hs : s.size ≤ 1048576) (ht : t.size ≤ 1048576) (hi : i < s.size) (hj : j ≤ t.size) : (piecesN s t N i ++ rowP s t N i j).length ≤ 1099511627776 := by
  have h1 := piecesN_len s t N i
  have h2 := rowP_len s t N i j
  have h3 : i * t.size ≤ 1048575 * 1048576 := Nat.mul_le_mul (by omega) ht
  rw [List.length_append]
  omega
theorem piecesT_room {s t : ByteArray} (n : Int) (hs : s.size ≤ 1048576) (ht : t.size ≤ 1048576) : (piecesT s t n).length ≤ 1099511627776 := by
  unfold piecesT
  split
  · exact Nat.zero_le _
  · have h1 := piecesN_len s t n.toNat s.size
    have h3 : s.size * t.size ≤ 1048576 * 1048576 := Nat.mul_le_mul hs ht
    omega
theorem ents_len7 {w : World} {B : Nat} {e : TypeId} {a : Option Addr} {n c : Nat} {l : List En} (h : w.ownsRow B e 3 (.slice a n c) n (entsC l)) : n = l.length := by
  have := h.1
  rw [entsC_len] at this; omega
/-- What grows around two places, and whether a piece begins there. -/
theorem grow_ways (s t : ByteArray) (N i j : Nat) : (growT s t i j = ((0, 0, 0), false) ∧ ¬ startP s t N i j) ∨
    (∃ r : Nat, growT s t i j = (((i : Int), (j : Int), (r : Int)), true) ∧ startP s t N i j ∧ N ≤ r ∧ pieceN s t i j = ((i : Int), (j : Int), (r : Int))) ∨
    (∃ r : Nat, growT s t i j = (((i : Int), (j : Int), (r : Int)), true) ∧ ¬ startP s t N i j ∧ r < N) ∨
    (∃ (x y : Nat) (z : Nat), growT s t i j = (((x : Int), (y : Int), (z : Int)), true) ∧ ¬ startP s t N i j ∧ x < i) := by
  by_cases hsm : sm s t i j
  · right
    have hg := growT_yes hsm
    have hle := backP_le s t i j
    by_cases hb : backP s t i j = 0
    · have hg2 : growN s t i j = ((i : Int), (j : Int), ((runP s t i j : Nat) : Int)) := by rw [growN, hb]; rfl
      rw [hg2] at hg
      by_cases hN : N ≤ runP s t i j
      · exact .inl ⟨runP s t i j, hg, ⟨hsm, hb, hN⟩, hN, rfl⟩
      · exact .inr (.inl ⟨runP s t i j, hg, fun h => hN h.2.2, by omega⟩)
    · exact .inr (.inr ⟨_, _, _, hg, fun h => hb h.2.1, by omega⟩)
  · left
    exact ⟨growT_no (fun h => hsm (by have := h.2.2; rwa [Int.toNat_natCast, Int.toNat_natCast] at this)), fun h => hsm h.1⟩

/-- Parts of texts: from a place on, and up to one. -/
theorem bt_from {s : ByteArray} {i p : Nat} (h : i + p < s.size) : bt (s.extract i s.size) p = bt s (i + p) := by
  have h1 : p < (s.extract i s.size).size := by rw [ByteArray.size_extract]; omega
  rw [bt_at h1, bt_at h, ByteArray.getElem_extract]
theorem sm_from {s t : ByteArray} {i j p q : Nat} : sm (s.extract i s.size) (t.extract j t.size) p q ↔ sm s t (i + p) (j + q) := by
  have h1 : (s.extract i s.size).size = s.size - i := by rw [ByteArray.size_extract, Nat.min_self]
  have h2 : (t.extract j t.size).size = t.size - j := by rw [ByteArray.size_extract, Nat.min_self]
  constructor
  · rintro ⟨a, b, c⟩
    rw [bt_from (by omega), bt_from (by omega)] at c
    exact ⟨by omega, by omega, c⟩
  · rintro ⟨a, b, c⟩
    exact ⟨by omega, by omega, by rw [bt_from a, bt_from b]; exact c⟩
theorem runP_from (s t : ByteArray) (i j : Nat) : runP (s.extract i s.size) (t.extract j t.size) 0 0 = runP s t i j :=
  runP_is (fun k hk => by rw [sm_from, Nat.zero_add]; exact runP_same s t i j k hk) (fun h => by rw [sm_from, Nat.zero_add] at h; exact runP_stop s t i j h)
theorem sm_upto {s t : ByteArray} {i j p q : Nat} (hi : i ≤ s.size) (hj : j ≤ t.size) (hp : p < i) (hq : q < j) : sm (s.extract 0 i) (t.extract 0 j) p q ↔ sm s t p q := by
  have h1 : (s.extract 0 i).size = i := by rw [ByteArray.size_extract]; omega
  have h2 : (t.extract 0 j).size = j := by rw [ByteArray.size_extract]; omega
  have e1 : bt (s.extract 0 i) p = bt s p := by
    rw [bt_at (by omega), bt_at (by omega), ByteArray.getElem_extract]; simp only [Nat.zero_add]
  have e2 : bt (t.extract 0 j) q = bt t q := by
    rw [bt_at (by omega), bt_at (by omega), ByteArray.getElem_extract]; simp only [Nat.zero_add]
  unfold sm
  rw [e1, e2]
  omega
theorem backP_upto {s t : ByteArray} {i j : Nat} (hi : i ≤ s.size) (hj : j ≤ t.size) : ∀ p q, p ≤ i → q ≤ j → backP (s.extract 0 i) (t.extract 0 j) p q = backP s t p q := by
  intro p
  induction p with
  | zero => intro q _ _; rw [backP_left, backP_left]
  | succ p ih =>
    intro q hp hq
    cases q with
    | zero => rw [backP_right, backP_right]
    | succ q =>
      have h := sm_upto (s := s) (t := t) hi hj (p := p) (q := q) (by omega) (by omega)
      by_cases h2 : sm s t p q
      · rw [backP_yes h2, backP_yes (h.2 h2), ih q (by omega) (by omega)]
      · rw [backP_no h2, backP_no (fun e => h2 (h.1 e))]

/-- What begins at two places. -/
def fromP (s t : ByteArray) (i j : Nat) : En := if 0 < i ∧ 0 < j ∧ sm s t (i - 1) (j - 1) then (0, 0, 0) else pieceN s t i j
theorem fromP_in {s t : ByteArray} {i j : Nat} (h : 0 < i ∧ 0 < j ∧ sm s t (i - 1) (j - 1)) : fromP s t i j = (0, 0, 0) := by rw [fromP, if_pos h]
theorem fromP_out {s t : ByteArray} {i j : Nat} (h : ¬ (0 < i ∧ 0 < j ∧ sm s t (i - 1) (j - 1))) : fromP s t i j = pieceN s t i j := by rw [fromP, if_neg h]
theorem back_pos {s t : ByteArray} {i j : Nat} : (0 < i ∧ 0 < j ∧ sm s t (i - 1) (j - 1)) ↔ 0 < backP s t i j := by
  constructor
  · rintro ⟨h1, h2, h3⟩
    rw [backP_step h1 h2 h3]; omega
  · intro h
    rcases Decidable.em (0 < i ∧ 0 < j ∧ sm s t (i - 1) (j - 1)) with h1 | h1
    · exact h1
    · rw [backP_stop h1] at h; omega
theorem from_ways (s t : ByteArray) (N i j : Nat) (hN : 1 ≤ N) : (fromP s t i j = (0, 0, 0) ∧ ¬ startP s t N i j) ∨
    (∃ r : Nat, fromP s t i j = ((i : Int), (j : Int), (r : Int)) ∧ startP s t N i j ∧ N ≤ r ∧ pieceN s t i j = ((i : Int), (j : Int), (r : Int))) ∨
    (∃ r : Nat, fromP s t i j = ((i : Int), (j : Int), (r : Int)) ∧ ¬ startP s t N i j ∧ r < N) := by
  by_cases h : 0 < i ∧ 0 < j ∧ sm s t (i - 1) (j - 1)
  · exact .inl ⟨fromP_in h, fun h2 => by have := back_pos.1 h; have := h2.2.1; omega⟩
  · right
    have h0 : backP s t i j = 0 := backP_stop h
    have e := fromP_out h
    by_cases hr : N ≤ runP s t i j
    · exact .inl ⟨runP s t i j, e, ⟨runP_same s t i j 0 (by omega), h0, hr⟩, hr, rfl⟩
    · exact .inr ⟨runP s t i j, e, fun h2 => hr h2.2.2, by omega⟩
/-- Where no more n bytes are left nothing begins. -/
theorem rowP_rest {s t : ByteArray} {n i m : Nat} (hm : m ≤ t.size) (h : t.size < m + n) : rowP s t n i t.size = rowP s t n i m := by
  have key : ∀ d, m + d ≤ t.size → rowP s t n i (m + d) = rowP s t n i m := by
    intro d
    induction d with
    | zero => intro _; rfl
    | succ d ih =>
      intro hd
      rw [← Nat.add_assoc, rowP_no, ih (by omega)]
      rintro ⟨h1, _, h3⟩
      have := (runP_room s t i (m + d) (Nat.le_of_lt h1.1) (Nat.le_of_lt h1.2.1)).2
      omega
  have := key (t.size - m) (by omega)
  rwa [show m + (t.size - m) = t.size by omega] at this
theorem rowP_none {s t : ByteArray} {n i : Nat} (h : s.size < i + n) (m : Nat) : rowP s t n i m = [] := by
  induction m with
  | zero => rfl
  | succ m ih =>
    rw [rowP_no, ih]
    rintro ⟨h1, _, h3⟩
    have := (runP_room s t i m (Nat.le_of_lt h1.1) (Nat.le_of_lt h1.2.1)).1
    omega
theorem piecesN_rest {s t : ByteArray} {n k : Nat} (hk : k ≤ s.size) (h : s.size < k + n) : piecesN s t n s.size = piecesN s t n k := by
  have key : ∀ d, k + d ≤ s.size → piecesN s t n (k + d) = piecesN s t n k := by
    intro d
    induction d with
    | zero => intro _; rfl
    | succ d ih =>
      intro hd
      rw [← Nat.add_assoc, piecesN_next, rowP_none (by omega), List.append_nil, ih (by omega)]
  have := key (s.size - k) (by omega)
  rwa [show k + (s.size - k) = s.size by omega] at this
end Go.Proofs.Ytclblnkeakkdeaa
