/-
  Words for memory of no program: one row that the call itself made, slices whose cells read as a list of values, and rows of records. No conditions.
-/
import Derived.Test.YtehppjilnacjlaaOwnA
import Derived.Laws.IdiomStrings
import Derived.Lib.AppendStr
namespace Go.Proofs.Ytehppjilnacjlaa
open Go.RowKit

/-- A row that the call itself made, and nothing that was there is changed. -/
structure One (W : World) (B : Nat) (w : World) (e : TypeId) (s : Nat) (a : Option Addr) (n c : Nat) (xs : List Value) : Prop where
  own : w.ownsRow B e s (.slice a n c) n xs
  base : B ≤ w.heap.size
  below : Below B W w

theorem One.later {W : World} {B : Nat} {w w' : World} {e : TypeId} {s : Nat} {a : Option Addr} {n c : Nat} {xs : List Value} (h : One W B w e s a n c xs) (hb : Below w.heap.size w w') : One W B w' e s a n c xs :=
  ⟨ownsRow_below h.own hb, Nat.le_trans h.base hb.size, h.below.trans (hb.mono h.base)⟩

theorem One.nil (w : World) (e : TypeId) (s : Nat) : One w w.heap.size w e s none 0 0 [] := ⟨World.ownsRow_nil _ _ _ _, Nat.le_refl _, Below.refl _ _⟩

theorem One.empty (w : World) (e : TypeId) (s : Nat) : One w w.heap.size (w.alloc (.cells #[] e)) e s (some ⟨w.heap.size, 0, none⟩) 0 0 [] :=
  ⟨World.ownsRow_lit w #[] 0 (Nat.le_refl _) (Nat.zero_le _) (by simp), heap_le_alloc _ _, (Below.refl _ _).alloc (Nat.le_refl _) _⟩

theorem One.len {W : World} {B : Nat} {w : World} {e : TypeId} {s : Nat} {a : Option Addr} {n c : Nat} {xs : List Value} (h : One W B w e s a n c xs) : xs.length = n * s := h.own.1

/-- One element more in a row. -/
theorem wpList_append_row {P : Program} {W w0 : World} {ops : Array Oper} {rest : List Oper} {o : Oper} {act : Act} {Q : Exit → Act → World → Prop} {B : Nat} {e1 : TypeId} {s1 : Nat} {a1 : Option Addr} {n1 c1 : Nat} {xs1 : List Value}
    (hgd : o.guard = none) (s x : Operand) (t : TypeId)
    (ho : o.op = .call { callee := .builtin .append, args := #[s, x], argTypes := #[t, t] })
    {z : Value} {bytes : Nat} (ht : P.underlying t = some (.slice e1)) (hinfo : (P.info? e1).map (fun i => (i.zero, i.size, i.bytes)) = some (some z, s1, bytes)) (hzs : z.cells.size = s1) (hsz : 0 < s1)
    (h2 : One W B w0 e1 s1 a1 n1 c1 xs1) (hs : act.eval s = .slice a1 n1 c1)
    (us : Array Value) (hx : act.eval x = .slice (some ⟨w0.heap.size, 0, none⟩) 1 1) (hl : us.size = s1) (h1 : ∀ u ∈ us.toList, u.oneCell' = true)
    (h63 : n1 + 1 ≤ maxLen) (hbytes : (n1 + 1) * bytes ≤ 140737488355328)
    (h : ∀ ad' cap' w', One W B w' e1 s1 ad' (n1 + 1) cap' (xs1 ++ us.toList) → wpList P ops Q rest (act.put o.dst (.slice ad' (n1 + 1) cap')) w') :
    wpList P ops Q (o :: rest) act (w0.alloc (.cells us e1)) := by
  obtain ⟨i, hi, hz, hsi, hby⟩ := info_parts hinfo
  refine wpList_append_one hgd s x t ho B e1 i z s1 bytes ht hi hz hsi hby hzs hsz a1 n1 c1 xs1 hs h2.own us hx hl h1 h63 hbytes h2.base ?_
  intro ad' cap' w' hown' hg'
  exact h ad' cap' w' ⟨hown', Nat.le_trans h2.base hg'.size, below_grown_own h2.below h2.own hg' (Nat.le_refl _) h2.base⟩

/-- A slice whose cells read as these. -/
structure CellsAt (w : World) (a : Option Addr) (cs : List Value) : Prop where
  spot : cs ≠ [] → ∃ b o, a = some ⟨b, o, none⟩ ∧ b < w.heap.size ∧ ∀ j v, cs[j]? = some v → w.cell? ⟨b, o + j, none⟩ = some v

theorem cellsAt_own {w : World} {base : Nat} {e : TypeId} {size : Nat} {a : Option Addr} {n cap : Nat} {cs : List Value} (h : w.ownsRow base e size (.slice a n cap) n cs) : CellsAt w a cs := by
  refine ⟨fun hne => ?_⟩
  rcases h.2 with ⟨hv, h0⟩ | ⟨g, cap', cur, hv, hb, hg, _⟩
  · exfalso
    apply hne
    apply List.length_eq_zero_iff.1
    rw [h.1, h0]; simp
  · obtain ⟨rfl, rfl⟩ := (by simpa using hv : a = some ⟨g, 0, none⟩ ∧ cap = cap')
    refine ⟨g, 0, rfl, (Array.getElem?_eq_some_iff.1 hg).1, fun j v hj => ?_⟩
    have := h.cells (g := g) rfl j v hj
    rw [Addr.add_lit] at this
    exact this

theorem CellsAt.same {w w' : World} {a : Option Addr} {cs : List Value} (h : CellsAt w a cs) (hz : w.heap.size ≤ w'.heap.size) (hs : ∀ p : Addr, p.block < w.heap.size → w'.cell? p = w.cell? p) : CellsAt w' a cs :=
  ⟨fun hne => by obtain ⟨b, o, ha, hb, hc⟩ := h.spot hne; exact ⟨b, o, ha, Nat.lt_of_lt_of_le hb hz, fun j v hj => (hs _ hb).trans (hc j v hj)⟩⟩

theorem CellsAt.below {w w' : World} {a : Option Addr} {cs : List Value} (h : CellsAt w a cs) (hb : Below w.heap.size w w') : CellsAt w' a cs := h.same hb.size (fun _ hp => hb.cell hp)

theorem CellsAt.drewN {w : World} {a : Option Addr} {cs : List Value} (h : CellsAt w a cs) (q : Nat) : CellsAt (w.drewN q) a cs := ⟨h.spot⟩

theorem CellsAt.grown {w w' : World} {a : Option Addr} {cs : List Value} {row : Option Nat} (h : CellsAt w a cs) (hg : w.grownBy w' row) (hr : ∀ b o, a = some ⟨b, o, none⟩ → some b ≠ row) : CellsAt w' a cs :=
  ⟨fun hne => by
    obtain ⟨b, o, ha, hb, hc⟩ := h.spot hne
    exact ⟨b, o, ha, Nat.lt_of_lt_of_le hb hg.size, fun j v hj => (World.cell?_of_block (hg.block b hb (hr b o ha))).trans (hc j v hj)⟩⟩

theorem cellsAt_nil (w : World) (a : Option Addr) : CellsAt w a [] := ⟨fun h => absurd rfl h⟩

/-- Cells of rows of records, each of as many cells. -/
theorem flat_len {α : Type} (f : α → List Value) (m : Nat) (hf : ∀ x, (f x).length = m) (l : List α) : (l.flatMap f).length = l.length * m := by
  induction l with
  | nil => simp
  | cons x l ih => simp [hf, ih, Nat.add_mul, Nat.add_comm]

theorem flat_get {α : Type} (f : α → List Value) (m : Nat) (hf : ∀ x, (f x).length = m) (l : List α) (k j : Nat) (hk : k < l.length) (hj : j < m) : (l.flatMap f)[k * m + j]? = (f l[k])[j]? := by
  induction l generalizing k with
  | nil => simp at hk
  | cons x l ih =>
    cases k with
    | zero =>
      simp only [List.flatMap_cons, Nat.zero_mul, Nat.zero_add, List.getElem_cons_zero]
      rw [List.getElem?_append_left (by rw [hf]; exact hj)]
    | succ k =>
      simp only [List.flatMap_cons, List.getElem_cons_succ]
      rw [List.getElem?_append_right (by rw [hf, Nat.add_mul]; omega), hf]
      rw [show (k + 1) * m + j - m = k * m + j from by rw [Nat.add_mul]; omega]
      exact ih k (by simpa using hk)

theorem flat_snoc {α : Type} (f : α → List Value) (l : List α) (x : α) : (l ++ [x]).flatMap f = l.flatMap f ++ f x := by simp

theorem below_drewN2 {B : Nat} {a w w' : World} (h : Below B a w) (e : ∃ q, w' = w.drewN q) : Below B a w' := by obtain ⟨q, rfl⟩ := e; exact below_drewN' h q


/-- A string turned into bytes and back: the same string; what was there stays. -/
theorem bytes_of_string {P : Program} (w : World) (src dst e : TypeId) (s : ByteArray) (hs : P.underlying src = some .string) (hd : P.underlying dst = some (.slice e)) (he : P.underlying e = some (.int .u8)) :
    ∃ a cap w1, (convert src dst (.string s)).run P w = .ok (.slice a s.size cap) w1 ∧ Below w.heap.size w w1 ∧ (convert dst src (.slice a s.size cap)).run P w1 = .ok (.string s) w1 := by
  have h1 := run_bytes_of_string (P := P) w src dst e s hs hd he
  refine ⟨_, _, _, h1, ⟨rfl, rfl, rfl, by simp, fun _ hk => heap_alloc_old w.drew _ hk⟩, ?_⟩
  have h2 := run_convert_bytes_back (P := P) (w.drew.alloc (.cells (bytesRow s (grownCap w s.size 0 e)) e ((bytesRow s (grownCap w s.size 0 e)).size, (bytesRow s (grownCap w s.size 0 e)).size + 1)))
    dst src e ⟨w.heap.size, 0, none⟩ (grownCap w s.size 0 e) s.data.toList hd he hs (fun j hj => by
      rw [Addr.add_lit, cell_of_row _ w.heap.size (0 + j) _ e _ (heap_alloc_new w.drew _)]
      have hj' : j < s.data.size := by simpa using hj
      have hj2 : j < s.size := hj'
      simp [bytesRow, Array.getElem?_append, hj2])
  exact h2

/-- Texts as the model holds them in a row. -/
def strsC (l : List ByteArray) : List Value := l.map Value.string
theorem strsC_len (l : List ByteArray) : (strsC l).length = l.length := by simp [strsC]
theorem strsC_get (l : List ByteArray) (k : Nat) (h : k < l.length) : (strsC l)[k]? = some (.string l[k]) := by simp [strsC, h]
theorem strsC_take (l : List ByteArray) (k : Nat) (h : k < l.length) : strsC (l.take (k + 1)) = strsC (l.take k) ++ [.string l[k]] := by
  rw [List.take_succ_eq_append_getElem h, strsC, List.map_append]; rfl

/-- How many bytes texts have together. -/
def totalS (l : List ByteArray) : Nat := (l.map ByteArray.size).sum
theorem totalS_nil : totalS [] = 0 := rfl
theorem totalS_append (l m : List ByteArray) : totalS (l ++ m) = totalS l + totalS m := by simp [totalS]
theorem totalS_take (l : List ByteArray) (k : Nat) (h : k < l.length) : totalS (l.take (k + 1)) = totalS (l.take k) + l[k].size := by
  rw [List.take_succ_eq_append_getElem h, totalS_append]; simp [totalS]
theorem totalS_take_le (l : List ByteArray) (k : Nat) : totalS (l.take k) ≤ totalS l := by
  have h := totalS_append (l.take k) (l.drop k)
  rw [List.take_append_drop] at h; omega
theorem totalS_get (l : List ByteArray) (k : Nat) (h : k < l.length) : l[k].size ≤ totalS l := by
  have h1 := totalS_take l k h
  have h2 := totalS_take_le l (k + 1)
  omega

/-- A cell of a slice of texts. -/
theorem CellsAt.str {w : World} {a : Option Addr} {l : List ByteArray} (h : CellsAt w a (strsC l)) (hne : l ≠ []) : ∃ b o, a = some ⟨b, o, none⟩ ∧ b < w.heap.size ∧ ∀ k (hk : k < l.length), w.cell? ⟨b, o + k, none⟩ = some (.string l[k]) := by
  obtain ⟨b, o, ha, hb, hc⟩ := h.spot (by simpa [strsC] using hne)
  exact ⟨b, o, ha, hb, fun k hk => hc k _ (strsC_get l k hk)⟩


/-- The bytes of a string are appended. -/
theorem wpList_append_text {P : Program} {W w0 : World} {ops : Array Oper} {rest : List Oper} {o : Oper} {act : Act} {Q : Exit → Act → World → Prop} {B : Nat} {e1 : TypeId} {a1 : Option Addr} {n1 c1 : Nat} {l : List UInt8}
    (hgd : o.guard = none) (sl x : Operand) (t u : TypeId)
    (ho : o.op = .call { callee := .builtin .append, args := #[sl, x], argTypes := #[t, u] })
    (ht : P.underlying t = some (.slice e1)) (hu : P.underlying u = some .string) (hinfo : (P.info? e1).map (fun i => (i.zero, i.size, i.bytes)) = some (some (.int .u8 0), 1, 1))
    (h2 : One W B w0 e1 1 a1 n1 c1 (byteCells l)) (hs : act.eval sl = .slice a1 n1 c1) (s : ByteArray) (hx : act.eval x = .string s)
    (h63 : n1 + s.size ≤ maxLen) (hbytes : n1 + s.size ≤ 140737488355328)
    (h : ∀ ad' cap' w', One W B w' e1 1 ad' (n1 + s.size) cap' (byteCells (l ++ s.data.toList)) → wpList P ops Q rest (act.put o.dst (.slice ad' (n1 + s.size) cap')) w') :
    wpList P ops Q (o :: rest) act w0 := by
  obtain ⟨i, hi, hz, hsi, hby⟩ := info_parts hinfo
  refine Lib.wpList_append_own_string _ hgd sl x t u ho B e1 i ht hu hi hz hsi hby _ n1 (byteCells l) hs h2.own s hx h63 hbytes h2.base ?_
  intro v' w' hown' hg' _
  obtain ⟨a', c', rfl⟩ := ownsRow_shape hown'
  refine h a' c' w' ⟨?_, Nat.le_trans h2.base hg'.size, below_grown_own h2.below h2.own hg' (Nat.le_refl _) h2.base⟩
  rw [byteCells_append]
  have e : Lib.strCells s = byteCells s.data.toList := by simp [Lib.strCells, byteCells]
  rw [← e]
  exact hown'


/-- A new row of as many elements as asked for. -/
theorem make_own {P : Program} (t e : TypeId) {z : Value} {size bytes : Nat} (ht : P.underlying t = some (.slice e)) (hinfo : (P.info? e).map (fun i => (i.zero, i.size, i.bytes)) = some (some z, size, bytes))
    (n : Nat) (hb : bytes * n ≤ 281474976710656) (h63 : n ≤ maxLen) (w : World) :
    ∃ zs w', (Instr.makeSlice t (.int .i64 (n : Int)) (.int .i64 (n : Int))).run P w = .ok (.slice (some ⟨w.heap.size, 0, none⟩) n n) w' ∧
      zs.length = n * size ∧ One w w.heap.size w' e size (some ⟨w.heap.size, 0, none⟩) n n zs := by
  obtain ⟨i, hi, hz, hsi, hby⟩ := info_parts hinfo
  obtain ⟨w', h1, h2, h3⟩ := run_make_full (P := P) w w.heap.size t e i z size ht hi hz hsi .i64 .i64 n (by rw [hby]; exact hb) h63 (Nat.le_refl _)
  exact ⟨_, w', h1, h2.1, h2, h3.size, ⟨h3.os, h3.tape, h3.output, h3.size, fun k hk => h3.block k hk (by simp)⟩⟩

/-- One cell of a row is written behind those that are written. -/
theorem set_next {A zs : List Value} {j : Nat} (hA : A.length = j) (hj : j < zs.length) (v : Value) : (A ++ zs.drop j).set j v = (A ++ [v]) ++ zs.drop (j + 1) := by
  rw [List.set_append, if_neg (by omega), hA, Nat.sub_self, List.drop_eq_getElem_cons hj, List.set_cons_zero, List.append_assoc]
  rfl

theorem One.stored {W : World} {B : Nat} {w : World} {e : TypeId} {s g n c : Nat} {xs : List Value} (h : One W B w e s (some ⟨g, 0, none⟩) n c xs) (j : Nat) (v : Value) : One W B (w.setCell ⟨g, j, none⟩ v) e s (some ⟨g, 0, none⟩) n c (xs.set j v) := by
  have hst := h.own.stored j v
  exact ⟨hst.1, Nat.le_trans h.base hst.2.size, h.below.grown hst.2 h.base (fun k hk => (h.own.lt k (by simpa [Value.ownBlock] using hk)).1)⟩

theorem One.frozen {W : World} {B : Nat} {w : World} {e : TypeId} {s g n c : Nat} {xs : List Value} (h : One W B w e s (some ⟨g, 0, none⟩) n c xs) (j : Nat) : w.frozen? ⟨g, j, none⟩ = false := h.own.frozenAt j
theorem One.cell {W : World} {B : Nat} {w : World} {e : TypeId} {s g n c : Nat} {xs : List Value} (h : One W B w e s (some ⟨g, 0, none⟩) n c xs) (j : Nat) (hj : j < n * s) : ∃ v, w.cell? ⟨g, j, none⟩ = some v := by
  rw [h.own.cellAt j hj]
  exact ⟨_, List.getElem?_eq_getElem (by rw [h.len]; exact hj)⟩
theorem One.addr {W : World} {B : Nat} {w : World} {e : TypeId} {s : Nat} {a : Option Addr} {n c : Nat} {xs : List Value} (h : One W B w e s a n c xs) (hn : 0 < n) : ∃ g, a = some ⟨g, 0, none⟩ := by
  rcases h.own.2 with ⟨hv, h0⟩ | ⟨g, cap', cur, hv, _⟩
  · omega
  · exact ⟨g, (by simpa using hv : a = some ⟨g, 0, none⟩ ∧ c = cap').1⟩
theorem One.at_ {W : World} {B : Nat} {w : World} {e : TypeId} {s : Nat} {a : Option Addr} {n c : Nat} {xs : List Value} (h : One W B w e s a n c xs) : CellsAt w a xs := cellsAt_own h.own
theorem One.drewN {W : World} {B : Nat} {w : World} {e : TypeId} {s : Nat} {a : Option Addr} {n c : Nat} {xs : List Value} (h : One W B w e s a n c xs) (q : Nat) : One W B (w.drewN q) e s a n c xs := ⟨h.own, h.base, below_drewN' h.below q⟩
theorem One.cap {W : World} {B : Nat} {w : World} {e : TypeId} {s : Nat} {a : Option Addr} {n c : Nat} {xs : List Value} (h : One W B w e s a n c xs) : n ≤ c ∧ c ≤ maxLen := by
  rcases h.own.2 with ⟨hv, h0⟩ | ⟨g, cap', cur, hv, _, _, hc, hm, _⟩
  · obtain ⟨rfl, rfl, rfl⟩ := (by simpa using hv : a = none ∧ n = 0 ∧ c = 0)
    exact ⟨Nat.le_refl _, by decide⟩
  · obtain ⟨rfl, rfl⟩ := (by simpa using hv : a = some ⟨g, 0, none⟩ ∧ c = cap')
    exact ⟨hc, hm⟩


theorem own_cell {w : World} {B : Nat} {e : TypeId} {s g n c : Nat} {xs : List Value} (h : w.ownsRow B e s (.slice (some ⟨g, 0, none⟩) n c) n xs) (j : Nat) (hj : j < n * s) : ∃ v, w.cell? ⟨g, j, none⟩ = some v := by
  rw [h.cellAt j hj]
  exact ⟨_, List.getElem?_eq_getElem (by rw [h.1]; exact hj)⟩


/-- A row stays while a newer one is written. -/
theorem One.kept {W : World} {B : Nat} {w w' w0 : World} {e1 e2 : TypeId} {s1 s2 : Nat} {a1 a2 : Option Addr} {n1 c1 n2 c2 b2 : Nat} {xs1 xs2 : List Value} (h : One W B w e1 s1 a1 n1 c1 xs1) (h0 : w0.ownsRow B e1 s1 (.slice a1 n1 c1) n1 xs1)
    (h2 : w.ownsRow b2 e2 s2 (.slice a2 n2 c2) n2 xs2) (hlt : w0.heap.size ≤ b2) (hB : B ≤ b2) (hg : w.grownBy w' (Value.ownBlock (.slice a2 n2 c2))) : One W B w' e1 s1 a1 n1 c1 xs1 :=
  ⟨ownsRow_older h0 h.own h2 hlt hg, Nat.le_trans h.base hg.size, below_grown_own h.below h2 hg hB h.base⟩

/-- The written row itself. -/
theorem One.written {W : World} {B : Nat} {w w' : World} {e : TypeId} {s : Nat} {a : Option Addr} {n c : Nat} {xs ys : List Value} (h : One W B w e s a n c xs) (h2 : w'.ownsRow B e s (.slice a n c) n ys) (hg : w.grownBy w' (Value.ownBlock (.slice a n c))) : One W B w' e s a n c ys :=
  ⟨h2, Nat.le_trans h.base hg.size, below_grown_own h.below h.own hg (Nat.le_refl _) h.base⟩


/-- A row that the call itself made, in a block from lo up to hi. -/
structure RowIn (w : World) (lo hi : Nat) (e : TypeId) (s : Nat) (a : Option Addr) (n c : Nat) (xs : List Value) : Prop where
  own : w.ownsRow lo e s (.slice a n c) n xs
  top : ∀ k, Value.ownBlock (.slice a n c) = some k → k < hi
  hi : hi ≤ w.heap.size

theorem One.row {W : World} {B : Nat} {w : World} {e : TypeId} {s : Nat} {a : Option Addr} {n c : Nat} {xs : List Value} (h : One W B w e s a n c xs) : RowIn w B w.heap.size e s a n c xs :=
  ⟨h.own, fun k hk => (h.own.lt k hk).2, Nat.le_refl _⟩

theorem RowIn.at_ {w : World} {lo hi : Nat} {e : TypeId} {s : Nat} {a : Option Addr} {n c : Nat} {xs : List Value} (h : RowIn w lo hi e s a n c xs) : CellsAt w a xs := cellsAt_own h.own

theorem RowIn.later {w w' : World} {lo hi : Nat} {e : TypeId} {s : Nat} {a : Option Addr} {n c : Nat} {xs : List Value} (h : RowIn w lo hi e s a n c xs) (hb : Below w.heap.size w w') : RowIn w' lo hi e s a n c xs :=
  ⟨ownsRow_below h.own hb, h.top, Nat.le_trans h.hi hb.size⟩

theorem RowIn.drewN {w : World} {lo hi : Nat} {e : TypeId} {s : Nat} {a : Option Addr} {n c : Nat} {xs : List Value} (h : RowIn w lo hi e s a n c xs) (q : Nat) : RowIn (w.drewN q) lo hi e s a n c xs := ⟨h.own, h.top, h.hi⟩

/-- Another row, in other blocks, is written. -/
theorem RowIn.kept {w w' : World} {lo hi lo2 hi2 : Nat} {e e2 : TypeId} {s s2 : Nat} {a a2 : Option Addr} {n c n2 c2 : Nat} {xs xs2 : List Value} (h : RowIn w lo hi e s a n c xs) (g : RowIn w lo2 hi2 e2 s2 a2 n2 c2 xs2) (hg : w.grownBy w' (Value.ownBlock (.slice a2 n2 c2)))
    (hd : hi ≤ lo2 ∨ hi2 ≤ lo) : RowIn w' lo hi e s a n c xs := by
  refine ⟨h.own.kept hg ?_, h.top, Nat.le_trans h.hi hg.size⟩
  cases hv : Value.ownBlock (.slice a n c) with
  | none => exact Or.inl rfl
  | some k =>
    right
    intro e
    have a1 := h.own.lt k hv
    have a2 := h.top k hv
    have a3 := g.own.lt k e.symm
    have a4 := g.top k e.symm
    omega

theorem RowIn.written {w w' : World} {lo hi : Nat} {e : TypeId} {s : Nat} {a : Option Addr} {n c : Nat} {xs ys : List Value} (h : RowIn w lo hi e s a n c xs) (h2 : w'.ownsRow lo e s (.slice a n c) n ys) (hg : w.grownBy w' (Value.ownBlock (.slice a n c))) : RowIn w' lo hi e s a n c ys :=
  ⟨h2, h.top, Nat.le_trans h.hi hg.size⟩

theorem RowIn.below {W w w' : World} {B lo hi : Nat} {e : TypeId} {s : Nat} {a : Option Addr} {n c : Nat} {xs : List Value} (h : RowIn w lo hi e s a n c xs) (hb : Below B W w) (hg : w.grownBy w' (Value.ownBlock (.slice a n c))) (hB : B ≤ lo) (hs : B ≤ w.heap.size) : Below B W w' :=
  below_grown_own hb h.own hg hB hs


/-- Two rows of one making, of different types. -/
theorem Two.row1 {W : World} {B : Nat} {w : World} {e1 : TypeId} {s1 : Nat} {a1 : Option Addr} {n1 c1 : Nat} {xs1 : List Value} {e2 : TypeId} {s2 : Nat} {a2 : Option Addr} {n2 c2 : Nat} {xs2 : List Value} (h : Two W B w e1 s1 a1 n1 c1 xs1 e2 s2 a2 n2 c2 xs2) : RowIn w B w.heap.size e1 s1 a1 n1 c1 xs1 :=
  ⟨h.one, fun k hk => (h.one.lt k hk).2, Nat.le_refl _⟩
theorem Two.row2 {W : World} {B : Nat} {w : World} {e1 : TypeId} {s1 : Nat} {a1 : Option Addr} {n1 c1 : Nat} {xs1 : List Value} {e2 : TypeId} {s2 : Nat} {a2 : Option Addr} {n2 c2 : Nat} {xs2 : List Value} (h : Two W B w e1 s1 a1 n1 c1 xs1 e2 s2 a2 n2 c2 xs2) : RowIn w B w.heap.size e2 s2 a2 n2 c2 xs2 :=
  ⟨h.two, fun k hk => (h.two.lt k hk).2, Nat.le_refl _⟩
/-- A row of another type is written. -/
theorem RowIn.keptT {w w' : World} {lo hi lo2 hi2 : Nat} {e e2 : TypeId} {s s2 : Nat} {a a2 : Option Addr} {n c n2 c2 : Nat} {xs xs2 : List Value} (h : RowIn w lo hi e s a n c xs) (g : RowIn w lo2 hi2 e2 s2 a2 n2 c2 xs2) (hg : w.grownBy w' (Value.ownBlock (.slice a2 n2 c2)))
    (he : e ≠ e2) : RowIn w' lo hi e s a n c xs := ⟨ownsRow_kept_apart h.own g.own he hg, h.top, Nat.le_trans h.hi hg.size⟩


theorem append_none {P : Program} (w : World) (base : Nat) (t ty e : TypeId) (i : TypeInfo) (size : Nat) (ht : P.underlying t = some (.slice e)) (hi : P.info? e = some i) (v : Value) (n : Nat) (xs : List Value) (hown : w.ownsRow base e size v n xs) (c : Nat) :
    (Builtin.append_ #[t, t] ty #[v, .slice none 0 c]).run P w = .ok v w := by
  rcases hown.2 with ⟨rfl, rfl⟩ | ⟨g, cap, cur, rfl, _, _, hnc, _⟩
  · simp [Builtin.append_, run_underlying ht, sizeOf, typeInfo, hi, Builtin.lenOf, Builtin.firstCells]
  · simp [Builtin.append_, run_underlying ht, sizeOf, typeInfo, hi, Builtin.lenOf, Builtin.firstCells, hnc, storeCells]

/-- The elements of a slice are appended to a row of the call's own. -/
theorem run_append_src {P : Program} {W w0 : World} {B : Nat} {e1 : TypeId} {s1 : Nat} {a1 : Option Addr} {n1 c1 : Nat} {xs1 : List Value} (t ty : TypeId)
    {z : Value} {bytes : Nat} (ht : P.underlying t = some (.slice e1)) (hinfo : (P.info? e1).map (fun i => (i.zero, i.size, i.bytes)) = some (some z, s1, bytes)) (hzs : z.cells.size = s1) (hsz : 0 < s1)
    (h2 : One W B w0 e1 s1 a1 n1 c1 xs1) (A : Option Addr) (m c : Nat) (news : List Value) (hm : news.length = m * s1) (hat : CellsAt w0 A news) (h1 : ∀ u ∈ news, u.oneCell' = true)
    (h63 : n1 + m ≤ maxLen) (hbytes : (n1 + m) * bytes ≤ 140737488355328) :
    ∃ ad' cap' w', (Builtin.append_ #[t, t] ty #[.slice a1 n1 c1, .slice A m c]).run P w0 = .ok (.slice ad' (n1 + m) cap') w' ∧ One W B w' e1 s1 ad' (n1 + m) cap' (xs1 ++ news) ∧ w0.grownBy w' (Value.ownBlock (.slice a1 n1 c1)) := by
  obtain ⟨i, hi, hz, hsi, hby⟩ := info_parts hinfo
  have fin : ∀ v' w', w'.ownsRow B e1 s1 v' (n1 + m) (xs1 ++ news) → w0.grownBy w' (Value.ownBlock (.slice a1 n1 c1)) → ∃ ad' cap', v' = .slice ad' (n1 + m) cap' ∧ One W B w' e1 s1 ad' (n1 + m) cap' (xs1 ++ news) := fun v' w' hown' hg' => by
    obtain ⟨a', c', rfl⟩ := ownsRow_shape hown'
    exact ⟨a', c', rfl, hown', Nat.le_trans h2.base hg'.size, below_grown_own h2.below h2.own hg' (Nat.le_refl _) h2.base⟩
  cases A with
  | none =>
    have hn : news = [] := by
      cases news with
      | nil => rfl
      | cons u r => obtain ⟨b, o, h, _⟩ := hat.spot (by simp); cases h
    subst hn
    have hm0 : m = 0 := by
      rcases Nat.eq_zero_or_pos m with h | h
      · exact h
      · have := Nat.mul_pos h hsz; simp at hm; omega
    subst hm0
    refine ⟨a1, c1, w0, append_none w0 B t ty e1 i s1 ht hi _ n1 xs1 h2.own c, ?_, World.grownBy.refl _ _⟩
    simpa using h2
  | some ad =>
    have hcells : ∀ j u, news[j]? = some u → w0.cell? (ad.add j) = some u := by
      intro j u hu
      have hne : news ≠ [] := fun e => by rw [e] at hu; simp at hu
      obtain ⟨b, o, h, _, hc⟩ := hat.spot hne
      injection h with h
      subst h
      rw [Addr.add_lit]
      exact hc j u hu
    obtain ⟨v', w', hr, hown', hg', _⟩ := run_append_own (P := P) w0 B t ty e1 i z s1 bytes ht hi hz hsi hby hzs hsz _ n1 xs1 h2.own ad m c news hm hcells h1 h63 hbytes h2.base
    obtain ⟨ad', cap', rfl, hone⟩ := fin v' w' hown' hg'
    exact ⟨ad', cap', w', hr, hone, hg'⟩

theorem wp_append_src {P : Program} {W w0 : World} {o : Oper} {act : Act} {K : Act → World → Prop} {Q : Exit → Act → World → Prop} {B : Nat} {e1 : TypeId} {s1 : Nat} {a1 : Option Addr} {n1 c1 : Nat} {xs1 : List Value}
    (s x : Operand) (t : TypeId) (ho : o.op = .call { callee := .builtin .append, args := #[s, x], argTypes := #[t, t] })
    {z : Value} {bytes : Nat} (ht : P.underlying t = some (.slice e1)) (hinfo : (P.info? e1).map (fun i => (i.zero, i.size, i.bytes)) = some (some z, s1, bytes)) (hzs : z.cells.size = s1) (hsz : 0 < s1)
    (h2 : One W B w0 e1 s1 a1 n1 c1 xs1) (hs : act.eval s = .slice a1 n1 c1) (A : Option Addr) (m c : Nat) (hx : act.eval x = .slice A m c) (news : List Value) (hm : news.length = m * s1) (hat : CellsAt w0 A news) (h1 : ∀ u ∈ news, u.oneCell' = true)
    (h63 : n1 + m ≤ maxLen) (hbytes : (n1 + m) * bytes ≤ 140737488355328)
    (h : ∀ ad' cap' w', One W B w' e1 s1 ad' (n1 + m) cap' (xs1 ++ news) → w0.grownBy w' (Value.ownBlock (.slice a1 n1 c1)) → K (act.put o.dst (.slice ad' (n1 + m) cap')) w') : o.wp P act w0 K Q := by
  obtain ⟨ad', cap', w', hr, h3, h4⟩ := run_append_src (P := P) t o.type ht hinfo hzs hsz h2 A m c news hm hat h1 h63 hbytes
  unfold Oper.wp execOp
  simp only [ho, resolve, invoke, builtin, Sem.run_bind, Sem.run_pure, Result.andThen_ok, List.map_toArray, List.map_cons, List.map_nil, hs, hx, hr]
  exact h ad' cap' w' h3 h4

theorem wpList_append_src {P : Program} {W w0 : World} {ops : Array Oper} {rest : List Oper} {o : Oper} {act : Act} {Q : Exit → Act → World → Prop} {B : Nat} {e1 : TypeId} {s1 : Nat} {a1 : Option Addr} {n1 c1 : Nat} {xs1 : List Value}
    (hgd : o.guard = none) (s x : Operand) (t : TypeId) (ho : o.op = .call { callee := .builtin .append, args := #[s, x], argTypes := #[t, t] })
    {z : Value} {bytes : Nat} (ht : P.underlying t = some (.slice e1)) (hinfo : (P.info? e1).map (fun i => (i.zero, i.size, i.bytes)) = some (some z, s1, bytes)) (hzs : z.cells.size = s1) (hsz : 0 < s1)
    (h2 : One W B w0 e1 s1 a1 n1 c1 xs1) (hs : act.eval s = .slice a1 n1 c1) (A : Option Addr) (m c : Nat) (hx : act.eval x = .slice A m c) (news : List Value) (hm : news.length = m * s1) (hat : CellsAt w0 A news) (h1 : ∀ u ∈ news, u.oneCell' = true)
    (h63 : n1 + m ≤ maxLen) (hbytes : (n1 + m) * bytes ≤ 140737488355328)
    (h : ∀ ad' cap' w', One W B w' e1 s1 ad' (n1 + m) cap' (xs1 ++ news) → wpList P ops Q rest (act.put o.dst (.slice ad' (n1 + m) cap')) w') : wpList P ops Q (o :: rest) act w0 :=
  wpList_plain hgd fun _ hK => wp_append_src s x t ho ht hinfo hzs hsz h2 hs A m c hx news hm hat h1 h63 hbytes fun ad' cap' w' h3 _ => hK _ _ (h ad' cap' w' h3)

theorem step_append_src {P : Program} {W w0 : World} {ops : Array Oper} {o : Oper} {act : Act} {K : Act → World → Prop} {Q : Exit → Act → World → Prop} {E : Prop} {B : Nat} {e1 : TypeId} {s1 : Nat} {a1 : Option Addr} {n1 c1 : Nat} {xs1 : List Value}
    (hgd : o.guard = none) (s x : Operand) (t : TypeId) (ho : o.op = .call { callee := .builtin .append, args := #[s, x], argTypes := #[t, t] })
    {z : Value} {bytes : Nat} (ht : P.underlying t = some (.slice e1)) (hinfo : (P.info? e1).map (fun i => (i.zero, i.size, i.bytes)) = some (some z, s1, bytes)) (hzs : z.cells.size = s1) (hsz : 0 < s1)
    (h2 : One W B w0 e1 s1 a1 n1 c1 xs1) (hs : act.eval s = .slice a1 n1 c1) (A : Option Addr) (m c : Nat) (hx : act.eval x = .slice A m c) (news : List Value) (hm : news.length = m * s1) (hat : CellsAt w0 A news) (h1 : ∀ u ∈ news, u.oneCell' = true)
    (h63 : n1 + m ≤ maxLen) (hbytes : (n1 + m) * bytes ≤ 140737488355328)
    (h : ∀ ad' cap' w', One W B w' e1 s1 ad' (n1 + m) cap' (xs1 ++ news) → w0.grownBy w' (Value.ownBlock (.slice a1 n1 c1)) → K (act.put o.dst (.slice ad' (n1 + m) cap')) w') :
    if Region.wanted o (yielded ops act.tmps) = true then Oper.wp P o act w0 K Q else E := by
  have hw : Region.wanted o (yielded ops act.tmps) = true := by simp [Region.wanted, hgd]
  rw [if_pos hw]
  exact wp_append_src s x t ho ht hinfo hzs hsz h2 hs A m c hx news hm hat h1 h63 hbytes h

/-- A slice from a place on, and up to one. -/
theorem CellsAt.from_ {w : World} {a : Option Addr} {cs : List Value} (h : CellsAt w a cs) (n c i size : Nat) (_hs : 0 < size) (hn : cs.length = n * size) (hc : n ≤ c) : CellsAt w (if c = i then a else a.map (·.add (i * size))) (cs.drop (i * size)) := by
  refine ⟨fun hne => ?_⟩
  have hlt : i * size < cs.length := by
    rcases Nat.lt_or_ge (i * size) cs.length with h1 | h1
    · exact h1
    · exact absurd (List.drop_of_length_le h1) hne
  have hin : i < n := Nat.lt_of_mul_lt_mul_right (by rw [← hn]; exact hlt)
  rw [if_neg (by omega)]
  obtain ⟨b, o, ha, hb, hcell⟩ := h.spot (fun e => by rw [e] at hlt; simp at hlt)
  subst ha
  refine ⟨b, o + i * size, by simp [Addr.add_lit], hb, fun j v hj => ?_⟩
  rw [List.getElem?_drop] at hj
  rw [Nat.add_assoc]
  exact hcell _ v hj
theorem CellsAt.upTo {w : World} {a : Option Addr} {cs : List Value} (h : CellsAt w a cs) (i : Nat) : CellsAt w a (cs.take i) := by
  refine ⟨fun hne => ?_⟩
  obtain ⟨b, o, ha, hb, hc⟩ := h.spot (fun e => hne (by rw [e]; simp))
  refine ⟨b, o, ha, hb, fun j v hj => hc j v ?_⟩
  rw [List.getElem?_take] at hj
  split at hj
  · exact hj
  · cases hj

theorem strsC_one (l : List ByteArray) : ∀ u ∈ strsC l, u.oneCell' = true := by
  intro u hu
  simp only [strsC, List.mem_map] at hu
  obtain ⟨x, _, rfl⟩ := hu
  simp [Value.oneCell']
theorem intCells_one (l : List Int) : ∀ u ∈ intCells l, u.oneCell' = true := by
  intro u hu
  simp only [intCells, List.mem_map] at hu
  obtain ⟨x, _, rfl⟩ := hu
  simp [Value.oneCell']
theorem strsC_append (l m : List ByteArray) : strsC (l ++ m) = strsC l ++ strsC m := by simp [strsC]
theorem strsC_drop (l : List ByteArray) (k : Nat) : (strsC l).drop k = strsC (l.drop k) := by simp [strsC, List.map_drop]
theorem strsC_takeE (l : List ByteArray) (k : Nat) : (strsC l).take k = strsC (l.take k) := by simp [strsC, List.map_take]
theorem intCells_drop (l : List Int) (k : Nat) : (intCells l).drop k = intCells (l.drop k) := by simp [intCells, List.map_drop]
theorem intCells_takeE (l : List Int) (k : Nat) : (intCells l).take k = intCells (l.take k) := by simp [intCells, List.map_take]


/-- A row of a callee's own is one of the caller's own. -/
theorem One.under {W W' : World} {B B' : Nat} {w : World} {e : TypeId} {s : Nat} {a : Option Addr} {n c : Nat} {xs : List Value} (h : One W' B' w e s a n c xs) (hb : Below B W W') (hB : B ≤ B') : One W B w e s a n c xs := by
  refine ⟨⟨h.own.1, ?_⟩, Nat.le_trans hB h.base, hb.trans (h.below.mono hB)⟩
  rcases h.own.2 with h0 | ⟨g, cap, cur, hv, hbg, rest⟩
  · exact .inl h0
  · exact .inr ⟨g, cap, cur, hv, Nat.le_trans hB hbg, rest⟩


theorem own_addr {w : World} {B : Nat} {e : TypeId} {s : Nat} {a : Option Addr} {n c : Nat} {xs : List Value} (h : w.ownsRow B e s (.slice a n c) n xs) (hn : 0 < n) : ∃ g, a = some ⟨g, 0, none⟩ := by
  rcases h.2 with ⟨hv, h0⟩ | ⟨g, cap', cur, hv, _⟩
  · omega
  · exact ⟨g, (by simpa using hv : a = some ⟨g, 0, none⟩ ∧ c = cap').1⟩

/-- A cell of the second of two rows is written. -/
theorem Two.stored2 {W : World} {B : Nat} {w : World} {e1 : TypeId} {s1 : Nat} {a1 : Option Addr} {n1 c1 : Nat} {xs1 : List Value} {e2 : TypeId} {s2 g n2 c2 : Nat} {xs2 : List Value} (h : Two W B w e1 s1 a1 n1 c1 xs1 e2 s2 (some ⟨g, 0, none⟩) n2 c2 xs2) (j : Nat) (v : Value) :
    Two W B (w.setCell ⟨g, j, none⟩ v) e1 s1 a1 n1 c1 xs1 e2 s2 (some ⟨g, 0, none⟩) n2 c2 (xs2.set j v) := by
  have hst := h.two.stored j v
  have hg : w.grownBy (w.setCell ⟨g, j, none⟩ v) (Value.ownBlock (.slice (some ⟨g, 0, none⟩) n2 c2)) := hst.2
  exact ⟨ownsRow_kept_apart h.one h.two h.ne hg, hst.1, h.ne, Nat.le_trans h.base hg.size, below_grown_own h.below h.two hg (Nat.le_refl _) h.base⟩

theorem own_under {w : World} {B B' : Nat} {e : TypeId} {s : Nat} {v : Value} {n : Nat} {xs : List Value} (h : w.ownsRow B' e s v n xs) (hB : B ≤ B') : w.ownsRow B e s v n xs := by
  refine ⟨h.1, ?_⟩
  rcases h.2 with h0 | ⟨g, cap, cur, hv, hbg, rest⟩
  · exact .inl h0
  · exact .inr ⟨g, cap, cur, hv, Nat.le_trans hB hbg, rest⟩

theorem Two.under {W W' : World} {B B' : Nat} {w : World} {e1 : TypeId} {s1 : Nat} {a1 : Option Addr} {n1 c1 : Nat} {xs1 : List Value} {e2 : TypeId} {s2 : Nat} {a2 : Option Addr} {n2 c2 : Nat} {xs2 : List Value} (h : Two W' B' w e1 s1 a1 n1 c1 xs1 e2 s2 a2 n2 c2 xs2) (hb : Below B W W') (hB : B ≤ B') :
    Two W B w e1 s1 a1 n1 c1 xs1 e2 s2 a2 n2 c2 xs2 := ⟨own_under h.one hB, own_under h.two hB, h.ne, Nat.le_trans hB h.base, hb.trans (h.below.mono hB)⟩

theorem Two.later {W : World} {B : Nat} {w w' : World} {e1 : TypeId} {s1 : Nat} {a1 : Option Addr} {n1 c1 : Nat} {xs1 : List Value} {e2 : TypeId} {s2 : Nat} {a2 : Option Addr} {n2 c2 : Nat} {xs2 : List Value} (h : Two W B w e1 s1 a1 n1 c1 xs1 e2 s2 a2 n2 c2 xs2) (hb : Below w.heap.size w w') : Two W B w' e1 s1 a1 n1 c1 xs1 e2 s2 a2 n2 c2 xs2 :=
  ⟨ownsRow_below h.one hb, ownsRow_below h.two hb, h.ne, Nat.le_trans h.base hb.size, h.below.trans (hb.mono h.base)⟩

theorem Two.drewN {W : World} {B : Nat} {w : World} {e1 : TypeId} {s1 : Nat} {a1 : Option Addr} {n1 c1 : Nat} {xs1 : List Value} {e2 : TypeId} {s2 : Nat} {a2 : Option Addr} {n2 c2 : Nat} {xs2 : List Value} (h : Two W B w e1 s1 a1 n1 c1 xs1 e2 s2 a2 n2 c2 xs2) (q : Nat) : Two W B (w.drewN q) e1 s1 a1 n1 c1 xs1 e2 s2 a2 n2 c2 xs2 :=
  ⟨h.one, h.two, h.ne, h.base, below_drewN' h.below q⟩

theorem Two.nil (w : World) (e1 : TypeId) (s1 : Nat) (e2 : TypeId) (s2 : Nat) (hne : e1 ≠ e2) : Two w w.heap.size w e1 s1 none 0 0 [] e2 s2 none 0 0 [] := ⟨World.ownsRow_nil _ _ _ _, World.ownsRow_nil _ _ _ _, hne, Nat.le_refl _, Below.refl _ _⟩


theorem One.drew {W : World} {B : Nat} {w : World} {e : TypeId} {s : Nat} {a : Option Addr} {n c : Nat} {xs : List Value} (h : One W B w e s a n c xs) : One W B w.drew e s a n c xs := ⟨h.own, h.base, h.below.drew⟩
theorem One.alloc {W : World} {B : Nat} {w : World} {e : TypeId} {s : Nat} {a : Option Addr} {n c : Nat} {xs : List Value} (h : One W B w e s a n c xs) (o : Obj) : One W B (w.alloc o) e s a n c xs :=
  ⟨h.own.alloc o, Nat.le_trans h.base (heap_le_alloc _ _), h.below.alloc h.base o⟩
theorem One.second (w : World) (o : Obj) (e : TypeId) (s : Nat) : One w w.heap.size ((w.alloc o).alloc (.cells #[] e)) e s (some ⟨w.heap.size + 1, 0, none⟩) 0 0 [] := ⟨own_second _ _ _ _, heap_le_alloc2 _ _ _, below_alloc2 _ _ _⟩

theorem cellsAt_new (w : World) (e : TypeId) (v : Value) (g : Nat) (hg : g = w.heap.size) : CellsAt (w.alloc (.cells #[v] e)) (some ⟨g, 0, none⟩) [v] := by
  subst hg
  refine ⟨fun _ => ⟨w.heap.size, 0, rfl, by simp, fun j u hj => ?_⟩⟩
  rw [cell_of_row _ w.heap.size (0 + j) _ e (0, 0) (heap_alloc_new w _)]
  simpa using hj
theorem CellsAt.allocW {w : World} {a : Option Addr} {cs : List Value} (h : CellsAt w a cs) (o : Obj) : CellsAt (w.alloc o) a cs := h.below ((Below.refl _ _).alloc (Nat.le_refl _) o)
theorem CellsAt.drewW {w : World} {a : Option Addr} {cs : List Value} (h : CellsAt w a cs) : CellsAt w.drew a cs := ⟨h.spot⟩
theorem CellsAt.from_lit {w : World} {b o : Nat} {cs : List Value} (h : CellsAt w (some ⟨b, o, none⟩) cs) (i : Nat) : CellsAt w (some ⟨b, o + i, none⟩) (cs.drop i) := by
  refine ⟨fun hne => ?_⟩
  obtain ⟨b', o', ha, hb, hc⟩ := h.spot (fun e => hne (by rw [e]; simp))
  obtain ⟨rfl, rfl⟩ := (by simpa using ha : b = b' ∧ o = o')
  refine ⟨b, o + i, rfl, hb, fun j v hj => ?_⟩
  rw [List.getElem?_drop] at hj
  rw [Nat.add_assoc]
  exact hc _ v hj


/-- As step_append_src, the new length and the new cells under names. -/
theorem step_append_to {P : Program} {ops : Array Oper} {o : Oper} {act : Act} {K : Act → World → Prop} {Q : Exit → Act → World → Prop} {E : Prop} {w0 : World} (W : World) (B : Nat) {e1 : TypeId} {s1 : Nat} (a1 : Option Addr) (n1 c1 : Nat) (xs1 : List Value)
    (A : Option Addr) (m c : Nat) (news : List Value) (n' : Nat) (xs' : List Value) (hn' : n1 + m = n') (hx' : xs1 ++ news = xs')
    (hgd : o.guard = none) (s x : Operand) (t : TypeId) (ho : o.op = .call { callee := .builtin .append, args := #[s, x], argTypes := #[t, t] })
    (hs : act.eval s = .slice a1 n1 c1) (hx : act.eval x = .slice A m c)
    {z : Value} {bytes : Nat} (ht : P.underlying t = some (.slice e1)) (hinfo : (P.info? e1).map (fun i => (i.zero, i.size, i.bytes)) = some (some z, s1, bytes)) (hzs : z.cells.size = s1) (hsz : 0 < s1)
    (hm : news.length = m * s1) (h1 : ∀ u ∈ news, u.oneCell' = true) (h63 : n' ≤ maxLen) (hbytes : n' * bytes ≤ 140737488355328)
    (h2 : One W B w0 e1 s1 a1 n1 c1 xs1) (hat : CellsAt w0 A news)
    (h : ∀ ad' cap' w', One W B w' e1 s1 ad' n' cap' xs' → w0.grownBy w' (Value.ownBlock (.slice a1 n1 c1)) → K (act.put o.dst (.slice ad' n' cap')) w') :
    if Region.wanted o (yielded ops act.tmps) = true then Oper.wp P o act w0 K Q else E := by
  subst hn' hx'
  exact step_append_src hgd s x t ho ht hinfo hzs hsz h2 hs A m c hx news hm hat h1 h63 hbytes h

end Go.Proofs.Ytehppjilnacjlaa
