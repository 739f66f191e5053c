/-
  Words for memory of no program: a row of bytes that the call itself made out of a string, to which bytes of strings are appended, beside one record of three numbers that the call made, too. No conditions but the bounds that each law names.
-/
import Derived.Test.YtapombdkkcjodaaMem
import Derived.Laws.IdiomStrings
import Derived.Lib.AppendStr
namespace Go.Proofs.Ytapombdkkcjodaa
open Go.RowKit

/-- A row of bytes that the call itself made, none of whose cells is held. -/
structure TailRow (w : World) (base : Nat) (e : TypeId) (a : Option Addr) (n c : Nat) (l : List UInt8) : Prop where
  len : l.length = n
  fits : n ≤ c ∧ c ≤ maxLen
  row : ∃ g cur fz, a = some ⟨g, 0, none⟩ ∧ base ≤ g ∧ w.heap[g]? = some (.cells cur e fz) ∧ (fz.2 = 0 ∨ cur.size ≤ fz.1) ∧ cur.size = c ∧ cur.toList.take n = byteCells l

theorem TailRow.later {w w' : World} {base : Nat} {e : TypeId} {a : Option Addr} {n c : Nat} {l : List UInt8} (h : TailRow w base e a n c l) (hb : Below w.heap.size w w') : TailRow w' base e a n c l := by
  obtain ⟨g, cur, fz, h1, h2, h3, h4⟩ := h.row
  exact ⟨h.len, h.fits, g, cur, fz, h1, h2, (hb.block g (Array.getElem?_eq_some_iff.1 h3).1).trans h3, h4⟩
theorem TailRow.kept {w w' : World} {base : Nat} {e : TypeId} {a : Option Addr} {n c : Nat} {l : List UInt8} {row : Option Nat} (h : TailRow w base e a n c l) (hg : w.grownBy w' row) (hne : ∀ b, a = some ⟨b, 0, none⟩ → some b ≠ row) : TailRow w' base e a n c l := by
  obtain ⟨g, cur, fz, h1, h2, h3, h4⟩ := h.row
  exact ⟨h.len, h.fits, g, cur, fz, h1, h2, (hg.block g (Array.getElem?_eq_some_iff.1 h3).1 (hne g h1)).trans h3, h4⟩
theorem TailRow.cells {w : World} {base : Nat} {e : TypeId} {a : Option Addr} {n c : Nat} {l : List UInt8} (h : TailRow w base e a n c l) : ∃ g, a = some ⟨g, 0, none⟩ ∧ base ≤ g ∧ g < w.heap.size ∧ ∀ j u, (byteCells l)[j]? = some u → w.cell? ⟨g, j, none⟩ = some u := by
  obtain ⟨g, cur, fz, h1, h2, h3, h4, h5, h6⟩ := h.row
  refine ⟨g, h1, h2, (Array.getElem?_eq_some_iff.1 h3).1, fun j u hj => ?_⟩
  rw [cell_of_row w g j cur e fz h3, ← Array.getElem?_toList]
  rw [← h6, List.getElem?_take] at hj
  split at hj
  · exact hj
  · cases hj

/-- Bytes are written one by one into a row none of whose cells is held. -/
theorem stores_tail (P : Program) (g : Nat) (t : TypeId) (fz : Nat × Nat) (o : Nat) (vs : List Value) : ∀ (i : Nat) (cur : Array Value) (w : World), w.heap[g]? = some (.cells cur t fz) → (fz.2 = 0 ∨ cur.size ≤ fz.1) → o + i + vs.length ≤ cur.size → (∀ v ∈ vs, v.oneCell' = true) →
    ∃ cur', (storeCells ⟨g, o, none⟩ vs i).run P w = .ok () (w.setRow g cur') ∧ cur'.size = cur.size ∧ cur'.toList.take (o + i + vs.length) = cur.toList.take (o + i) ++ vs := by
  induction vs with
  | nil => intro i cur w hg _ _ _; exact ⟨cur, by rw [setRow_self w g cur t fz hg]; rfl, rfl, by simp⟩
  | cons v vs ih =>
    intro i cur w hg hfz hl h1
    rw [List.length_cons] at hl
    have hi : o + i < cur.size := by omega
    have hcell : w.cell? ⟨g, o + i, none⟩ = some cur[o + i] := by simp [World.cell?, hg, hi]
    have hfro : w.frozen? ⟨g, o + i, none⟩ = false := by
      simp only [World.frozen?, hg, Bool.and_eq_false_iff, decide_eq_false_iff_not]
      omega
    have hst : (store ((⟨g, o, none⟩ : Addr).add i) v).run P w = .ok () (w.setRow g (cur.setIfInBounds (o + i) v)) := by
      rw [Addr.add_lit, run_store P w _ v _ (h1 v (by simp)), hcell]
      simp [hfro, setCell_eq_setRow w g (o + i) cur t fz v hg]
    obtain ⟨cur', a1, a2, a3⟩ := ih (i + 1) (cur.setIfInBounds (o + i) v) (w.setRow g (cur.setIfInBounds (o + i) v)) (setRow_heap w g cur _ t _ hg) (by simpa using hfz) (by simp; omega) (fun x hx => h1 x (by simp [hx]))
    refine ⟨cur', ?_, by simpa using a2, ?_⟩
    · simp only [storeCells, Sem.run_bind, hst, Result.andThen_ok, a1, setRow_setRow]
    · have e1 : o + i + (v :: vs).length = o + (i + 1) + vs.length := by rw [List.length_cons]; omega
      have e2 : (cur.setIfInBounds (o + i) v).toList.take (o + (i + 1)) = cur.toList.take (o + i) ++ [v] := by
        rw [Array.toList_setIfInBounds, show o + (i + 1) = o + i + 1 by omega, List.take_succ_eq_append_getElem (by simpa using hi), List.getElem_set_self, List.take_set_of_le (Nat.le_refl _)]
      rw [e1, a3, e2, List.append_assoc]
      rfl

/-- Bytes of a string behind such a row. -/
theorem append_tail {P : Program} {w : World} {base : Nat} (t u ty e : TypeId) (i : TypeInfo) (ht : P.underlying t = some (.slice e)) (hu : P.underlying u = some .string) (hi : P.info? e = some i) (hz : i.zero = some (.int .u8 0))
    (hsize : i.size = 1) (hby : i.bytes = 1) {a : Option Addr} {n c : Nat} {l : List UInt8} (hown : TailRow w base e a n c l) (s : ByteArray) (h63 : n + s.size ≤ maxLen) (hbytes : n + s.size ≤ 140737488355328) (hbase : base ≤ w.heap.size) :
    ∃ a' c' w', (Builtin.append_ #[t, u] ty #[.slice a n c, .string s]).run P w = .ok (.slice a' (n + s.size) c') w' ∧ TailRow w' base e a' (n + s.size) c' (l ++ s.data.toList) ∧ w.grownBy w' (Value.ownBlock (.slice a n c)) := by
  obtain ⟨g, cur, fz, rfl, hbg, hg, hfz, hc, htake⟩ := hown.row
  have hfit := hown.fits
  have hlen := hown.len
  have hss : s.data.toList.length = s.size := by rw [Array.length_toList]; rfl
  have hcs : Lib.strCells s = byteCells s.data.toList := by simp [Lib.strCells, byteCells]
  by_cases hroom : n + s.size ≤ c
  · have hf := Lib.run_firstCells_string (P := P) w 1 s
    obtain ⟨cur', a1, a2, a3⟩ := stores_tail P g e fz n (Lib.strCells s) 0 cur w hg hfz (by rw [Lib.strCells_length]; omega) (Lib.strCells_oneCell s)
    refine ⟨_, c, w.setRow g cur', ?_, ⟨by rw [List.length_append, hlen, hss], ⟨hroom, hfit.2⟩, g, cur', fz, rfl, hbg, setRow_heap w g cur _ e _ hg, by rw [a2]; exact hfz, by rw [a2, hc], ?_⟩, ⟨rfl, rfl, rfl, by simp, fun k _ hk => setRow_other w g k _ (fun e => hk (by simp [Value.ownBlock, e]))⟩⟩
    · simp [Builtin.append_, run_underlying ht, run_underlying hu, sizeOf, typeInfo, hi, hsize, Builtin.lenOf, hroom, hf, Addr.add_lit, a1]
    · rw [Nat.add_zero, Lib.strCells_length, htake, hcs] at a3
      rw [a3, byteCells_append]
  · have hr := Lib.run_append_grow_string (P := P) w t u ty e i (.int .u8 0) ht hu hi hz ⟨g, 0, none⟩ n c (byteCells l) (by rw [hsize]; simp [byteCells, hlen]) (fun j v hj => by
      rw [Addr.add_lit, cell_of_row w g (0 + j) cur e fz hg, Nat.zero_add, ← Array.getElem?_toList]
      rw [← htake, List.getElem?_take] at hj
      split at hj
      · exact hj
      · cases hj) s (by omega) (by simp only [maxLen] at h63; omega) (by rw [hby]; exact growslice_fits (by omega) (by omega))
    have hge := grownCap_ge w (n + s.size) c e
    have hcm := grownCap_le_maxLen w (n + s.size) c e h63
    have hbl : (byteCells l).length = n := by simp [byteCells, hlen]
    refine ⟨_, _, _, hr, ⟨by rw [List.length_append, hlen, hss], ⟨hge, hcm⟩, w.heap.size, _, (0, 0), rfl, hbase, heap_alloc_new w.drew _, .inl rfl, ?_, ?_⟩, ⟨rfl, rfl, rfl, by simp, fun k hk _ => heap_alloc_old w.drew _ hk⟩⟩
    · have hz1 : (Value.int IntKind.u8 0).cells.size = 1 := rfl
      simp only [Array.size_append, List.size_toArray, size_zeroCells, hz1, hbl, Lib.strCells_length]
      omega
    · rw [Array.toList_append, Array.toList_append, hcs, byteCells_append]
      refine List.take_left' ?_
      simp [byteCells, hlen]

/-- A string turned into such a row. -/
theorem bytes_tail {P : Program} (w : World) (src dst e : TypeId) (s : ByteArray) (hs : P.underlying src = some .string) (hd : P.underlying dst = some (.slice e)) (he : P.underlying e = some (.int .u8)) (B : Nat) (hB : B ≤ w.heap.size) (h63 : s.size ≤ maxLen) :
    ∃ a cap w1, (convert src dst (.string s)).run P w = .ok (.slice a s.size cap) w1 ∧ TailRow w1 B e a s.size cap s.data.toList ∧ Below w.heap.size w w1 := by
  have h1 := run_bytes_of_string (P := P) w src dst e s hs hd he
  have hge := grownCap_ge w s.size 0 e
  have hsz : (bytesRow s (grownCap w s.size 0 e)).size = grownCap w s.size 0 e := by
    have hs2 : s.data.size = s.size := rfl
    simp only [bytesRow, Array.size_append, Array.size_map, Array.size_replicate]
    omega
  refine ⟨_, _, _, h1, ⟨by rw [Array.length_toList]; rfl, ⟨hge, grownCap_le_maxLen w s.size 0 e h63⟩, w.heap.size, _, _, rfl, hB, heap_alloc_new w.drew _, .inr (Nat.le_refl _), hsz, ?_⟩, ⟨rfl, rfl, rfl, by simp, fun _ hk => heap_alloc_old w.drew _ hk⟩⟩
  rw [bytesRow, Array.toList_append]
  have e1 : (s.data.map fun b => Value.int .u8 b.toNat).toList = byteCells s.data.toList := by simp [byteCells]
  rw [e1]
  refine List.take_left' ?_
  simp [byteCells]
theorem TailRow.back {P : Program} {w : World} {B : Nat} (src dst e : TypeId) {a : Option Addr} {n c : Nat} {l : List UInt8} (h : TailRow w B e a n c l) (hs : P.underlying src = some (.slice e)) (he : P.underlying e = some (.int .u8)) (hd : P.underlying dst = some .string) :
    (convert src dst (.slice a n c)).run P w = .ok (.string ⟨l.toArray⟩) w := by
  obtain ⟨g, rfl, _, _, hc⟩ := h.cells
  have hl := h.len
  subst hl
  refine run_convert_bytes_back w src dst e ⟨g, 0, none⟩ c l hs he hd fun j hj => ?_
  rw [Addr.add_lit, Nat.zero_add]
  exact hc j _ (by simp [byteCells, hj])

/-- Such a row and a record beside it. -/
structure TextRec (W : World) (B : Nat) (w : World) (e1 : TypeId) (a : Option Addr) (n c : Nat) (l : List UInt8) (e2 : TypeId) (g : Nat) (xs : List Value) : Prop where
  text : TailRow w B e1 a n c l
  rec_ : One W B w e2 3 (some ⟨g, 0, none⟩) 1 1 xs
  ne : e1 ≠ e2
theorem TextRec.below {W : World} {B : Nat} {w : World} {e1 : TypeId} {a : Option Addr} {n c : Nat} {l : List UInt8} {e2 : TypeId} {g : Nat} {xs : List Value} (h : TextRec W B w e1 a n c l e2 g xs) : Below B W w := h.rec_.below
theorem TextRec.apart {W : World} {B : Nat} {w : World} {e1 : TypeId} {a : Option Addr} {n c : Nat} {l : List UInt8} {e2 : TypeId} {g : Nat} {xs : List Value} (h : TextRec W B w e1 a n c l e2 g xs) : ∀ b, a = some ⟨b, 0, none⟩ → b ≠ g := by
  rintro b rfl rfl
  obtain ⟨g', cur, fz, h1, _, h3, _⟩ := h.text.row
  simp only [Option.some.injEq, Addr.mk.injEq, and_true] at h1
  subst h1
  rcases h.rec_.own.2 with ⟨h4, _⟩ | ⟨g2, cap, cur2, h4, _, h5, _⟩
  · cases h4
  · simp only [Value.slice.injEq, Option.some.injEq, Addr.mk.injEq, and_true, true_and] at h4
    obtain ⟨rfl, rfl⟩ := h4
    rw [h3] at h5
    simp only [Option.some.injEq, Obj.cells.injEq] at h5
    exact h.ne h5.2.1
theorem TextRec.later {W : World} {B : Nat} {w w' : World} {e1 : TypeId} {a : Option Addr} {n c : Nat} {l : List UInt8} {e2 : TypeId} {g : Nat} {xs : List Value} (h : TextRec W B w e1 a n c l e2 g xs) (hb : Below w.heap.size w w') : TextRec W B w' e1 a n c l e2 g xs :=
  ⟨h.text.later hb, h.rec_.later hb, h.ne⟩
theorem TextRec.stored {W : World} {B : Nat} {w : World} {e1 : TypeId} {a : Option Addr} {n c : Nat} {l : List UInt8} {e2 : TypeId} {g : Nat} {xs : List Value} (h : TextRec W B w e1 a n c l e2 g xs) (j : Nat) (v : Value) : TextRec W B (w.setCell ⟨g, j, none⟩ v) e1 a n c l e2 g (xs.set j v) :=
  ⟨h.text.kept (h.rec_.own.stored j v).2 (fun b hb e => h.apart b hb (by simpa [Value.ownBlock] using e)), h.rec_.stored j v, h.ne⟩

/-- The operation that appends a string's bytes to the row. -/
theorem wpList_append_tail {P : Program} {W w0 : World} {ops : Array Oper} {rest : List Oper} {o : Oper} {act : Act} {Q : Exit → Act → World → Prop} {B : Nat} {e1 : TypeId} {a1 : Option Addr} {n1 c1 : Nat} {l : List UInt8} {e2 : TypeId} {g : Nat} {xs : List Value}
    (hgd : o.guard = none) (sl x : Operand) (t u : TypeId)
    (ho : o.op = .call { callee := .builtin .append, args := #[sl, x], argTypes := #[t, u] })
    (ht : P.underlying t = some (.slice e1)) (hu : P.underlying u = some .string) (hinfo : (P.info? e1).map (fun i => (i.zero, i.size, i.bytes)) = some (some (.int .u8 0), 1, 1))
    (h2 : TextRec W B w0 e1 a1 n1 c1 l e2 g xs) (hs : act.eval sl = .slice a1 n1 c1) (s : ByteArray) (hx : act.eval x = .string s)
    (h63 : n1 + s.size ≤ maxLen) (hbytes : n1 + s.size ≤ 140737488355328)
    (h : ∀ a' c' w', TextRec W B w' e1 a' (n1 + s.size) c' (l ++ s.data.toList) e2 g xs → w0.grownBy w' (Value.ownBlock (.slice a1 n1 c1)) → wpList P ops Q rest (act.put o.dst (.slice a' (n1 + s.size) c')) w') :
    wpList P ops Q (o :: rest) act w0 := by
  obtain ⟨i, hi, hz, hsi, hby⟩ := info_parts hinfo
  refine wpList_plain hgd fun K hK => ?_
  obtain ⟨a', c', w', hr, h3, h4⟩ := append_tail (P := P) t u o.type e1 i ht hu hi hz hsi hby h2.text s h63 hbytes h2.rec_.base
  unfold Oper.wp execOp
  simp only [ho, resolve, invoke, builtin, Sem.run_bind, Sem.run_pure, Result.andThen_ok, List.map_toArray, List.map_cons, List.map_nil, hs, hx, hr]
  refine hK _ _ (h a' c' w' ⟨h3, ⟨h2.rec_.own.kept h4 (.inr fun e => ?_), Nat.le_trans h2.rec_.base h4.size, h2.below.grown h4 h2.rec_.base fun k hk => ?_⟩, h2.ne⟩ h4)
  · obtain ⟨b, rfl, _⟩ := h2.text.cells
    exact h2.apart b rfl (by simpa [Value.ownBlock] using e.symm)
  · obtain ⟨b, rfl, hb, _⟩ := h2.text.cells
    have : b = k := by simpa [Value.ownBlock] using hk
    omega

/-- A record that the call itself made stays beside such a row while bytes are appended. -/
theorem TextRec.beside {W : World} {B : Nat} {w w' : World} {e1 : TypeId} {a : Option Addr} {n c : Nat} {l : List UInt8} {e2 : TypeId} {g : Nat} {xs : List Value} (h : TextRec W B w e1 a n c l e2 g xs) {h2 : Nat} {ys : List Value} (k : One W B w e2 3 (some ⟨h2, 0, none⟩) 1 1 ys)
    (hg : w.grownBy w' (Value.ownBlock (.slice a n c))) : One W B w' e2 3 (some ⟨h2, 0, none⟩) 1 1 ys := by
  obtain ⟨b, hb, hbB, _⟩ := h.text.cells
  have hne : b ≠ h2 := TextRec.apart (⟨h.text, k, h.ne⟩ : TextRec W B w e1 a n c l e2 h2 ys) b hb
  subst hb
  refine ⟨k.own.kept hg (.inr fun e => hne (by simpa [Value.ownBlock] using e.symm)), Nat.le_trans k.base hg.size, k.below.grown hg k.base fun q hq => ?_⟩
  have : b = q := by simpa [Value.ownBlock] using hq
  omega

end Go.Proofs.Ytapombdkkcjodaa
