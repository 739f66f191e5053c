/-
  Laws of no program: appending one element to a slice that the call itself made, turning such a row of bytes into a string, and reading such rows. No conditions but the bounds that each law names.
-/
import Derived.WalkKit
import Derived.Deep.Draws
import Derived.Laws.BytesString
namespace Go.Proofs.Ytehppjilnacjlaa
open Go.RowKit

theorem heap_le_alloc (w : World) (o : Obj) : w.heap.size ≤ (w.alloc o).heap.size := by simp
theorem heap_le_alloc2 (w : World) (o o' : Obj) : w.heap.size ≤ ((w.alloc o).alloc o').heap.size := by simp; omega
theorem below_alloc2 (w : World) (o o' : Obj) : Below w.heap.size w ((w.alloc o).alloc o') := ((Below.refl _ _).alloc (Nat.le_refl _) o).alloc (by simp) o'

/-- A second block that is empty. -/
theorem own_second (w : World) (o : Obj) (e : TypeId) (size : Nat) : ((w.alloc o).alloc (.cells #[] e)).ownsRow w.heap.size e size (.slice (some ⟨w.heap.size + 1, 0, none⟩) 0 0) 0 [] := by
  have h := World.ownsRow_lit (base := w.heap.size) (e := e) (size := size) (w.alloc o) #[] 0 (heap_le_alloc _ _) (Nat.zero_le _) (by simp)
  have e1 : (w.alloc o).heap.size = w.heap.size + 1 := by simp
  rw [e1] at h
  exact h

theorem grownBy_trans {a b c : World} {row : Option Nat} (h : a.grownBy b row) (k : b.grownBy c row) : a.grownBy c row :=
  ⟨k.os.trans h.os, k.tape.trans h.tape, k.output.trans h.output, Nat.le_trans h.size k.size, fun i hi hr => (k.block i (Nat.lt_of_lt_of_le hi h.size) hr).trans (h.block i hi hr)⟩

/-- What is owned is a slice, and as long as it says. -/
theorem ownsRow_shape {w : World} {base : Nat} {e : TypeId} {size : Nat} {v : Value} {n : Nat} {xs : List Value} (h : w.ownsRow base e size v n xs) : ∃ a c, v = .slice a n c := by
  rcases h.2 with ⟨rfl, rfl⟩ | ⟨g, cap, cur, rfl, _⟩
  · exact ⟨_, _, rfl⟩
  · exact ⟨_, _, rfl⟩

/-- Rows of different types are different rows. -/
theorem ownsRow_apart {w : World} {b1 b2 : Nat} {e1 e2 : TypeId} {s1 s2 : Nat} {v1 v2 : Value} {n1 n2 : Nat} {xs1 xs2 : List Value} (h1 : w.ownsRow b1 e1 s1 v1 n1 xs1) (h2 : w.ownsRow b2 e2 s2 v2 n2 xs2) (he : e1 ≠ e2) :
    v1.ownBlock = none ∨ v1.ownBlock ≠ v2.ownBlock := by
  rcases h1.2 with ⟨rfl, rfl⟩ | ⟨g1, cap1, cur1, rfl, _, hg1, _⟩
  · exact Or.inl rfl
  · rcases h2.2 with ⟨rfl, rfl⟩ | ⟨g2, cap2, cur2, rfl, _, hg2, _⟩
    · right; simp [Value.ownBlock]
    · right
      simp only [Value.ownBlock, ne_eq, Option.some.injEq]
      rintro rfl
      rw [hg1] at hg2
      simp at hg2
      exact he hg2.2

theorem ownsRow_kept_apart {w w' : World} {b1 b2 : Nat} {e1 e2 : TypeId} {s1 s2 : Nat} {v1 v2 : Value} {n1 n2 : Nat} {xs1 xs2 : List Value} (h1 : w.ownsRow b1 e1 s1 v1 n1 xs1) (h2 : w.ownsRow b2 e2 s2 v2 n2 xs2) (he : e1 ≠ e2)
    (hg : w.grownBy w' v2.ownBlock) : w'.ownsRow b1 e1 s1 v1 n1 xs1 := h1.kept hg (ownsRow_apart h1 h2 he)

theorem below_grown_own {B base : Nat} {W w w' : World} {e : TypeId} {s : Nat} {v : Value} {n : Nat} {xs : List Value} (h : Below B W w) (hown : w.ownsRow base e s v n xs) (hg : w.grownBy w' v.ownBlock) (hB : B ≤ base) (hs : B ≤ w.heap.size) : Below B W w' :=
  h.grown hg hs (fun k hk => Nat.le_trans hB (hown.lt k hk).1)

/-- What is owned stays owned while nothing that is there is changed. -/
theorem ownsRow_below {w w' : World} {base : Nat} {e : TypeId} {size : Nat} {v : Value} {n : Nat} {xs : List Value} (h : w.ownsRow base e size v n xs) (hb : Below w.heap.size w w') : w'.ownsRow base e size v n xs := by
  refine ⟨h.1, ?_⟩
  rcases h.2 with hn | ⟨g, cap, cur, rfl, hbg, hgg, rest⟩
  · exact .inl hn
  · refine .inr ⟨g, cap, cur, rfl, hbg, ?_, rest⟩
    rw [hb.block g (Array.getElem?_eq_some_iff.1 hgg).1]
    exact hgg

/-- An older row stays while a newer one is written. -/
theorem ownsRow_older {w0 w w' : World} {b1 b2 : Nat} {e1 e2 : TypeId} {s1 s2 : Nat} {v1 v2 : Value} {n1 n2 : Nat} {xs1 xs2 : List Value} (h0 : w0.ownsRow b1 e1 s1 v1 n1 xs1) (h1 : w.ownsRow b1 e1 s1 v1 n1 xs1) (h2 : w.ownsRow b2 e2 s2 v2 n2 xs2)
    (hlt : w0.heap.size ≤ b2) (hg : w.grownBy w' v2.ownBlock) : w'.ownsRow b1 e1 s1 v1 n1 xs1 := by
  refine h1.kept hg ?_
  cases hv : v1.ownBlock with
  | none => exact Or.inl rfl
  | some k =>
    right
    intro e
    have a1 := (h0.lt k hv).2
    have a2 := (h2.lt k e.symm).1
    omega

theorem below_drewN' {B : Nat} {a w : World} (h : Below B a w) (q : Nat) : Below B a (w.drewN q) := ⟨h.os, h.tape, h.output, h.size, h.block⟩

/-- One element that was just laid is appended. -/
theorem wpList_append_one {P : Program} {w0 : World} {ops : Array Oper} {rest : List Oper} {o : Oper} {act : Act} {Q : Exit → Act → World → Prop} (hgd : o.guard = none) (s x : Operand) (t : TypeId)
    (ho : o.op = .call { callee := .builtin .append, args := #[s, x], argTypes := #[t, t] })
    (base : Nat) (e : TypeId) (i : TypeInfo) (z : Value) (size bytes : Nat) (ht : P.underlying t = some (.slice e)) (hi : P.info? e = some i) (hz : i.zero = some z)
    (hsize : i.size = size) (hby : i.bytes = bytes) (hzs : z.cells.size = size) (hsz : 0 < size)
    (ad : Option Addr) (n cap : Nat) (xs : List Value) (hs : act.eval s = .slice ad n cap) (hown : w0.ownsRow base e size (.slice ad n cap) n xs)
    (us : Array Value) (hx : act.eval x = .slice (some ⟨w0.heap.size, 0, none⟩) 1 1) (hl : us.size = size) (h1 : ∀ u ∈ us.toList, u.oneCell' = true)
    (h63 : n + 1 ≤ maxLen) (hbytes : (n + 1) * bytes ≤ 140737488355328) (hbase : base ≤ w0.heap.size)
    (h : ∀ ad' cap' w', w'.ownsRow base e size (.slice ad' (n + 1) cap') (n + 1) (xs ++ us.toList) → w0.grownBy w' (Value.ownBlock (.slice ad n cap)) → wpList P ops Q rest (act.put o.dst (.slice ad' (n + 1) cap')) w') :
    wpList P ops Q (o :: rest) act (w0.alloc (.cells us e)) := by
  refine wpList_append_own (w0.alloc (.cells us e)) hgd s x t ho base e i z size bytes ht hi hz hsize hby hzs hsz _ n xs hs (hown.alloc _) ⟨w0.heap.size, 0, none⟩ 1 1 us.toList hx (by simp [hl]) ?_ h1 h63 hbytes (by simp; omega) ?_
  · intro j u hj
    rw [Addr.add_lit, cell_of_row _ w0.heap.size (0 + j) us e (0, 0) (heap_alloc_new w0 _)]
    simpa using hj
  · intro v' w' hown' hg' _
    obtain ⟨a', c', rfl⟩ := ownsRow_shape hown'
    exact h a' c' w' hown' (grownBy_trans (World.grownBy_alloc w0 _ _) hg')

/-- Two rows of different types that the call itself made, and nothing that was there is changed. -/
structure Two (W : World) (B : Nat) (w : World) (e1 : TypeId) (s1 : Nat) (a1 : Option Addr) (n1 c1 : Nat) (xs1 : List Value) (e2 : TypeId) (s2 : Nat) (a2 : Option Addr) (n2 c2 : Nat) (xs2 : List Value) : Prop where
  one : w.ownsRow B e1 s1 (.slice a1 n1 c1) n1 xs1
  two : w.ownsRow B e2 s2 (.slice a2 n2 c2) n2 xs2
  ne : e1 ≠ e2
  base : B ≤ w.heap.size
  below : Below B W w

theorem Two.swap {W : World} {B : Nat} {w : World} {e1 : TypeId} {s1 : Nat} {a1 : Option Addr} {n1 c1 : Nat} {xs1 : List Value} {e2 : TypeId} {s2 : Nat} {a2 : Option Addr} {n2 c2 : Nat} {xs2 : List Value}
    (h : Two W B w e1 s1 a1 n1 c1 xs1 e2 s2 a2 n2 c2 xs2) : Two W B w e2 s2 a2 n2 c2 xs2 e1 s1 a1 n1 c1 xs1 := ⟨h.two, h.one, h.ne.symm, h.base, h.below⟩

/-- One element more in the first of two rows. -/
theorem wpList_append_fst {P : Program} {W w0 : World} {ops : Array Oper} {rest : List Oper} {o : Oper} {act : Act} {Q : Exit → Act → World → Prop} {B : Nat} {e1 : TypeId} {s1 : Nat} {a1 : Option Addr} {n1 c1 : Nat} {xs1 : List Value} {e2 : TypeId} {s2 : Nat} {a2 : Option Addr} {n2 c2 : Nat} {xs2 : List Value}
    (hgd : o.guard = none) (s x : Operand) (t : TypeId)
    (ho : o.op = .call { callee := .builtin .append, args := #[s, x], argTypes := #[t, t] })
    {z : Value} {bytes : Nat} (ht : P.underlying t = some (.slice e1)) (hinfo : (P.info? e1).map (fun i => (i.zero, i.size, i.bytes)) = some (some z, s1, bytes)) (hzs : z.cells.size = s1) (hsz : 0 < s1)
    (h2 : Two W B w0 e1 s1 a1 n1 c1 xs1 e2 s2 a2 n2 c2 xs2) (hs : act.eval s = .slice a1 n1 c1)
    (us : Array Value) (hx : act.eval x = .slice (some ⟨w0.heap.size, 0, none⟩) 1 1) (hl : us.size = s1) (h1 : ∀ u ∈ us.toList, u.oneCell' = true)
    (h63 : n1 + 1 ≤ maxLen) (hbytes : (n1 + 1) * bytes ≤ 140737488355328)
    (h : ∀ ad' cap' w', Two W B w' e1 s1 ad' (n1 + 1) cap' (xs1 ++ us.toList) e2 s2 a2 n2 c2 xs2 → wpList P ops Q rest (act.put o.dst (.slice ad' (n1 + 1) cap')) w') :
    wpList P ops Q (o :: rest) act (w0.alloc (.cells us e1)) := by
  obtain ⟨i, hi, hz, hsi, hby⟩ := info_parts hinfo
  refine wpList_append_one hgd s x t ho B e1 i z s1 bytes ht hi hz hsi hby hzs hsz a1 n1 c1 xs1 hs h2.one us hx hl h1 h63 hbytes h2.base ?_
  intro ad' cap' w' hown' hg'
  exact h ad' cap' w' ⟨hown', ownsRow_kept_apart h2.two h2.one h2.ne.symm hg', h2.ne, Nat.le_trans h2.base hg'.size, below_grown_own h2.below h2.one hg' (Nat.le_refl _) h2.base⟩

/-- One element more in the second of two rows. -/
theorem wpList_append_snd {P : Program} {W w0 : World} {ops : Array Oper} {rest : List Oper} {o : Oper} {act : Act} {Q : Exit → Act → World → Prop} {B : Nat} {e1 : TypeId} {s1 : Nat} {a1 : Option Addr} {n1 c1 : Nat} {xs1 : List Value} {e2 : TypeId} {s2 : Nat} {a2 : Option Addr} {n2 c2 : Nat} {xs2 : List Value}
    (hgd : o.guard = none) (s x : Operand) (t : TypeId)
    (ho : o.op = .call { callee := .builtin .append, args := #[s, x], argTypes := #[t, t] })
    {z : Value} {bytes : Nat} (ht : P.underlying t = some (.slice e2)) (hinfo : (P.info? e2).map (fun i => (i.zero, i.size, i.bytes)) = some (some z, s2, bytes)) (hzs : z.cells.size = s2) (hsz : 0 < s2)
    (h2 : Two W B w0 e1 s1 a1 n1 c1 xs1 e2 s2 a2 n2 c2 xs2) (hs : act.eval s = .slice a2 n2 c2)
    (us : Array Value) (hx : act.eval x = .slice (some ⟨w0.heap.size, 0, none⟩) 1 1) (hl : us.size = s2) (h1 : ∀ u ∈ us.toList, u.oneCell' = true)
    (h63 : n2 + 1 ≤ maxLen) (hbytes : (n2 + 1) * bytes ≤ 140737488355328)
    (h : ∀ ad' cap' w', Two W B w' e1 s1 a1 n1 c1 xs1 e2 s2 ad' (n2 + 1) cap' (xs2 ++ us.toList) → wpList P ops Q rest (act.put o.dst (.slice ad' (n2 + 1) cap')) w') :
    wpList P ops Q (o :: rest) act (w0.alloc (.cells us e2)) :=
  wpList_append_fst hgd s x t ho ht hinfo hzs hsz h2.swap hs us hx hl h1 h63 hbytes (fun ad' cap' w' h' => h ad' cap' w' h'.swap)

/-- The bytes of a row as the model holds them. -/
def byteCells (l : List UInt8) : List Value := l.map fun b => .int .u8 b.toNat

theorem byteCells_append (l m : List UInt8) : byteCells (l ++ m) = byteCells l ++ byteCells m := by simp [byteCells]

theorem foldl_bytes (l : List UInt8) (s : ByteArray) : (l.map fun b => (b.toNat : Int)).foldl (fun r n => r.push (UInt8.ofNat n.toNat)) s = ⟨s.data ++ l.toArray⟩ := by
  induction l generalizing s with
  | nil => simp
  | cons b l ih =>
    simp only [List.map_cons, List.foldl_cons, ih, Int.toNat_natCast, UInt8.ofNat_toNat]
    apply ByteArray.ext
    simp [ByteArray.push]

/-- A row of bytes that is owned, turned into a string: its bytes. -/
theorem run_string_owned {P : Program} {w : World} {base : Nat} {a : Option Addr} {n cap : Nat} {l : List UInt8} (src dst e : TypeId)
    (hs : P.underlying src = some (.slice e)) (he : P.underlying e = some (.int .u8)) (hd : P.underlying dst = some .string)
    (hown : w.ownsRow base e 1 (.slice a n cap) n (byteCells l)) :
    (convert src dst (.slice a n cap)).run P w = .ok (.string ⟨l.toArray⟩) w := by
  rw [run_convert_bytes_string w src dst e a n cap hs he hd]
  rcases hown.2 with ⟨hv, hn⟩ | ⟨g, cap', cur, hv, _, hg, _, _, _, htake⟩
  · obtain ⟨rfl, rfl, rfl⟩ := (by simpa using hv : a = none ∧ n = 0 ∧ cap = 0)
    have hl : l = [] := by
      have := hown.1
      simpa [byteCells] using this
    subst hl
    simp [Conv.bytesToString, Sem.run_pure]
    rfl
  · obtain ⟨rfl, rfl⟩ := (by simpa using hv : a = some ⟨g, 0, none⟩ ∧ cap = cap')
    have hlen : l.length = n := by
      have := hown.1
      simpa [byteCells] using this
    have hload : (loadCells ⟨g, 0, none⟩ n).run P w = .ok ((l.map fun b => (b.toNat : Int)).map (Value.int .u8)).toArray w := by
      have h := run_loadCells_list (P := P) w ⟨g, 0, none⟩ (byteCells l) (fun j v hj => hown.cells (g := g) rfl j v hj)
      simpa [byteCells, hlen, List.map_map, Function.comp_def] using h
    rw [run_bytesToString w ⟨g, 0, none⟩ n cap (l.map fun b => (b.toNat : Int)) hload, foldl_bytes]
    simp [ByteArray.empty, ByteArray.emptyWithCapacity]
    rfl

/-- Numbers as the model holds them in a row. -/
def intCells (l : List Int) : List Value := l.map (Value.int .i64)
theorem intCells_append (l m : List Int) : intCells (l ++ m) = intCells l ++ intCells m := by simp [intCells]

/-- A slice whose elements read as these numbers. -/
structure IntsAt (w : World) (a : Option Addr) (xs : List Int) : Prop where
  spot : xs ≠ [] → ∃ b o, a = some ⟨b, o, none⟩ ∧ ∀ j, j < xs.length → w.cell? ⟨b, o + j, none⟩ = some (.int .i64 (xs.getD j 0))

theorem intsAt_own {w : World} {base : Nat} {e : TypeId} {a : Option Addr} {n cap : Nat} {xs : List Int} (h : w.ownsRow base e 1 (.slice a n cap) n (intCells xs)) : n = xs.length ∧ IntsAt w a xs := by
  have hn : n = xs.length := by
    have := h.1
    simpa [intCells] using this.symm
  refine ⟨hn, ⟨fun hne => ?_⟩⟩
  rcases h.2 with ⟨hv, h0⟩ | ⟨g, cap', cur, hv, _⟩
  · exact absurd (List.length_eq_zero_iff.1 (by omega)) hne
  · obtain ⟨rfl, rfl⟩ := (by simpa using hv : a = some ⟨g, 0, none⟩ ∧ cap = cap')
    refine ⟨g, 0, rfl, fun j hj => ?_⟩
    rw [Nat.zero_add, h.cellAt j (by omega)]
    simp [intCells, List.getD, List.getElem?_eq_getElem hj]

theorem IntsAt.same {w w' : World} {a : Option Addr} {xs : List Int} (h : IntsAt w a xs) (hs : ∀ p : Addr, w'.cell? p = w.cell? p) : IntsAt w' a xs :=
  ⟨fun hne => by obtain ⟨b, o, ha, hc⟩ := h.spot hne; exact ⟨b, o, ha, fun j hj => (hs _).trans (hc j hj)⟩⟩

end Go.Proofs.Ytehppjilnacjlaa
