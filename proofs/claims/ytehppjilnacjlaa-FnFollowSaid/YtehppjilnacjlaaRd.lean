/-
  The contracts of the model's reader of drawn bytes: l20Open and pick. They return numbers in range, and write nothing but the reader's own place. Conditions: the bytes can be read; the place is small.
-/
import Derived.Test.YtehppjilnacjlaaProg
import Derived.Test.YtehppjilnacjlaaOwnA
import Derived.WalkKit
import Derived.Lib.Hide
import Derived.IntWalk
import Derived.Deep.QuietTactic
import Derived.BigQuiet
namespace Go.Proofs.Ytehppjilnacjlaa
open Go.RowKit

/-- A reader at block g: its bytes can be read, and its place is at most B. -/
structure RdAt (w : World) (g : Nat) (a : Option Addr) (n c : Nat) (B : Nat) : Prop where
  row : ∃ p : Nat, p ≤ B ∧ w.heap[g]? = some (.cells #[.slice a n c, .int .i64 p] 66 (0, 0))
  bytes : n ≠ 0 → ∃ b o, a = some ⟨b, o, none⟩ ∧ b < g ∧ ∀ j, j < n → ∃ x : Nat, x < 256 ∧ w.cell? ⟨b, o + j, none⟩ = some (.int .u8 x)
  few : n ≤ 2000

theorem RdAt.more {w : World} {g : Nat} {a : Option Addr} {n c B B' : Nat} (h : RdAt w g a n c B) (hB : B ≤ B') : RdAt w g a n c B' := by
  obtain ⟨p, hp, hr⟩ := h.row
  exact ⟨⟨p, by omega, hr⟩, h.bytes, h.few⟩

theorem RdAt.kept {w w' : World} {g : Nat} {a : Option Addr} {n c B : Nat} (h : RdAt w g a n c B) (hs : ∀ k, k ≤ g → w'.heap[k]? = w.heap[k]?) : RdAt w' g a n c B := by
  obtain ⟨p, hp, hr⟩ := h.row
  refine ⟨⟨p, hp, (hs g (Nat.le_refl _)).trans hr⟩, fun hn => ?_, h.few⟩
  obtain ⟨b, o, ha, hb, hc⟩ := h.bytes hn
  refine ⟨b, o, ha, hb, fun j hj => ?_⟩
  obtain ⟨x, hx, hcx⟩ := hc j hj
  exact ⟨x, hx, (World.cell?_of_block (w := w) (hs b (by omega))).trans hcx⟩

theorem RdAt.lt {w : World} {g : Nat} {a : Option Addr} {n c B : Nat} (h : RdAt w g a n c B) : g < w.heap.size := by
  obtain ⟨p, hp, hr⟩ := h.row
  exact (Array.getElem?_eq_some_iff.1 hr).1

theorem i64_xor_nat (a b : Nat) (ha : a < 4611686018427387904) (hb : b < 4611686018427387904) : IntKind.i64.wrap ((BitVec.ofInt 64 (a : Int) ^^^ BitVec.ofInt 64 (b : Int)).toNat : Int) = ((a ^^^ b : Nat) : Int) := by
  have hx : a ^^^ b < 2 ^ 62 := Nat.xor_lt_two_pow (by omega) (by omega)
  have e1 : (BitVec.ofInt 64 (a : Int)).toNat = a := by
    rw [BitVec.ofInt_natCast, BitVec.toNat_ofNat]; omega
  have e2 : (BitVec.ofInt 64 (b : Int)).toNat = b := by
    rw [BitVec.ofInt_natCast, BitVec.toNat_ofNat]; omega
  rw [BitVec.toNat_xor, e1, e2, IntWalk.i64_in _ (by omega)]

theorem pick_value (T m : Nat) (hT : T < 1000000000) : (bits .xor .i64 (T : Int) ((T : Int) / 64)).tmod m = (((T ^^^ T / 64) % m : Nat) : Int) := by
  have h := i64_xor_nat T (T / 64) (by omega) (by omega)
  have e : (bits .xor .i64 (T : Int) ((T : Int) / 64)) = ((T ^^^ T / 64 : Nat) : Int) := by
    have : ((T : Int) / 64) = ((T / 64 : Nat) : Int) := by omega
    rw [this]
    exact h
  rw [e, Int.natCast_emod, Int.tmod_eq_emod_of_nonneg (by omega)]

/-- What is left of a reader behind one step. -/
theorem rd_step {w : World} {g : Nat} {a : Option Addr} {n c B : Nat} {p : Nat} (h : RdAt w g a n c B) (hp : p ≤ B) (hr : w.heap[g]? = some (.cells #[.slice a n c, .int .i64 p] 66 (0, 0))) (q : Nat) :
    RdAt ((w.setCell ⟨g, 1, none⟩ (.int .i64 (p + 1))).drewN q) g a n c (B + 1) ∧ w.grownBy ((w.setCell ⟨g, 1, none⟩ (.int .i64 (p + 1))).drewN q) (some g) := by
  have hold : ∀ k, k ≠ g → ((w.setCell ⟨g, 1, none⟩ (.int .i64 (p + 1))).drewN q).heap[k]? = w.heap[k]? := fun k hk => heap_setCell_other w ⟨g, 1, none⟩ k _ (fun e => hk e)
  refine ⟨⟨⟨p + 1, by omega, ?_⟩, fun hn => ?_, h.few⟩, ⟨rfl, rfl, rfl, by simp, fun k _ hk => hold k (fun e => hk (by rw [e]))⟩⟩
  · have := heap_setCell_same w g 1 _ _ (.int .i64 (p + 1)) hr
    simpa using this
  · obtain ⟨b, o, ha, hb, hc⟩ := h.bytes hn
    refine ⟨b, o, ha, hb, fun j hj => ?_⟩
    obtain ⟨x, hx, hcx⟩ := hc j hj
    exact ⟨x, hx, (World.cell?_of_block (w := w) (hold b (by omega))).trans hcx⟩

theorem pick_zero (w : World) (g : Nat) (a : Option Addr) (n c B : Nat) (m : Int) (hB : B < 1000000) (h : RdAt w g a n c B) (hm : m < 1 ∨ n = 0) :
    Calls Try.prog 49 #[.pointer (some ⟨g, 0, none⟩), .int .i64 m] w fun e w' => e = .returned (.int .i64 0) ∧ RdAt w' g a n c (B + 1) ∧ w.grownBy w' (some g) := by
  obtain ⟨p, hp, hr⟩ := h.row
  have h0 : w.cell? ⟨g, 0, none⟩ = some (.slice a n c) := by rw [cell_of_row w g 0 _ _ _ hr]; rfl
  have h1 : w.cell? ⟨g, 1, none⟩ = some (.int .i64 p) := by rw [cell_of_row w g 1 _ _ _ hr]; rfl
  have hf : w.frozen? ⟨g, 1, none⟩ = false := frozen_of_row w g 1 _ _ hr
  have HS := Lib.hid (rd_step h hp hr 0)
  have hn := h.few
  clear h hr
  by_cases hm1 : m < 1
  · go_enter Try.func49, Try.ntmps49
    go_wp2
    go_ret
    exact ⟨rfl, HS.out⟩
  · have hn0 : n = 0 := hm.resolve_left hm1
    subst hn0
    go_enter Try.func49, Try.ntmps49
    go_wp2
    go_ret
    exact ⟨rfl, HS.out⟩

theorem pick_early (w : World) (g : Nat) (a : Option Addr) (n c B : Nat) (m : Nat) (p : Nat) (hB : B < 1000000) (h : RdAt w g a n c B) (hm : 0 < m) (hm9 : m < 1000000) (hp : p ≤ B) (hr : w.heap[g]? = some (.cells #[.slice a n c, .int .i64 p] 66 (0, 0))) (hk : p < n) :
    Calls Try.prog 49 #[.pointer (some ⟨g, 0, none⟩), .int .i64 m] w fun e w' => (∃ r : Nat, r < m ∧ e = .returned (.int .i64 r)) ∧ RdAt w' g a n c (B + 1) ∧ w.grownBy w' (some g) := by
  have h0 : w.cell? ⟨g, 0, none⟩ = some (.slice a n c) := by rw [cell_of_row w g 0 _ _ _ hr]; rfl
  have h1 : w.cell? ⟨g, 1, none⟩ = some (.int .i64 p) := by rw [cell_of_row w g 1 _ _ _ hr]; rfl
  have hf : w.frozen? ⟨g, 1, none⟩ = false := frozen_of_row w g 1 _ _ hr
  have HS := Lib.hid (rd_step h hp hr 0)
  have hn := h.few
  obtain ⟨b, o, rfl, hb, hc⟩ := h.bytes (by omega)
  obtain ⟨x, hx, hcx⟩ := hc p hk
  have hcx1 : (w.setCell ⟨g, 1, none⟩ (.int .i64 (p + 1))).cell? ⟨b, o + p, none⟩ = some (.int .u8 x) :=
    (World.cell?_of_block (w := w) (heap_setCell_other w ⟨g, 1, none⟩ b _ (by simp; omega))).trans hcx
  clear h hr hc hcx
  have t1 : ((n : Int) == 0) = false := by simp; omega
  go_enter Try.func49, Try.ntmps49
  go_wp2
  go_ret
  exact ⟨⟨x % m, Nat.mod_lt _ hm, rfl⟩, HS.out⟩

set_option maxHeartbeats 2000000 in
theorem pick_late (w : World) (g : Nat) (a : Option Addr) (n c B : Nat) (m : Nat) (p : Nat) (hB : B < 1000000) (h : RdAt w g a n c B) (hm : 0 < m) (hm9 : m < 1000000) (hp : p ≤ B) (hr : w.heap[g]? = some (.cells #[.slice a n c, .int .i64 p] 66 (0, 0))) (hn0 : n ≠ 0) (hk : n ≤ p) :
    Calls Try.prog 49 #[.pointer (some ⟨g, 0, none⟩), .int .i64 m] w fun e w' => (∃ r : Nat, r < m ∧ e = .returned (.int .i64 r)) ∧ RdAt w' g a n c (B + 1) ∧ w.grownBy w' (some g) := by
  have h0 : w.cell? ⟨g, 0, none⟩ = some (.slice a n c) := by rw [cell_of_row w g 0 _ _ _ hr]; rfl
  have h1 : w.cell? ⟨g, 1, none⟩ = some (.int .i64 p) := by rw [cell_of_row w g 1 _ _ _ hr]; rfl
  have hf : w.frozen? ⟨g, 1, none⟩ = false := frozen_of_row w g 1 _ _ hr
  have HS := Lib.hid (fun q => rd_step h hp hr q)
  have hn := h.few
  obtain ⟨b, o, rfl, hb, hc⟩ := h.bytes (by omega)
  obtain ⟨i1, hi1⟩ : ∃ i, p % n = i := ⟨_, rfl⟩
  obtain ⟨i2, hi2⟩ : ∃ i, (p * 7 + 3) % n = i := ⟨_, rfl⟩
  obtain ⟨d1, hd1'⟩ : ∃ i, p / n = i := ⟨_, rfl⟩
  have l1 : i1 < n := by rw [← hi1]; exact Nat.mod_lt _ (by omega)
  have l2 : i2 < n := by rw [← hi2]; exact Nat.mod_lt _ (by omega)
  have l3 : d1 ≤ 1000000 := by rw [← hd1']; exact Nat.le_trans (Nat.div_le_self _ _) (by omega)
  obtain ⟨x1, hx1, hcx1⟩ := hc i1 l1
  obtain ⟨x2, hx2, hcx2⟩ := hc i2 l2
  have hd1 : (w.setCell ⟨g, 1, none⟩ (.int .i64 (p + 1))).cell? ⟨b, o + i1, none⟩ = some (.int .u8 x1) :=
    (World.cell?_of_block (w := w) (heap_setCell_other w ⟨g, 1, none⟩ b _ (by simp; omega))).trans hcx1
  have hd2 : (w.setCell ⟨g, 1, none⟩ (.int .i64 (p + 1))).cell? ⟨b, o + i2, none⟩ = some (.int .u8 x2) :=
    (World.cell?_of_block (w := w) (heap_setCell_other w ⟨g, 1, none⟩ b _ (by simp; omega))).trans hcx2
  clear h hr hc hcx1 hcx2
  have t1 : ((n : Int) == 0) = false := by simp; omega
  go_enter Try.func49, Try.ntmps49
  go_wp2
  have E1 : (p : Int).tmod n = (i1 : Int) := by rw [← hi1, Int.natCast_emod, Int.tmod_eq_emod_of_nonneg (by omega)]
  have E2 : IntKind.i64.wrap ((p : Int) * 7) = p * 7 := IntWalk.i64_in _ (by omega)
  have E3 : IntKind.i64.wrap ((p : Int) * 7 + 3) = p * 7 + 3 := IntWalk.i64_in _ (by omega)
  have E4 : ((p : Int) * 7 + 3).tmod n = (i2 : Int) := by
    have : ((p : Int) * 7 + 3) = ((p * 7 + 3 : Nat) : Int) := by omega
    rw [this, ← hi2, Int.natCast_emod, Int.tmod_eq_emod_of_nonneg (by omega)]
  have E5 : (p : Int).tdiv n = (d1 : Int) := by rw [← hd1', Int.natCast_ediv, Int.tdiv_eq_ediv_of_nonneg (by omega)]
  have M1 : IntKind.i64.wrap ((x1 : Int) * 131) = x1 * 131 := IntWalk.i64_in _ (by omega)
  have M2 : IntKind.i64.wrap ((x2 : Int) * 1117) = x2 * 1117 := IntWalk.i64_in _ (by omega)
  have M3 : IntKind.i64.wrap ((p : Int) * 29) = p * 29 := IntWalk.i64_in _ (by omega)
  have M4 : IntKind.i64.wrap ((d1 : Int) * 53) = d1 * 53 := IntWalk.i64_in _ (by omega)
  have A1 : IntKind.i64.wrap ((x1 : Int) * 131 + x2 * 1117) = x1 * 131 + x2 * 1117 := IntWalk.i64_in _ (by omega)
  have A2 : IntKind.i64.wrap ((x1 : Int) * 131 + x2 * 1117 + p * 29) = x1 * 131 + x2 * 1117 + p * 29 := IntWalk.i64_in _ (by omega)
  have A3 : IntKind.i64.wrap ((x1 : Int) * 131 + x2 * 1117 + p * 29 + d1 * 53) = x1 * 131 + x2 * 1117 + p * 29 + d1 * 53 := IntWalk.i64_in _ (by omega)
  have z1 : (0 : Int) ≤ i1 := by omega
  have z2 : (0 : Int) ≤ i2 := by omega
  have z3 : (i1 : Int) < n := by omega
  have z4 : (i2 : Int) < n := by omega
  clear hi1 hi2 hd1'
  go_quiet (fail)
  clear E1 E2 E3 E4 E5 M1 M2 M3 M4 A1 A2 A3
  obtain ⟨T, hT, hT9⟩ : ∃ T : Nat, (x1 : Int) * 131 + x2 * 1117 + p * 29 + d1 * 53 = T ∧ T < 1000000000 := ⟨x1 * 131 + x2 * 1117 + p * 29 + d1 * 53, by omega, by omega⟩
  rw [hT]
  clear hT
  go_wp2
  go_ret
  refine ⟨⟨(T ^^^ T / 64) % m, Nat.mod_lt _ hm, ?_⟩, HS.out _⟩
  have e := pick_value T m hT9
  show Ending.returned (.int .i64 ((bits .xor .i64 (T : Int) ((T : Int) / 64)).tmod m)) = _
  rw [e]

/-- A number below m is picked, if m is positive; else 0. -/
theorem pick_any (w : World) (g : Nat) (a : Option Addr) (n c B : Nat) (m : Int) (hB : B < 1000000) (h : RdAt w g a n c B) (hm9 : m < 1000000) :
    Calls Try.prog 49 #[.pointer (some ⟨g, 0, none⟩), .int .i64 m] w fun e w' => (∃ r : Nat, (r = 0 ∨ (r : Int) < m) ∧ e = .returned (.int .i64 r)) ∧ RdAt w' g a n c (B + 1) ∧ w.grownBy w' (some g) := by
  by_cases hz : m < 1 ∨ n = 0
  · exact (pick_zero w g a n c B m hB h hz).mono fun e w' ⟨he, hr⟩ => ⟨⟨0, Or.inl rfl, he⟩, hr⟩
  · obtain ⟨k, rfl⟩ : ∃ k : Nat, m = k := ⟨m.toNat, by omega⟩
    obtain ⟨p, hp, hr⟩ := h.row
    by_cases hk : p < n
    · exact (pick_early w g a n c B k p hB h (by omega) (by omega) hp hr hk).mono fun e w' ⟨⟨r, hr1, he⟩, hr⟩ => ⟨⟨r, Or.inr (by omega), he⟩, hr⟩
    · exact (pick_late w g a n c B k p hB h (by omega) (by omega) hp hr (by omega) (by omega)).mono fun e w' ⟨⟨r, hr1, he⟩, hr⟩ => ⟨⟨r, Or.inr (by omega), he⟩, hr⟩

theorem pick_pos (w : World) (g : Nat) (a : Option Addr) (n c B : Nat) (m : Int) (hB : B < 1000000) (h : RdAt w g a n c B) (h0 : 0 < m) (hm9 : m < 1000000) :
    Calls Try.prog 49 #[.pointer (some ⟨g, 0, none⟩), .int .i64 m] w fun e w' => ∃ r : Nat, (r : Int) < m ∧ e = .returned (.int .i64 r) ∧ RdAt w' g a n c (B + 1) ∧ w.grownBy w' (some g) :=
  (pick_any w g a n c B m hB h hm9).mono fun e w' ⟨⟨r, hr1, he⟩, hr⟩ => ⟨r, by omega, he, hr⟩

/-- What a walk is told of a slice of numbers that came in: nil, or a row that reads as these numbers. -/
def IsRowK (k : IntKind) (w : World) (a : Option Addr) (len cap : Nat) (zs : List Int) : Prop :=
  (a = none ∧ len = 0 ∧ cap = 0 ∧ zs = []) ∨
  ∃ x, a = some x ∧ len ≤ cap ∧ cap ≤ maxLen ∧ zs.length = cap ∧ (∀ i, i < zs.length → w.cell? (x.add i) = some (.int k (zs.getD i 0))) ∧ ∀ n ∈ zs, (Lit.int k n).wf = true

theorem rowK_bytes {w : World} {a : Option Addr} {len cap : Nat} {zs : List Int} (h : IsRowK .u8 w a len cap zs) (hne : len ≠ 0) :
    ∃ b o, a = some ⟨b, o, none⟩ ∧ b < w.heap.size ∧ len ≤ cap ∧ ∀ j, j < len → ∃ x : Nat, x < 256 ∧ w.cell? ⟨b, o + j, none⟩ = some (.int .u8 x) := by
  rcases h with ⟨_, h0, _⟩ | ⟨⟨b, o, sp⟩, rfl, hl, _, hz, hc, hw⟩
  · exact absurd h0 hne
  · have c0 := hc 0 (by omega)
    have hsp : sp = none := by simpa [Addr.add] using World.cell?_spot c0
    subst hsp
    refine ⟨b, o, rfl, ?_, hl, fun j hj => ?_⟩
    · have := World.block_lt_of_cell? w _ c0
      simpa [Addr.add] using this
    · have hj' : j < zs.length := by omega
      have hv := hw (zs.getD j 0) (by simp [List.getD, List.getElem?_eq_getElem hj'])
      have hb : 0 ≤ zs.getD j 0 ∧ zs.getD j 0 ≤ 255 := by
        have h1 : IntKind.u8.min = 0 := rfl
        have h2 : IntKind.u8.max = 255 := rfl
        simp only [Lit.wf, Bool.and_eq_true, decide_eq_true_eq] at hv
        omega
      refine ⟨(zs.getD j 0).toNat, by omega, ?_⟩
      rw [← Addr.add_lit, hc j hj']
      congr 2
      omega

theorem open_any (w : World) (a : Option Addr) (len cap : Nat) (zs : List Int) (h : IsRowK .u8 w a len cap zs) :
    Calls Try.prog 39 #[.slice a len cap] w fun e w' => ∃ n, e = .returned (.pointer (some ⟨w.heap.size, 0, none⟩)) ∧ RdAt w' w.heap.size a n cap 0 ∧ Below w.heap.size w w' ∧ w'.heap.size = w.heap.size + 1 := by
  have hb := fun hne => rowK_bytes (w := w) h hne
  have key : ∀ n, n ≤ len → n ≤ 2000 → RdAt (w.alloc (.cells #[.slice a n cap, .int .i64 0] 66)) w.heap.size a n cap 0 ∧ Below w.heap.size w (w.alloc (.cells #[.slice a n cap, .int .i64 0] 66)) ∧ (w.alloc (.cells #[.slice a n cap, .int .i64 0] 66)).heap.size = w.heap.size + 1 := by
    intro n hn h2
    refine ⟨⟨⟨0, Nat.le_refl _, heap_alloc_new w _⟩, fun hne => ?_, h2⟩, (Below.refl _ _).alloc (Nat.le_refl _) _, by simp⟩
    obtain ⟨b, o, ha, hlt, _, hc⟩ := hb (by omega)
    refine ⟨b, o, ha, hlt, fun j hj => ?_⟩
    obtain ⟨x, hx, hcx⟩ := hc j (by omega)
    exact ⟨x, hx, (World.cell?_of_block (w := w) (Below.heap_alloc w _ b hlt)).trans hcx⟩
  have hcap : len ≤ cap := by
    by_cases h0 : len = 0
    · omega
    · obtain ⟨_, _, _, _, hc, _⟩ := hb h0
      exact hc
  have hcm : cap ≤ 9223372036854775807 := by
    rcases h with ⟨_, _, h0, _⟩ | ⟨_, _, _, h0, _⟩
    · omega
    · simpa [maxLen] using h0
  by_cases h2 : len ≤ 2000
  · have K := Lib.hid (key len (Nat.le_refl _) h2)
    clear key hb h
    go_enter Try.func39, Try.ntmps39
    go_wp2
    go_ret
    exact ⟨len, rfl, K.out⟩
  · have K := Lib.hid (key 2000 (by omega) (by omega))
    obtain ⟨b, o, rfl, _⟩ := hb (by omega)
    clear key hb h
    go_enter Try.func39, Try.ntmps39
    go_wp2
    go_ret
    exact ⟨2000, rfl, K.out⟩

end Go.Proofs.Ytehppjilnacjlaa
