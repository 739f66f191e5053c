/-
  The contract of the model's function ShelfText. Conditions: the row has at most 2^21 entries, and their numbers are numbers of the program.
-/
import Derived.Test.YtapombdkkcjodaaSixB
import Derived.Test.YtapombdkkcjodaaShelf
namespace Go.Proofs.Ytapombdkkcjodaa
open Go.RowKit

/-- The numbers of the entry ahead; zeros ahead of the first one. -/
def lz : Option En → En
  | none => (0, 0, 0)
  | some x => x
/-- What is written of a shelf's first entries. -/
def textTo (l : List En) (k : Nat) : ByteArray := strN (putN l.length ++ encE none (l.take k))
theorem textTo_zero (l : List En) : textTo l 0 = putB (l.length : Int) := by rw [textTo, List.take_zero, encE, List.append_nil, putB_nat]
theorem textTo_all {l : List En} (h : shOk l) : textTo l l.length = textB l := by rw [textTo, List.take_length, textB, if_pos h, textE]
theorem textB_not {l : List En} (h : ¬ shOk l) : textB l = ⟨#[]⟩ := by rw [textB, if_neg h]; rfl
theorem lastE_take {l : List En} {k : Nat} (h : k < l.length) : lastE none (l.take (k + 1)) = some l[k] := by
  rw [List.take_succ_eq_append_getElem h, lastE_snoc]
theorem lastE_zero (l : List En) : lastE none (l.take 0) = none := by rw [List.take_zero]; rfl
theorem textTo_next {l : List En} {k : Nat} (h : k < l.length) {d1 d2 d3 : Int} (h1 : 0 ≤ d1) (h2 : 0 ≤ d2) (h3 : 0 ≤ d3) (hd : dif (lastE none (l.take k)) l[k] = (d1.toNat, d2.toNat, d3.toNat)) :
    textTo l (k + 1) = textTo l k ++ putB d1 ++ (putB d2 ++ putB d3) := by
  have e : ∀ d : Int, 0 ≤ d → putB d = strN (putN d.toNat) := fun d hd => by rw [putB, putL, if_neg (by omega)]
  rw [textTo, List.take_succ_eq_append_getElem h, encE_snoc, hd, put3, e d1 h1, e d2 h2, e d3 h3, textTo, ← List.append_assoc]
  simp only [strN_append, ByteArray.append_assoc]
/-- Three ways in which the next entry may differ from the one ahead. -/
theorem next_ways {l : List En} (h : shOk l) {k : Nat} (hk : k < l.length) {x y z p d a : Int} (hx : l[k] = (x, y, z)) (hl : lz (lastE none (l.take k)) = (p, d, a)) :
    (k = 0 ∧ p = 0 ∧ d = 0 ∧ a = 0 ∧ 0 ≤ x ∧ 0 ≤ y ∧ 0 ≤ z ∧ dif (lastE none (l.take k)) l[k] = (x.toNat, y.toNat, z.toNat)) ∨
    (0 < k ∧ 0 ≤ p ∧ 0 ≤ d ∧ 0 ≤ a ∧ p < x ∧ 0 ≤ y ∧ 0 ≤ z ∧ dif (lastE none (l.take k)) l[k] = ((x - p).toNat, y.toNat, z.toNat)) ∨
    (0 < k ∧ 0 ≤ p ∧ 0 ≤ d ∧ 0 ≤ a ∧ p = x ∧ d < y ∧ 0 ≤ z ∧ dif (lastE none (l.take k)) l[k] = ((0 : Int).toNat, (y - d).toNat, z.toNat)) ∨
    (0 < k ∧ 0 ≤ p ∧ 0 ≤ d ∧ 0 ≤ a ∧ p = x ∧ d = y ∧ a < z ∧ dif (lastE none (l.take k)) l[k] = ((0 : Int).toNat, (0 : Int).toNat, (z - (a + 1)).toNat)) := by
  have h1 := shOk_to h k hk hk
  rw [hx] at h1
  obtain ⟨⟨h2, h3, h4, h5⟩, h6⟩ := h1
  simp only at h2 h3 h4 h5
  cases k with
  | zero =>
    left
    rw [lastE_zero] at hl ⊢
    simp only [lz, Prod.mk.injEq] at hl
    rw [hx]
    simp only [dif]
    exact ⟨by trivial, by omega, by omega, by omega, by omega, by omega, by omega, by trivial⟩
  | succ k =>
    right
    have hk' : k < l.length := by omega
    rw [lastE_take hk'] at hl ⊢
    simp only [lz] at hl
    have h7 : enLt l[k] (x, y, z) := h6 (by omega)
    have h8 := (shOk_to h k hk' hk').1
    rw [hl] at h7 h8 ⊢
    rw [enLt_iff] at h7
    simp only [enOk] at h8
    rw [hx]
    by_cases e1 : x = p
    · by_cases e2 : y = d
      · right; right
        simp only [dif, if_pos e1, if_pos e2]
        refine ⟨by omega, by omega, by omega, by omega, e1.symm, e2.symm, by omega, by first | trivial | rfl⟩
      · right; left
        simp only [dif, if_pos e1, if_neg e2]
        refine ⟨by omega, by omega, by omega, by omega, e1.symm, by omega, by omega, by first | trivial | rfl⟩
    · left
      simp only [dif, if_neg e1]
      refine ⟨by omega, by omega, by omega, by omega, by omega, by omega, by omega, by first | trivial | rfl⟩

theorem putB_nine {d : Int} (h : d ≤ 9223372036854775807) : (putB d).size ≤ 9 := by
  rw [putB, strN_size]
  exact putL_nine (by omega)
theorem textTo_size {l : List En} (h : shOk l) (hf : ∀ x ∈ l, fits x) (hl : l.length ≤ 2097152) (k : Nat) : (textTo l k).size ≤ 60000000 := by
  rw [textTo, strN_size, List.length_append]
  have h1 := putN_nine (n := l.length) (by omega)
  have h2 := encE_most (last := none) (l := l.take k) (fun x hx => h.1 x (List.mem_of_mem_take hx)) (fun x hx => hf x (List.mem_of_mem_take hx)) (fun y hy => by cases hy)
  rw [List.length_take] at h2
  have h3 : min k l.length ≤ 2097152 := Nat.le_trans (Nat.min_le_right _ _) hl
  omega
theorem rec_cell {W : World} {B : Nat} {w : World} {e : TypeId} {s g n c : Nat} {xs : List Value} (h : One W B w e s (some ⟨g, 0, none⟩) n c xs) (j : Nat) (v : Value) (hj : xs[j]? = some v) : w.cell? ⟨g, j, none⟩ = some v := by
  have h1 := h.own.cells (g := g) rfl j v hj
  rwa [Addr.add_lit, Nat.zero_add] at h1
theorem cell_own6 {w w' : World} {xs : Array Value} {e : TypeId} (hb : Below (w.alloc (.cells xs e)).heap.size (w.alloc (.cells xs e)) w') (i : Nat) (v : Value) (h : xs[i]? = some v) :
    w'.cell? ⟨w.heap.size, i, none⟩ = some v := by
  rw [hb.cell (by simp)]
  rw [World.cell?_alloc_new]
  simpa using h

set_option maxRecDepth 4000 in
set_option maxHeartbeats 4000000 in
theorem specText_any (l : List En) (a : Option Addr) (n c : Nat) (w : World) (hn : n = l.length) (hl : n ≤ 2097152) (hf : ∀ x ∈ l, fits x) (hat : CellsAt w a (entsC l)) :
    Calls Try.prog 19 #[.slice a n c] w fun e w' => e = .returned (.string (textB l)) ∧ Below w.heap.size w w' := by
  have HN := Lib.hid hn
  have HAT := Lib.hid hat
  have HF := Lib.hid hf
  clear hn hat hf
  by_cases hok : shOk l
  · have HOK := Lib.hid hok
    have c0 := fun (w : World) (hat : CellsAt w a (entsC l)) => specShelfOk_is true l a n c w ⟨fun _ => hok, fun _ => rfl⟩ HN.out (by omega) hat
    clear hok
    go_enter Try.func19, Try.ntmps19
    go_wp2_with fail
    refine (c0 _ HAT.out).mono ?_
    rintro e w1 ⟨rfl, b1⟩
    clear c0
    go_wp2_with fail
    refine (specPut_any _ _ (by omega)).mono ?_
    rintro e w2 ⟨rfl, b2⟩
    have B2 : Below w.heap.size w w2 := b1.trans (b2.mono b1.size)
    clear b1 b2
    go_wp2
    have o0 : One w w.heap.size (w2.alloc (.cells #[.int .i64 0, .int .i64 0, .int .i64 0] 48)) 48 3 (some ⟨w2.heap.size, 0, none⟩) 1 1 [.int .i64 0, .int .i64 0, .int .i64 0] :=
      ⟨World.ownsRow_lit w2 #[.int .i64 0, .int .i64 0, .int .i64 0] 1 B2.size (by unfold maxLen; omega) (by simp), Nat.le_trans B2.size (heap_le_alloc _ _), B2.alloc B2.size _⟩
    obtain ⟨w3, hw3⟩ : ∃ w3, w2.alloc (.cells #[.int .i64 0, .int .i64 0, .int .i64 0] 48) = w3 := ⟨_, rfl⟩
    obtain ⟨g, hg⟩ : ∃ g, w2.heap.size = g := ⟨_, rfl⟩
    rw [hw3, hg] at o0
    rw [hw3, hg]
    clear hw3 hg B2
    go_loopw [3, 5] (fun v i wr => ∃ (k : Nat) (p d z : Int), k ≤ n ∧ i = .int .i64 (k : Int) ∧ v = .string (textTo l k) ∧ Hid (lz (lastE none (l.take k)) = (p, d, z)) ∧ Hid (One w w.heap.size wr 48 3 (some ⟨g, 0, none⟩) 1 1 [.int .i64 p, .int .i64 d, .int .i64 z])) (fun _ i _ => n - (intOf i).toNat)
    case atStart => exact ⟨0, 0, 0, 0, Nat.zero_le _, rfl, by rw [textTo_zero, HN.out], Lib.hid rfl, Lib.hid o0⟩
    case round =>
      obtain ⟨k, p, d, a0, hk, rfl, rfl, HL, HO⟩ := hrel
      by_cases hlt : k < n
      · have hkl : k < l.length := by have := HN.out; omega
        obtain ⟨x, hx⟩ : ∃ x, l[k].1 = x := ⟨_, rfl⟩
        obtain ⟨y, hy⟩ : ∃ y, l[k].2.1 = y := ⟨_, rfl⟩
        obtain ⟨z, hz⟩ : ∃ z, l[k].2.2 = z := ⟨_, rfl⟩
        have hm : l[k] = (x, y, z) := by rw [← hx, ← hy, ← hz]
        obtain ⟨b, o, rfl, hb9, g1, g2, g3⟩ := ent_cells (HAT.out.below HO.out.below) hkl hm
        have hfx := HF.out _ (List.getElem_mem hkl)
        rw [hm] at hfx
        obtain ⟨f1, f2, f3⟩ := hfx
        simp only at f1 f2 f3
        have f1 : x ≤ 9223372036854775807 := by omega
        have f2 : y ≤ 9223372036854775807 := by omega
        have f3 : z ≤ 9223372036854775807 := by omega
        clear hx hy hz
        have HO1 := Lib.hid (HO.out.later ((Below.refl _ _).alloc (Nat.le_refl _) (.cells #[.int .i64 x, .int .i64 y, .int .i64 z] 48)))
        have m1 := rec_cell HO1.out 0 _ rfl
        have m2 := rec_cell HO1.out 1 _ rfl
        have m3 := rec_cell HO1.out 2 _ rfl
        have hz0 : (0 : Int) ≤ (k : Int) := by omega
        have hz1 : (k : Int) < (n : Int) := by omega
        rcases next_ways HOK.out hkl hm HL.out with hway | hway | hway | hway
        · obtain ⟨hk0, hp, hd0, ha, hx0, hy0, hzz0, hdif⟩ := hway
          have HNX := textTo_next hkl (by omega) (by omega) (by omega) hdif
          have tk : decide (0 < k) = false := decide_eq_false (by omega)
          have tk2 : decide ((0 : Int) < (k : Int)) = false := decide_eq_false (by omega)
          subst hp hd0 ha
          clear hk0
          have HNX := Lib.hid HNX
          have T0 := textTo_size HOK.out HF.out (by have := HN.out; omega) k
          have T1 := putB_nine (d := x) (by omega)
          have T2 := putB_nine (d := y) (by omega)
          have T3 := putB_nine (d := z) (by omega)
          have HLN := Lib.hid (show lz (lastE none (l.take (k + 1))) = (x, y, z) by rw [lastE_take hkl, hm]; rfl)
          clear hdif hm
          go_wp2_with fail
          refine (specPut_any x _ (by omega)).mono ?_
          rintro e w5 ⟨rfl, b5⟩
          have HO5 := Lib.hid (HO1.out.later b5)
          have k1 := cell_own6 b5 0 _ rfl
          have k2 := cell_own6 b5 1 _ rfl
          have k3 := cell_own6 b5 2 _ rfl
          have n1 := rec_cell HO5.out 0 _ rfl
          have n2 := rec_cell HO5.out 1 _ rfl
          have n3 := rec_cell HO5.out 2 _ rfl
          clear m1 m2 m3 g1 g2 g3
          go_wp2
          go_quiet (fail)
          go_wp2_with fail
          refine (specPut_any y _ (by omega)).mono ?_
          rintro e w6 ⟨rfl, b6⟩
          have HO6 := Lib.hid ((HO5.out.drewN _).later b6)
          have b56 := (below_drewN' b5 _).trans (b6.mono b5.size)
          clear b5 b6 HO5 k1 k2 k3 n1 n2 n3
          go_wp2_with fail
          refine (specPut_any z _ (by omega)).mono ?_
          rintro e w7 ⟨rfl, b7⟩
          have HO7 := Lib.hid (HO6.out.later b7)
          have b57 := b56.trans (b7.mono b56.size)
          have k1 := cell_own6 b57 0 _ rfl
          have k2 := cell_own6 b57 1 _ rfl
          have k3 := cell_own6 b57 2 _ rfl
          have n1 := rec_cell HO7.out 0 _ rfl
          have n2 := rec_cell HO7.out 1 _ rfl
          have n3 := rec_cell HO7.out 2 _ rfl
          have r1 := HO7.out.frozen 0
          have r2 := HO7.out.frozen 1
          have r3 := HO7.out.frozen 2
          have HO8 := Lib.hid (((HO7.out.stored 0 (.int .i64 x)).stored 1 (.int .i64 y)).stored 2 (.int .i64 z))
          clear b56 b7 b57 HO6
          go_wp2
          go_roundw
          case rel => exact ⟨k + 1, x, y, z, by omega, by go_num, by rw [HNX.out], HLN, HO8⟩
          case measure => simp [intOf]; omega
        · obtain ⟨hk0, hp0, hd0, ha0, hpx, hy0, hzz0, hdif⟩ := hway
          have HNX := textTo_next hkl (by omega) (by omega) (by omega) hdif
          have tk : decide (0 < k) = true := decide_eq_true (by omega)
          have tk2 : decide ((0 : Int) < (k : Int)) = true := decide_eq_true (by omega)
          have tp : (x == p) = false := by simp; omega
          have HNX := Lib.hid HNX
          have T0 := textTo_size HOK.out HF.out (by have := HN.out; omega) k
          have T1 := putB_nine (d := (x - p)) (by omega)
          have T2 := putB_nine (d := y) (by omega)
          have T3 := putB_nine (d := z) (by omega)
          have HLN := Lib.hid (show lz (lastE none (l.take (k + 1))) = (x, y, z) by rw [lastE_take hkl, hm]; rfl)
          clear hdif hm
          go_wp2_with fail
          refine (specPut_any (x - p) _ (by omega)).mono ?_
          rintro e w5 ⟨rfl, b5⟩
          have HO5 := Lib.hid (HO1.out.later b5)
          have k1 := cell_own6 b5 0 _ rfl
          have k2 := cell_own6 b5 1 _ rfl
          have k3 := cell_own6 b5 2 _ rfl
          have n1 := rec_cell HO5.out 0 _ rfl
          have n2 := rec_cell HO5.out 1 _ rfl
          have n3 := rec_cell HO5.out 2 _ rfl
          clear m1 m2 m3 g1 g2 g3
          go_wp2
          go_quiet (fail)
          go_wp2_with fail
          refine (specPut_any y _ (by omega)).mono ?_
          rintro e w6 ⟨rfl, b6⟩
          have HO6 := Lib.hid ((HO5.out.drewN _).later b6)
          have b56 := (below_drewN' b5 _).trans (b6.mono b5.size)
          clear b5 b6 HO5 k1 k2 k3 n1 n2 n3
          go_wp2_with fail
          refine (specPut_any z _ (by omega)).mono ?_
          rintro e w7 ⟨rfl, b7⟩
          have HO7 := Lib.hid (HO6.out.later b7)
          have b57 := b56.trans (b7.mono b56.size)
          have k1 := cell_own6 b57 0 _ rfl
          have k2 := cell_own6 b57 1 _ rfl
          have k3 := cell_own6 b57 2 _ rfl
          have n1 := rec_cell HO7.out 0 _ rfl
          have n2 := rec_cell HO7.out 1 _ rfl
          have n3 := rec_cell HO7.out 2 _ rfl
          have r1 := HO7.out.frozen 0
          have r2 := HO7.out.frozen 1
          have r3 := HO7.out.frozen 2
          have HO8 := Lib.hid (((HO7.out.stored 0 (.int .i64 x)).stored 1 (.int .i64 y)).stored 2 (.int .i64 z))
          clear b56 b7 b57 HO6
          go_wp2
          go_roundw
          case rel => exact ⟨k + 1, x, y, z, by omega, by go_num, by rw [HNX.out], HLN, HO8⟩
          case measure => simp [intOf]; omega
        · obtain ⟨hk0, hp0, hd0, ha0, hpx, hdy, hzz0, hdif⟩ := hway
          have HNX := textTo_next hkl (by omega) (by omega) (by omega) hdif
          have tk : decide (0 < k) = true := decide_eq_true (by omega)
          have tk2 : decide ((0 : Int) < (k : Int)) = true := decide_eq_true (by omega)
          have hpx2 := hpx.symm
          subst hpx2
          clear hpx
          have tp : (x == x) = true := beq_self_eq_true x
          obtain ⟨v, hv⟩ : ∃ v, y - d = v := ⟨_, rfl⟩
          have v0 : 0 < v := by omega
          have v9 : v ≤ 9223372036854775807 := by omega
          have tv : (v == 0) = false := by simp; omega
          rw [hv] at HNX
          have HNX := Lib.hid HNX
          have T0 := textTo_size HOK.out HF.out (by have := HN.out; omega) k
          have T1 := putB_nine (d := (0 : Int)) (by omega)
          have T2 := putB_nine (d := v) (by omega)
          have T3 := putB_nine (d := z) (by omega)
          have HLN := Lib.hid (show lz (lastE none (l.take (k + 1))) = (x, y, z) by rw [lastE_take hkl, hm]; rfl)
          clear hdif hm
          go_wp2_with fail
          refine (specPut_any (0 : Int) _ (by omega)).mono ?_
          rintro e w5 ⟨rfl, b5⟩
          have HO5 := Lib.hid (HO1.out.later b5)
          have k1 := cell_own6 b5 0 _ rfl
          have k2 := cell_own6 b5 1 _ rfl
          have k3 := cell_own6 b5 2 _ rfl
          have n1 := rec_cell HO5.out 0 _ rfl
          have n2 := rec_cell HO5.out 1 _ rfl
          have n3 := rec_cell HO5.out 2 _ rfl
          clear m1 m2 m3 g1 g2 g3
          go_wp2
          go_quiet (fail)
          go_wp2_with fail
          refine (specPut_any v _ (by omega)).mono ?_
          rintro e w6 ⟨rfl, b6⟩
          have HO6 := Lib.hid ((HO5.out.drewN _).later b6)
          have b56 := (below_drewN' b5 _).trans (b6.mono b5.size)
          clear b5 b6 HO5 k1 k2 k3 n1 n2 n3
          go_wp2_with fail
          refine (specPut_any z _ (by omega)).mono ?_
          rintro e w7 ⟨rfl, b7⟩
          have HO7 := Lib.hid (HO6.out.later b7)
          have b57 := b56.trans (b7.mono b56.size)
          have k1 := cell_own6 b57 0 _ rfl
          have k2 := cell_own6 b57 1 _ rfl
          have k3 := cell_own6 b57 2 _ rfl
          have n1 := rec_cell HO7.out 0 _ rfl
          have n2 := rec_cell HO7.out 1 _ rfl
          have n3 := rec_cell HO7.out 2 _ rfl
          have r1 := HO7.out.frozen 0
          have r2 := HO7.out.frozen 1
          have r3 := HO7.out.frozen 2
          have HO8 := Lib.hid (((HO7.out.stored 0 (.int .i64 x)).stored 1 (.int .i64 y)).stored 2 (.int .i64 z))
          clear b56 b7 b57 HO6
          go_wp2
          go_roundw
          case rel => exact ⟨k + 1, x, y, z, by omega, by go_num, by rw [HNX.out], HLN, HO8⟩
          case measure => simp [intOf]; omega
        · obtain ⟨hk0, hp0, hd0, ha0, hpx, hdy, haz, hdif⟩ := hway
          have HNX := textTo_next hkl (by omega) (by omega) (by omega) hdif
          have tk : decide (0 < k) = true := decide_eq_true (by omega)
          have tk2 : decide ((0 : Int) < (k : Int)) = true := decide_eq_true (by omega)
          have hpx2 := hpx.symm
          subst hpx2
          clear hpx
          have hdy2 := hdy.symm
          subst hdy2
          clear hdy
          have tp : (x == x) = true := beq_self_eq_true x
          obtain ⟨v, hv⟩ : ∃ v, z - (a0 + 1) = v := ⟨_, rfl⟩
          have v0 : 0 ≤ v := by omega
          have v9 : v ≤ 9223372036854775807 := by omega
          have a9 : a0 + 1 ≤ 9223372036854775807 := by omega
          rw [hv] at HNX
          have HNX := Lib.hid HNX
          have T0 := textTo_size HOK.out HF.out (by have := HN.out; omega) k
          have T1 := putB_nine (d := (0 : Int)) (by omega)
          have T2 := putB_nine (d := (0 : Int)) (by omega)
          have T3 := putB_nine (d := v) (by omega)
          have HLN := Lib.hid (show lz (lastE none (l.take (k + 1))) = (x, y, z) by rw [lastE_take hkl, hm]; rfl)
          clear hdif hm
          go_wp2_with fail
          refine (specPut_any (0 : Int) _ (by omega)).mono ?_
          rintro e w5 ⟨rfl, b5⟩
          have HO5 := Lib.hid (HO1.out.later b5)
          have k1 := cell_own6 b5 0 _ rfl
          have k2 := cell_own6 b5 1 _ rfl
          have k3 := cell_own6 b5 2 _ rfl
          have n1 := rec_cell HO5.out 0 _ rfl
          have n2 := rec_cell HO5.out 1 _ rfl
          have n3 := rec_cell HO5.out 2 _ rfl
          clear m1 m2 m3 g1 g2 g3
          go_wp2
          go_quiet (fail)
          go_wp2_with fail
          refine (specPut_any (0 : Int) _ (by omega)).mono ?_
          rintro e w6 ⟨rfl, b6⟩
          have HO6 := Lib.hid ((HO5.out.drewN _).later b6)
          have b56 := (below_drewN' b5 _).trans (b6.mono b5.size)
          clear b5 b6 HO5 k1 k2 k3 n1 n2 n3
          go_wp2_with fail
          refine (specPut_any v _ (by omega)).mono ?_
          rintro e w7 ⟨rfl, b7⟩
          have HO7 := Lib.hid (HO6.out.later b7)
          have b57 := b56.trans (b7.mono b56.size)
          have k1 := cell_own6 b57 0 _ rfl
          have k2 := cell_own6 b57 1 _ rfl
          have k3 := cell_own6 b57 2 _ rfl
          have n1 := rec_cell HO7.out 0 _ rfl
          have n2 := rec_cell HO7.out 1 _ rfl
          have n3 := rec_cell HO7.out 2 _ rfl
          have r1 := HO7.out.frozen 0
          have r2 := HO7.out.frozen 1
          have r3 := HO7.out.frozen 2
          have HO8 := Lib.hid (((HO7.out.stored 0 (.int .i64 x)).stored 1 (.int .i64 y)).stored 2 (.int .i64 z))
          clear b56 b7 b57 HO6
          go_wp2
          go_roundw
          case rel => exact ⟨k + 1, x, y, z, by omega, by go_num, by rw [HNX.out], HLN, HO8⟩
          case measure => simp [intOf]; omega
      · have HE := Lib.hid (show textTo l k = textB l by rw [show k = l.length by have := HN.out; omega]; exact textTo_all HOK.out)
        have hB := HO.out.below
        go_wp2
        go_ret
        exact ⟨ret_str6 HE.out, hB⟩
  · have HE := Lib.hid (textB_not hok)
    have c0 := fun (w : World) (hat : CellsAt w a (entsC l)) => specShelfOk_is false l a n c w ⟨fun h => absurd h (by decide), fun h => absurd h hok⟩ HN.out (by omega) hat
    clear hok
    go_enter Try.func19, Try.ntmps19
    go_wp2_with fail
    refine (c0 _ HAT.out).mono ?_
    rintro e w1 ⟨rfl, b1⟩
    go_wp2
    go_ret
    exact ⟨ret_str6 HE.out.symm, b1⟩

end Go.Proofs.Ytapombdkkcjodaa
