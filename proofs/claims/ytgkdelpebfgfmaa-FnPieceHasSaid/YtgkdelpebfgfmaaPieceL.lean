/-
  The contracts of the model's functions LongestPiece and TurnedPieces. Conditions: texts have at most 2^20 bytes; rows at most 2^20 pieces.
-/
import Derived.Test.YtgkdelpebfgfmaaPieceQ
import Derived.Test.YtgkdelpebfgfmaaPieceP
namespace Go.Proofs.Ytgkdelpebfgfmaa
open Go.RowKit

theorem Side.turn {w : World} {B : Nat} {v v' : Value} {e : TypeId} {b : Nat} {xs : List Value} (h : Side w B v e b xs) (hv : v'.ownBlock ≠ some b) : Side w B v' e b xs := ⟨h.at_, h.base, hv⟩
theorem longL_next {l : List En} {k : Nat} {x y z X Y Z : Int} (h : longL (0, 0, 0) (l.take k) = (x, y, z)) (hk : k < l.length) (hm : l[k] = (X, Y, Z)) : longL (0, 0, 0) (l.take (k + 1)) = if z < Z then (X, Y, Z) else (x, y, z) := by
  rw [List.take_succ_eq_append_getElem hk, longL_snoc, h, hm]

set_option maxRecDepth 4000 in
set_option maxHeartbeats 8000000 in
theorem specLongest_any (s t : ByteArray) (x y z : Int) (w : World) (h : longT s t = (x, y, z)) (hs : s.size ≤ 1048576) (ht : t.size ≤ 1048576) :
    Calls Try.prog 26 #[.string s, .string t] w fun e w' => e = .returned (.agg #[.int .i64 x, .int .i64 y, .int .i64 z]) ∧ Below w.heap.size w w' := by
  obtain ⟨L, hL⟩ : ∃ L, piecesT s t 1 = L := ⟨_, rfl⟩
  have c1 := fun w => specPieces_any s t 1 L w hL hs ht
  have HLONG := Lib.hid (show longL (0, 0, 0) L = (x, y, z) by rw [← hL]; exact h)
  have hroom : L.length ≤ 1099511627776 := by rw [← hL]; exact piecesT_room 1 hs ht
  clear h hL
  go_enter Try.func26, Try.ntmps26
  go_wp2_with fail
  refine (c1 _).mono ?_
  rintro e w2 ⟨gl, m, c, rfl, o2⟩
  have hs4 : Side ((w.alloc (.cells #[.int .i64 0, .int .i64 0, .int .i64 0] 29)).alloc (.cells #[.int .i64 0, .int .i64 0, .int .i64 0] 29)) w.heap.size (.slice none 0 0) 29 w.heap.size [.int .i64 0, .int .i64 0, .int .i64 0] :=
    (Side.fresh (w := w) (B := w.heap.size) (v := .slice none 0 0) 29 [.int .i64 0, .int .i64 0, .int .i64 0] (Nat.le_refl _) (by intro k hk; simp [Value.ownBlock] at hk)).later ((Below.refl _ _).alloc (Nat.le_refl _) _)
  have hs5 : Side ((w.alloc (.cells #[.int .i64 0, .int .i64 0, .int .i64 0] 29)).alloc (.cells #[.int .i64 0, .int .i64 0, .int .i64 0] 29)) w.heap.size (.slice none 0 0) 29 (w.heap.size + 1) [.int .i64 0, .int .i64 0, .int .i64 0] := by
    have h1 := Side.fresh (w := w.alloc (.cells #[.int .i64 0, .int .i64 0, .int .i64 0] 29)) (B := w.heap.size) (v := .slice none 0 0) 29 [.int .i64 0, .int .i64 0, .int .i64 0] (by simp) (by intro k hk; simp [Value.ownBlock] at hk)
    rw [alloc_size7] at h1
    exact h1
  have hb0 : Below w.heap.size w ((w.alloc (.cells #[.int .i64 0, .int .i64 0, .int .i64 0] 29)).alloc (.cells #[.int .i64 0, .int .i64 0, .int .i64 0] 29)) := below_alloc2 _ _ _
  have hz9 : ((w.alloc (.cells #[.int .i64 0, .int .i64 0, .int .i64 0] 29)).alloc (.cells #[.int .i64 0, .int .i64 0, .int .i64 0] 29)).heap.size = w.heap.size + 2 := by rw [alloc_size7, alloc_size7]
  have hap : ∀ k, (Value.slice (some ⟨gl, 0, none⟩) m c).ownBlock = some k → w.heap.size + 2 ≤ k := fun k hk => by have h1 := (o2.own.lt k hk).1; omega
  have HS4 := Lib.hid ((hs4.later o2.below).turn (v' := .slice (some ⟨gl, 0, none⟩) m c) (fun hk => by have := hap _ hk; omega))
  have HS5 := Lib.hid ((hs5.later o2.below).turn (v' := .slice (some ⟨gl, 0, none⟩) m c) (fun hk => by have := hap _ hk; omega))
  have HO := Lib.hid (o2.under hb0 hb0.size)
  clear hs4 hs5 hb0 hz9 hap o2 c1
  obtain ⟨g5, hg5⟩ : ∃ g, w.heap.size + 1 = g := ⟨_, rfl⟩
  obtain ⟨g4, hg4⟩ : ∃ g, w.heap.size = g := ⟨_, rfl⟩
  have hne : g4 ≠ g5 := by omega
  have HS4 := Lib.hid (show Side w2 w.heap.size (.slice (some ⟨gl, 0, none⟩) m c) 29 g4 [.int .i64 0, .int .i64 0, .int .i64 0] from hg4 ▸ HS4.out)
  have HS5 := Lib.hid (show Side w2 w.heap.size (.slice (some ⟨gl, 0, none⟩) m c) 29 g5 [.int .i64 0, .int .i64 0, .int .i64 0] from hg5 ▸ HS5.out)
  have hml := ents_len7 HO.out.own
  have HML := Lib.hid hml
  have hm9 : m ≤ 1099511627776 := by omega
  rw [hg5, hg4]
  clear hg5 hg4 hml hroom
  go_wp2
  go_loopw [7] (fun k_ wr => ∃ (k : Nat) (x y z : Int), k ≤ m ∧ k_ = .int .i64 (k : Int) ∧ Hid (longL (0, 0, 0) (L.take k) = (x, y, z)) ∧ Hid (Side wr w.heap.size (.slice (some ⟨gl, 0, none⟩) m c) 29 g5 [.int .i64 x, .int .i64 y, .int .i64 z]) ∧ Hid (Side wr w.heap.size (.slice (some ⟨gl, 0, none⟩) m c) 29 g4 [.int .i64 0, .int .i64 0, .int .i64 0]) ∧ Hid (One w w.heap.size wr 29 3 (some ⟨gl, 0, none⟩) m c (entsC L))) (fun k_ _ => m - (intOf k_).toNat)
  case atStart => exact ⟨0, 0, 0, 0, Nat.zero_le _, rfl, Lib.hid rfl, HS5, HS4, HO⟩
  case round =>
    clear HS5 HS4 HO
    obtain ⟨k, bx, bY, bz, hk, rfl, HL, H5, H4, HO⟩ := hrel
    by_cases hlt : k < m
    · have hkl : k < L.length := by have := HML.out; omega
      obtain ⟨X, hx⟩ : ∃ x, L[k].1 = x := ⟨_, rfl⟩
      obtain ⟨Y, hy⟩ : ∃ x, L[k].2.1 = x := ⟨_, rfl⟩
      obtain ⟨Z, hz⟩ : ∃ x, L[k].2.2 = x := ⟨_, rfl⟩
      have hm : L[k] = (X, Y, Z) := by rw [← hx, ← hy, ← hz]
      have hnew := longL_next HL.out hkl hm
      obtain ⟨b, o, hbo, hb9, e1, e2, e3⟩ := ent_cells HO.out.at_ hkl hm
      simp only [Option.some.injEq, Addr.mk.injEq, and_true] at hbo
      obtain ⟨rfl, rfl⟩ := hbo
      rw [Nat.zero_add] at e1 e2 e3
      have z1 : (k : Int) < (m : Int) := by omega
      have z0 : (0 : Int) ≤ (k : Int) := by omega
      have k3 := H5.out.cell 2 _ rfl
      clear hx hy hz hm HL
      by_cases hc : bz < Z
      · rw [if_pos hc] at hnew
        have HNEW := Lib.hid hnew
        have td : decide (bz < Z) = true := decide_eq_true hc
        have k1 := H5.out.cell 0 _ rfl
        have k2 := H5.out.cell 1 _ rfl
        have r1 := H5.out.frozen 0
        have r2 := H5.out.frozen 1
        have r3 := H5.out.frozen 2
        have HSX := Lib.hid (show ∀ u, Side ((((wr.drewN u).setCell ⟨g5, 0, none⟩ (.int .i64 X)).setCell ⟨g5, 1, none⟩ (.int .i64 Y)).setCell ⟨g5, 2, none⟩ (.int .i64 Z)) w.heap.size (.slice (some ⟨gl, 0, none⟩) m c) 29 g5 [.int .i64 X, .int .i64 Y, .int .i64 Z] from fun u => (((H5.out.drewN u).set_self 0 _).set_self 1 _).set_self 2 _)
        have HSY := Lib.hid (show ∀ u, Side ((((wr.drewN u).setCell ⟨g5, 0, none⟩ (.int .i64 X)).setCell ⟨g5, 1, none⟩ (.int .i64 Y)).setCell ⟨g5, 2, none⟩ (.int .i64 Z)) w.heap.size (.slice (some ⟨gl, 0, none⟩) m c) 29 g4 [.int .i64 0, .int .i64 0, .int .i64 0] from fun u => (((H4.out.drewN u).set_other hne 0 _).set_other hne 1 _).set_other hne 2 _)
        have HSO := Lib.hid (show ∀ u, One w w.heap.size ((((wr.drewN u).setCell ⟨g5, 0, none⟩ (.int .i64 X)).setCell ⟨g5, 1, none⟩ (.int .i64 Y)).setCell ⟨g5, 2, none⟩ (.int .i64 Z)) 29 3 (some ⟨gl, 0, none⟩) m c (entsC L) from fun u => (((HO.out.drewN u).beside H5.out.base H5.out.apart 0 _).beside H5.out.base H5.out.apart 1 _).beside H5.out.base H5.out.apart 2 _)
        clear H5 H4 HO hnew
        go_wp2
        go_quiet (fail)
        go_wp2
        go_roundw
        case rel => exact ⟨k + 1, X, Y, Z, by omega, by go_num, HNEW, Lib.hid (HSX.out _), Lib.hid (HSY.out _), Lib.hid (HSO.out _)⟩
        case measure => simp [intOf]; omega
      · rw [if_neg hc] at hnew
        have HNEW := Lib.hid hnew
        have td : decide (bz < Z) = false := decide_eq_false hc
        clear hnew
        go_wp2
        go_quiet (fail)
        go_wp2
        go_roundw
        case rel => exact ⟨k + 1, bx, bY, bz, by omega, by go_num, HNEW, Lib.hid (H5.out.drewN _), Lib.hid (H4.out.drewN _), Lib.hid (HO.out.drewN _)⟩
        case measure => simp [intOf]; omega
    · have hxyz := HLONG.out.symm.trans ((congrArg _ (List.take_of_length_le (by have := HML.out; omega))).symm.trans HL.out)
      simp only [Prod.mk.injEq] at hxyz
      obtain ⟨rfl, rfl, rfl⟩ := hxyz
      have z1 : ¬ (k : Int) < (m : Int) := by omega
      have j1 := H5.out.cell 0 _ rfl
      have j2 := H5.out.cell 1 _ rfl
      have j3 := H5.out.cell 2 _ rfl
      have k1 := H4.out.cell 0 _ rfl
      have k2 := H4.out.cell 1 _ rfl
      have k3 := H4.out.cell 2 _ rfl
      have r1 := H4.out.frozen 0
      have r2 := H4.out.frozen 1
      have r3 := H4.out.frozen 2
      have HSX := Lib.hid (((H4.out.set_self 0 (.int .i64 x)).set_self 1 (.int .i64 y)).set_self 2 (.int .i64 z))
      have HGB := Lib.hid H4.out.base
      have HB := Lib.hid HO.out.below
      clear H5 H4 HO hlt
      go_wp2
      have q1 := HSX.out.cell 0 _ rfl
      have q2 := HSX.out.cell 1 _ rfl
      have q3 := HSX.out.cell 2 _ rfl
      refine bodyPost_ret (v := .agg #[.int .i64 x, .int .i64 y, .int .i64 z]) (by simp [results, Try.results26, go_sem, q1, q2, q3]) rfl ⟨rfl, ?_⟩
      exact below_set7 (below_set7 (below_set7 HB.out HGB.out _ _) HGB.out _ _) HGB.out _ _


end Go.Proofs.Ytgkdelpebfgfmaa
