/-
  The contract of the model's function ReadShelf. Condition: the text has at most 2^20 bytes.
-/
import Derived.Test.YtapombdkkcjodaaSixF
namespace Go.Proofs.Ytapombdkkcjodaa
open Go.RowKit

/-- How far the three numbers of an entry are read. -/
def Part3 (s : List Nat) (j jj : Nat) (c0 c1 c2 : Int) (q : Nat) : Prop :=
  (jj = 0 ∧ q = j) ∨ (jj = 1 ∧ ∃ n0 : Nat, c0 = n0 ∧ at1 s j = some (n0, q)) ∨
  (jj = 2 ∧ ∃ n0 n1 q1 : Nat, c0 = n0 ∧ c1 = n1 ∧ at1 s j = some (n0, q1) ∧ at1 s q1 = some (n1, q)) ∨
  (jj = 3 ∧ ∃ n0 n1 n2 : Nat, c0 = n0 ∧ c1 = n1 ∧ c2 = n2 ∧ at3 s j = some ((n0, n1, n2), q))
theorem alloc_size (w : World) (o : Obj) : (w.alloc o).heap.size = w.heap.size + 1 := by simp
theorem ret_read {a : Option Addr} {n c : Nat} {b b' : Bool} (h : b = b') : Ending.returned (.tuple #[.slice a n c, .bool b]) = .returned (.tuple #[.slice a n c, .bool b']) := by rw [h]

/-- Four ways in which the next entry is told. -/
theorem read_ways {s : List Nat} {i k : Nat} {L : List En} {j : Nat} (h : ReadTo s i k L j) {p d a : Int} (hl : lz (lastE none L) = (p, d, a)) (hw : wrap64 p = p ∧ wrap64 d = d ∧ wrap64 a = a) {n0 n1 n2 : Nat} {x y z : Int} (hx : x = n0) (hy : y = n1) (hz : z = n2) :
    (k = 0 ∧ p = 0 ∧ d = 0 ∧ a = 0 ∧ undifW wrap64 (lastE none L) (n0, n1, n2) = (x, y, z)) ∨
    (0 < k ∧ x ≠ 0 ∧ undifW wrap64 (lastE none L) (n0, n1, n2) = (wrap64 (p + x), y, z)) ∨
    (0 < k ∧ x = 0 ∧ y ≠ 0 ∧ undifW wrap64 (lastE none L) (n0, n1, n2) = (wrap64 (p + x), wrap64 (y + d), z)) ∨
    (0 < k ∧ x = 0 ∧ y = 0 ∧ undifW wrap64 (lastE none L) (n0, n1, n2) = (wrap64 (p + x), wrap64 (y + d), wrap64 (z + wrap64 (a + 1)))) := by
  subst hx hy hz
  rcases h.last with ⟨h1, h2⟩ | ⟨h1, u, h2⟩
  · left
    rw [h2] at hl ⊢
    simp only [lz, Prod.mk.injEq] at hl
    exact ⟨h1, hl.1.symm, hl.2.1.symm, hl.2.2.symm, rfl⟩
  · right
    rw [h2] at hl ⊢
    simp only [lz] at hl
    subst hl
    obtain ⟨w1, w2, w3⟩ := hw
    by_cases e0 : n0 = 0
    · subst e0
      right
      by_cases e1 : n1 = 0
      · subst e1
        right
        refine ⟨h1, rfl, rfl, ?_⟩
        simp only [undifW, if_true]
        rw [wrap_add]
        refine Prod.ext ?_ (Prod.ext ?_ rfl)
        · simpa using w1.symm
        · simpa using w2.symm
      · left
        refine ⟨h1, rfl, by omega, ?_⟩
        simp only [undifW, if_true, if_neg e1]
        refine Prod.ext ?_ rfl
        simpa using w1.symm
    · left
      refine ⟨h1, by omega, ?_⟩
      simp only [undifW, if_neg e0]

set_option maxRecDepth 4000 in
set_option maxHeartbeats 8000000 in
theorem specRead_any (s : ByteArray) (L0 : List En) (b0 : Bool) (w : World) (h : readT wrap64 s = (L0, b0)) (hs : s.size ≤ 1048576) :
    Calls Try.prog 24 #[.string s] w fun e w' => ∃ a n c, e = .returned (.tuple #[.slice a n c, .bool b0]) ∧ One w w.heap.size w' 48 3 a n c (entsC L0) := by
  have HH := Lib.hid h
  clear h
  rcases take_ways s 0 (Nat.zero_le _) with ⟨ht, h0⟩ | ⟨m, i, ht, h0, hi0, hi9, hm9⟩
  · have c0 := fun w => specTake_any s 0 0 0 false w ht (by omega)
    obtain ⟨rfl, rfl⟩ := (by simpa using (HH.out.symm.trans (readT_none (readS_no h0))) : L0 = [] ∧ b0 = false)
    clear h0 ht
    go_enter Try.func24, Try.ntmps24
    go_wp2_with fail
    refine (c0 _).mono ?_
    rintro e w2 ⟨rfl, b2⟩
    have HZ := Lib.hid ((One.empty w 48 3).later b2)
    go_wp2
    go_ret2
    exact ⟨_, _, _, rfl, HZ.out⟩
  · have c0 := fun w => specTake_any s 0 m i true w ht (by omega)
    have H0 := Lib.hid h0
    clear h0 ht
    by_cases hm : s.size < m
    · obtain ⟨rfl, rfl⟩ := (by simpa using (HH.out.symm.trans (readT_none (readS_many H0.out (by rw [bytesN_len]; exact hm)))) : L0 = [] ∧ b0 = false)
      have hm2 : (s.size : Int) < (m : Int) := by omega
      go_enter Try.func24, Try.ntmps24
      go_wp2_with fail
      refine (c0 _).mono ?_
      rintro e w2 ⟨rfl, b2⟩
      have HZ := Lib.hid ((One.empty w 48 3).later b2)
      go_wp2
      go_ret2
      exact ⟨_, _, _, rfl, HZ.out⟩
    · have hm2 : ¬ (s.size : Int) < (m : Int) := by omega
      have hm3 : m ≤ 1048576 := by omega
      go_enter Try.func24, Try.ntmps24
      go_wp2_with fail
      refine (c0 _).mono ?_
      rintro e w2 ⟨rfl, b2⟩
      have hb1 : w.heap.size < w2.heap.size := by have := b2.size; simp at this; omega
      have HZ := Lib.hid ((One.empty w 48 3).later b2)
      have B2 : Below w.heap.size w w2 := HZ.out.below
      go_wp2
      have o0 : One w w.heap.size ((w2.alloc (.cells #[] 48)).alloc (.cells #[.int .i64 0, .int .i64 0, .int .i64 0] 48)) 48 3 (some ⟨w2.heap.size, 0, none⟩) 0 0 (entsC []) :=
        (⟨World.ownsRow_lit w2 #[] 0 B2.size (Nat.zero_le _) (by simp), Nat.le_trans B2.size (heap_le_alloc _ _), B2.alloc B2.size _⟩ : One w w.heap.size (w2.alloc (.cells #[] 48)) 48 3 (some ⟨w2.heap.size, 0, none⟩) 0 0 (entsC [])).later ((Below.refl _ _).alloc (Nat.le_refl _) _)
      have s0 : Side ((w2.alloc (.cells #[] 48)).alloc (.cells #[.int .i64 0, .int .i64 0, .int .i64 0] 48)) w.heap.size (.slice (some ⟨w2.heap.size, 0, none⟩) 0 0) 48 (w2.heap.size + 1) [.int .i64 0, .int .i64 0, .int .i64 0] := by
        have h1 := Side.fresh (w := w2.alloc (.cells #[] 48)) (B := w.heap.size) (v := .slice (some ⟨w2.heap.size, 0, none⟩) 0 0) 48 [.int .i64 0, .int .i64 0, .int .i64 0] (by simp; omega) (by intro k hk; simp [Value.ownBlock] at hk; simp; omega)
        rw [show (w2.alloc (.cells #[] 48)).heap.size = w2.heap.size + 1 from by simp] at h1
        exact h1
      have z0 : Side ((w2.alloc (.cells #[] 48)).alloc (.cells #[.int .i64 0, .int .i64 0, .int .i64 0] 48)) w.heap.size (.slice (some ⟨w2.heap.size, 0, none⟩) 0 0) 48 w.heap.size [] :=
        ⟨(((Below.refl w2.heap.size w2).alloc (Nat.le_refl _) _).alloc (by simp) _ |>.block w.heap.size hb1).trans ((b2.block w.heap.size (by simp)).trans (heap_alloc_new w _)), Nat.le_refl _, by simp [Value.ownBlock]; omega⟩
      obtain ⟨w3, hw3⟩ : ∃ w3, (w2.alloc (.cells #[] 48)).alloc (.cells #[.int .i64 0, .int .i64 0, .int .i64 0] 48) = w3 := ⟨_, rfl⟩
      obtain ⟨g, hg⟩ : ∃ g, w2.heap.size + 1 = g := ⟨_, rfl⟩
      obtain ⟨ob, hob⟩ : ∃ ob, w2.heap.size = ob := ⟨_, rfl⟩
      have hzg : w.heap.size ≠ g := by omega
      rw [hw3, hg, hob] at s0
      rw [hw3, hob] at o0 z0
      rw [hw3, hg, hob]
      clear hw3 hg hob B2 HZ b2 hb1
      obtain ⟨zb, HZB⟩ : ∃ zb, Hid (w.heap.size = zb) := ⟨_, Lib.hid rfl⟩
      have hzg : zb ≠ g := by rw [← HZB.out]; exact hzg
      rw [HZB.out]
      have z0 : Side w3 w.heap.size (.slice (some ⟨ob, 0, none⟩) 0 0) 48 zb [] := by rw [← HZB.out]; exact z0
      go_loopw [6, 7, 8, 10] (fun vat vok vout vk wr => ∃ (k j : Nat) (L : List En) (p d a0 : Int) (ao : Option Addr) (no co : Nat), k ≤ m ∧ vk = .int .i64 (k : Int) ∧ vat = .int .i64 (j : Int) ∧ vok = .bool true ∧ vout = .slice ao no co ∧ no = k ∧ Hid (ReadTo (bytesN s) i k L j) ∧ j ≤ s.size ∧ Hid (lz (lastE none L) = (p, d, a0)) ∧ Hid (wrap64 p = p ∧ wrap64 d = d ∧ wrap64 a0 = a0) ∧ Hid (One w w.heap.size wr 48 3 ao no co (entsC L)) ∧ Hid (Side wr w.heap.size (.slice ao no co) 48 g [.int .i64 p, .int .i64 d, .int .i64 a0]) ∧ Hid (Side wr w.heap.size (.slice ao no co) 48 zb [])) (fun _ _ _ vk _ => m - (intOf vk).toNat)
      case atStart => exact ⟨0, i, [], 0, 0, 0, _, 0, 0, Nat.zero_le _, rfl, rfl, rfl, rfl, rfl, Lib.hid (ReadTo.zero _ _), hi9, Lib.hid rfl, Lib.hid ⟨wrap_in (by omega), wrap_in (by omega), wrap_in (by omega)⟩, Lib.hid o0, Lib.hid s0, Lib.hid z0⟩
      case round =>
        obtain ⟨k, j, L, p, d, a0, ao, no, co, hk, rfl, rfl, rfl, rfl, hno, HRD, hj9, HL, HW, HO, HG, HZ⟩ := hrel
        have hno9 : no ≤ 1048576 := by omega
        by_cases hlt : k < m
        · have hz1 : (k : Int) < (m : Int) := by omega
          obtain ⟨wo, rfl⟩ : ∃ wo, wo = wr := ⟨_, rfl⟩
          have HNO := Lib.hid hno
          clear hno
          have hBo := HO.out.base
          have HO0 := HO
          have HO := Lib.hid (HO.out.later ((Below.refl _ _).alloc (Nat.le_refl _) (.cells #[.int .i64 0, .int .i64 0, .int .i64 0] 57)))
          have hhg : wo.heap.size ≠ g := fun e => by have := HG.out.lt; omega
          have hhz : wo.heap.size ≠ zb := fun e => by have := HZ.out.lt; omega
          have HT := Lib.hid (Side.fresh (w := wo) (B := w.heap.size) (v := .slice ao no co) 57 [.int .i64 0, .int .i64 0, .int .i64 0] hBo (by have h1 := HO0.out.block_lt; exact h1))
          have HG := Lib.hid (HG.out.later ((Below.refl _ _).alloc (Nat.le_refl _) (.cells #[.int .i64 0, .int .i64 0, .int .i64 0] 57)))
          have HZ := Lib.hid (HZ.out.later ((Below.refl _ _).alloc (Nat.le_refl _) (.cells #[.int .i64 0, .int .i64 0, .int .i64 0] 57)))
          go_wp2
          obtain ⟨w4, hw4⟩ : ∃ w4, wo.alloc (.cells #[.int .i64 0, .int .i64 0, .int .i64 0] 57) = w4 := ⟨_, rfl⟩
          obtain ⟨h, hh⟩ : ∃ h, wo.heap.size = h := ⟨_, rfl⟩
          have hhg : h ≠ g := hh ▸ hhg
          have hhz : h ≠ zb := hh ▸ hhz
          have hT := HT.out
          have hO := HO.out
          have hG := HG.out
          have hZ := HZ.out
          have hT : Side w4 w.heap.size (.slice ao no co) 57 h [.int .i64 0, .int .i64 0, .int .i64 0] := by rw [← hw4, ← hh]; exact hT
          rw [hw4] at hO hG hZ
          rw [hw4, hh]
          clear hw4 hh HT HO HG HZ HO0 hBo
          go_loopw [6, 7, 12] (fun vat vok vj wr => ∃ (jj q : Nat) (c0 c1 c2 : Int), jj ≤ 3 ∧ vj = .int .i64 (jj : Int) ∧ vat = .int .i64 (q : Int) ∧ vok = .bool true ∧ q ≤ s.size ∧ Hid (Part3 (bytesN s) j jj c0 c1 c2 q) ∧ Hid (One w w.heap.size wr 48 3 ao no co (entsC L)) ∧ Hid (Side wr w.heap.size (.slice ao no co) 48 g [.int .i64 p, .int .i64 d, .int .i64 a0]) ∧ Hid (Side wr w.heap.size (.slice ao no co) 48 zb []) ∧ Hid (Side wr w.heap.size (.slice ao no co) 57 h [.int .i64 c0, .int .i64 c1, .int .i64 c2])) (fun _ _ vj _ => 3 - (intOf vj).toNat)
          case atStart => exact ⟨0, j, 0, 0, 0, by omega, rfl, rfl, rfl, hj9, Lib.hid (.inl ⟨rfl, rfl⟩), Lib.hid hO, Lib.hid hG, Lib.hid hZ, Lib.hid hT⟩
          case round =>
            clear hO hG hZ hT
            obtain ⟨jj, q, c0, c1, c2, hjj, rfl, rfl, rfl, hq9, HP, HO, HG, HZ, HT⟩ := hrel
            rcases Nat.lt_or_ge jj 3 with hj3 | hj3
            · have k1 := HT.out.cell 0 _ rfl
              have k2 := HT.out.cell 1 _ rfl
              have k3 := HT.out.cell 2 _ rfl
              rcases take_ways s q hq9 with ⟨ht, hn⟩ | ⟨nq, q', ht, hn, hqq, hq'9, hnq⟩
              · have ct := fun w => specTake_any s q 0 0 false w ht (by omega)
                have hbad : at3 (bytesN s) j = none := by
                  rcases HP.out with ⟨_, rfl⟩ | ⟨_, n0, _, e0⟩ | ⟨_, n0, n1, q1, _, _, e0, e1⟩ | ⟨rfl, _⟩
                  · exact at3_no1 hn
                  · exact at3_no2 e0 hn
                  · exact at3_no3 e0 e1 hn
                  · omega
                obtain ⟨rfl, rfl⟩ := (by simpa using (HH.out.symm.trans (readT_none (readS_stop H0.out (by rw [bytesN_len]; omega) (show k + 1 ≤ m by omega) (HRD.out.stop hbad)))) : L0 = [] ∧ b0 = false)
                clear hbad hn ht
                have hj0 : (0 : Int) ≤ (jj : Int) := by omega
                have hj3' : (jj : Int) < 3 := by omega
                go_wp2_with fail
                refine (ct _).mono ?_
                rintro e w5 ⟨rfl, b5⟩
                have HO := Lib.hid (HO.out.later b5)
                have HZ := Lib.hid (HZ.out.later b5)
                have HT := Lib.hid (HT.out.later b5)
                have r1 := HT.out.frozen jj
                have kk : ∃ u, w5.cell? ⟨h, jj, none⟩ = some u := by
                  obtain rfl | rfl | rfl : jj = 0 ∨ jj = 1 ∨ jj = 2 := by omega
                  · exact ⟨_, HT.out.cell 0 _ rfl⟩
                  · exact ⟨_, HT.out.cell 1 _ rfl⟩
                  · exact ⟨_, HT.out.cell 2 _ rfl⟩
                obtain ⟨uu, kk⟩ := kk
                clear k1 k2 k3 b5
                have HZ := Lib.hid (HZ.out.set_other hhz.symm jj (.int .i64 0))
                have HO := Lib.hid (HO.out.beside HT.out.base HT.out.apart jj (.int .i64 0))
                go_wp2
                go_ret2
                exact ⟨_, _, _, rfl, HZ.out.row (s := 3) (n := 0) rfl (Nat.zero_le _) HO.out.base HO.out.below⟩
              · have ct := fun w => specTake_any s q nq q' true w ht (by omega)
                have HN := Lib.hid hn
                clear hn ht
                have hj0 : (0 : Int) ≤ (jj : Int) := by omega
                have hj3' : (jj : Int) < 3 := by omega
                go_wp2_with fail
                refine (ct _).mono ?_
                rintro e w5 ⟨rfl, b5⟩
                have HO := Lib.hid (HO.out.later b5)
                have HZ := Lib.hid (HZ.out.later b5)
                have HG := Lib.hid (HG.out.later b5)
                have HT := Lib.hid (HT.out.later b5)
                have r1 := HT.out.frozen jj
                have kk : ∃ u, w5.cell? ⟨h, jj, none⟩ = some u := by
                  obtain rfl | rfl | rfl : jj = 0 ∨ jj = 1 ∨ jj = 2 := by omega
                  · exact ⟨_, HT.out.cell 0 _ rfl⟩
                  · exact ⟨_, HT.out.cell 1 _ rfl⟩
                  · exact ⟨_, HT.out.cell 2 _ rfl⟩
                obtain ⟨uu, kk⟩ := kk
                clear k1 k2 k3 b5
                have HZ := Lib.hid (HZ.out.set_other hhz.symm jj (.int .i64 nq))
                have HG := Lib.hid (HG.out.set_other hhg.symm jj (.int .i64 nq))
                have HO := Lib.hid (HO.out.beside HT.out.base HT.out.apart jj (.int .i64 nq))
                have HT := Lib.hid (HT.out.set_self jj (.int .i64 nq))
                go_wp2
                go_roundw
                case rel =>
                  obtain rfl | rfl | rfl : jj = 0 ∨ jj = 1 ∨ jj = 2 := by omega
                  · obtain ⟨_, rfl⟩ | ⟨h9, _⟩ | ⟨h9, _⟩ | ⟨h9, _⟩ := HP.out
                    · exact ⟨1, q', nq, c1, c2, by omega, rfl, rfl, rfl, hq'9, Lib.hid (.inr (.inl ⟨rfl, nq, rfl, HN.out⟩)), HO, HG, HZ, HT⟩
                    all_goals omega
                  · obtain ⟨h9, _⟩ | ⟨_, n0, e0, e1⟩ | ⟨h9, _⟩ | ⟨h9, _⟩ := HP.out
                    · omega
                    · exact ⟨2, q', c0, nq, c2, by omega, rfl, rfl, rfl, hq'9, Lib.hid (.inr (.inr (.inl ⟨rfl, n0, nq, q, e0, rfl, e1, HN.out⟩))), HO, HG, HZ, HT⟩
                    all_goals omega
                  · obtain ⟨h9, _⟩ | ⟨h9, _⟩ | ⟨_, n0, n1, q1, e0, e1, e2, e3⟩ | ⟨h9, _⟩ := HP.out
                    · omega
                    · omega
                    · exact ⟨3, q', c0, c1, nq, by omega, rfl, rfl, rfl, hq'9, Lib.hid (.inr (.inr (.inr ⟨rfl, n0, n1, nq, e0, e1, rfl, at3_parts e2 e3 HN.out⟩))), HO, HG, HZ, HT⟩
                    · omega
                case measure => simp [intOf]; omega
            · obtain rfl : jj = 3 := by omega
              obtain ⟨n0, n1, n2, e0, e1, e2, e3⟩ : ∃ n0 n1 n2 : Nat, c0 = n0 ∧ c1 = n1 ∧ c2 = n2 ∧ at3 (bytesN s) j = some ((n0, n1, n2), q) := by
                obtain ⟨h9, _⟩ | ⟨h9, _⟩ | ⟨h9, _⟩ | ⟨_, h9⟩ := HP.out
                · omega
                · omega
                · omega
                · exact h9
              obtain ⟨_, _, _, f0, f1, f2⟩ := at3_is (bytesN_lt s) (by rw [bytesN_len]; exact hj9) e3
              simp only at f0 f1 f2
              have i0 : 0 ≤ c0 := by omega
              have i1 : 0 ≤ c1 := by omega
              have i2 : 0 ≤ c2 := by omega
              have j0 : c0 ≤ 9223372036854775807 := by omega
              have j1 : c1 ≤ 9223372036854775807 := by omega
              have j2 : c2 ≤ 9223372036854775807 := by omega
              have hways := read_ways HRD.out HL.out HW.out e0 e1 e2
              have HRD2 := Lib.hid (HRD.out.next e3)
              clear e0 e1 e2 e3 f0 f1 f2
              have k1 := HT.out.cell 0 _ rfl
              have k2 := HT.out.cell 1 _ rfl
              have k3 := HT.out.cell 2 _ rfl
              have l1 := HG.out.cell 0 _ rfl
              have l2 := HG.out.cell 1 _ rfl
              have l3 := HG.out.cell 2 _ rfl
              have m1 : ∀ ob, (wr.alloc ob).cell? ⟨h, 0, none⟩ = some (.int .i64 c0) := fun ob => (HT.out.later ((Below.refl _ _).alloc (Nat.le_refl _) ob)).cell 0 _ rfl
              have m2 : ∀ ob, (wr.alloc ob).cell? ⟨h, 1, none⟩ = some (.int .i64 c1) := fun ob => (HT.out.later ((Below.refl _ _).alloc (Nat.le_refl _) ob)).cell 1 _ rfl
              have o1 : ∀ ob, (wr.alloc ob).cell? ⟨g, 1, none⟩ = some (.int .i64 d) := fun ob => (HG.out.later ((Below.refl _ _).alloc (Nat.le_refl _) ob)).cell 1 _ rfl
              have o2 : ∀ ob, (wr.alloc ob).cell? ⟨g, 2, none⟩ = some (.int .i64 a0) := fun ob => (HG.out.later ((Below.refl _ _).alloc (Nat.le_refl _) ob)).cell 2 _ rfl
              have hB := HO.out.base
              have hlo := HO.out.block_lt
              have hgz := hzg
              rcases hways with hway | hway | hway | hway
              · obtain ⟨hk0, hp, hd, ha, hund⟩ := hway
                subst hp hd ha
                have tk : decide (0 < k) = false := decide_eq_false (by omega)
                have tk2 : decide ((0 : Int) < (k : Int)) = false := decide_eq_false (by omega)
                clear hk0
                have HRD3 := Lib.hid HRD2.out
                rw [hund] at HRD3
                have HU := Lib.hid (show lz (lastE none (L ++ [(c0, c1, c2)])) = (c0, c1, c2) by rw [lastE_snoc]; rfl)
                clear hund HRD2
                have HOx := Lib.hid (HO.out.later ((Below.refl _ _).alloc (Nat.le_refl _) (.cells #[.int .i64 c0, .int .i64 c1, .int .i64 c2] 48)))
                have HXx := Lib.hid (Side.fresh (w := wr) (B := w.heap.size) (v := .slice ao no co) 48 [.int .i64 c0, .int .i64 c1, .int .i64 c2] hB hlo)
                have HGx := Lib.hid (HG.out.later ((Below.refl _ _).alloc (Nat.le_refl _) (.cells #[.int .i64 c0, .int .i64 c1, .int .i64 c2] 48)))
                have HZx := Lib.hid (HZ.out.later ((Below.refl _ _).alloc (Nat.le_refl _) (.cells #[.int .i64 c0, .int .i64 c1, .int .i64 c2] 48)))
                clear hlo hB
                go_wp2_with (at_builtin; refine wpList_append_apart rfl (.tmp 87) (.tmp 89) 31 rfl Try.ulE5 Try.infoE5 rfl (by decide) HOx.out rfl #[.int .i64 c0, .int .i64 c1, .int .i64 c2] (by rw [alloc_size]; rfl) rfl (by simp [Value.oneCell']) (by unfold maxLen; omega) (by omega) ?_; intro a5 c5 w5 h5 g5 p5; have HX5 := Lib.hid (HXx.out.grow g5 p5); have HG5 := Lib.hid (HGx.out.grow g5 p5); have HZ5 := Lib.hid (HZx.out.grow g5 p5); have HO5 := Lib.hid h5; clear h5 g5 p5; have x1 := HX5.out.cell 0 _ rfl; have x2 := HX5.out.cell 1 _ rfl; have x3 := HX5.out.cell 2 _ rfl; have y1 := HG5.out.cell 0 _ rfl; have y2 := HG5.out.cell 1 _ rfl; have y3 := HG5.out.cell 2 _ rfl; have r1 := HG5.out.frozen 0; have r2 := HG5.out.frozen 1; have r3 := HG5.out.frozen 2)
                go_roundw
                case rel =>
                  have hgb := HG5.out.base
                  have hga := HG5.out.apart
                  refine ⟨k + 1, q, L ++ [(c0, c1, c2)], c0, c1, c2, a5, no + 1, c5, by omega, by go_num, rfl, rfl, rfl, by have := HNO.out; omega, HRD3, hq9, HU, Lib.hid ⟨?_, ?_, ?_⟩, Lib.hid ?_, Lib.hid (((HG5.out.set_self 0 _).set_self 1 _).set_self 2 _), Lib.hid (((HZ5.out.set_other hzg 0 _).set_other hzg 1 _).set_other hzg 2 _)⟩
                  · exact wrap_in (by omega)
                  · exact wrap_in (by omega)
                  · exact wrap_in (by omega)
                  · rw [entsC_snoc]
                    exact ((HO5.out.beside hgb hga 0 _).beside hgb hga 1 _).beside hgb hga 2 _
                case measure => simp [intOf]; omega
              · obtain ⟨hk0, hx0, hund⟩ := hway
                have tk : decide (0 < k) = true := decide_eq_true (by omega)
                have tk2 : decide ((0 : Int) < (k : Int)) = true := decide_eq_true (by omega)
                clear hk0
                obtain ⟨X, eX⟩ : ∃ X, wrap64 (p + c0) = X := ⟨_, rfl⟩
                rw [eX] at hund
                have t0 : (c0 == 0) = false := by simpa using hx0
                clear hx0
                have HRD3 := Lib.hid HRD2.out
                rw [hund] at HRD3
                have HU := Lib.hid (show lz (lastE none (L ++ [(X, c1, c2)])) = (X, c1, c2) by rw [lastE_snoc]; rfl)
                clear hund HRD2
                have HOx := Lib.hid (HO.out.later ((Below.refl _ _).alloc (Nat.le_refl _) (.cells #[.int .i64 X, .int .i64 c1, .int .i64 c2] 48)))
                have HXx := Lib.hid (Side.fresh (w := wr) (B := w.heap.size) (v := .slice ao no co) 48 [.int .i64 X, .int .i64 c1, .int .i64 c2] hB hlo)
                have HGx := Lib.hid (HG.out.later ((Below.refl _ _).alloc (Nat.le_refl _) (.cells #[.int .i64 X, .int .i64 c1, .int .i64 c2] 48)))
                have HZx := Lib.hid (HZ.out.later ((Below.refl _ _).alloc (Nat.le_refl _) (.cells #[.int .i64 X, .int .i64 c1, .int .i64 c2] 48)))
                clear hlo hB
                go_wp2_with (at_builtin; refine wpList_append_apart rfl (.tmp 87) (.tmp 89) 31 rfl Try.ulE5 Try.infoE5 rfl (by decide) HOx.out rfl #[.int .i64 X, .int .i64 c1, .int .i64 c2] (by rw [alloc_size]; rfl) rfl (by simp [Value.oneCell']) (by unfold maxLen; omega) (by omega) ?_; intro a5 c5 w5 h5 g5 p5; have HX5 := Lib.hid (HXx.out.grow g5 p5); have HG5 := Lib.hid (HGx.out.grow g5 p5); have HZ5 := Lib.hid (HZx.out.grow g5 p5); have HO5 := Lib.hid h5; clear h5 g5 p5; have x1 := HX5.out.cell 0 _ rfl; have x2 := HX5.out.cell 1 _ rfl; have x3 := HX5.out.cell 2 _ rfl; have y1 := HG5.out.cell 0 _ rfl; have y2 := HG5.out.cell 1 _ rfl; have y3 := HG5.out.cell 2 _ rfl; have r1 := HG5.out.frozen 0; have r2 := HG5.out.frozen 1; have r3 := HG5.out.frozen 2)
                go_roundw
                case rel =>
                  have hgb := HG5.out.base
                  have hga := HG5.out.apart
                  refine ⟨k + 1, q, L ++ [(X, c1, c2)], X, c1, c2, a5, no + 1, c5, by omega, by go_num, rfl, rfl, rfl, by have := HNO.out; omega, HRD3, hq9, HU, Lib.hid ⟨?_, ?_, ?_⟩, Lib.hid ?_, Lib.hid (((HG5.out.set_self 0 _).set_self 1 _).set_self 2 _), Lib.hid (((HZ5.out.set_other hzg 0 _).set_other hzg 1 _).set_other hzg 2 _)⟩
                  · rw [← eX]; exact wrap_wrap _
                  · exact wrap_in (by omega)
                  · exact wrap_in (by omega)
                  · rw [entsC_snoc]
                    exact ((HO5.out.beside hgb hga 0 _).beside hgb hga 1 _).beside hgb hga 2 _
                case measure => simp [intOf]; omega
              · obtain ⟨hk0, hx0, hy0, hund⟩ := hway
                have tk : decide (0 < k) = true := decide_eq_true (by omega)
                have tk2 : decide ((0 : Int) < (k : Int)) = true := decide_eq_true (by omega)
                clear hk0
                obtain ⟨X, eX⟩ : ∃ X, wrap64 (p + c0) = X := ⟨_, rfl⟩
                obtain ⟨Y, eY⟩ : ∃ Y, wrap64 (c1 + d) = Y := ⟨_, rfl⟩
                rw [eX, eY] at hund
                have t0 : (c0 == 0) = true := by simpa using hx0
                have t1 : (c1 == 0) = false := by simpa using hy0
                clear hx0 hy0
                have HRD3 := Lib.hid HRD2.out
                rw [hund] at HRD3
                have HU := Lib.hid (show lz (lastE none (L ++ [(X, Y, c2)])) = (X, Y, c2) by rw [lastE_snoc]; rfl)
                clear hund HRD2
                have HOx := Lib.hid (HO.out.later ((Below.refl _ _).alloc (Nat.le_refl _) (.cells #[.int .i64 X, .int .i64 Y, .int .i64 c2] 48)))
                have HXx := Lib.hid (Side.fresh (w := wr) (B := w.heap.size) (v := .slice ao no co) 48 [.int .i64 X, .int .i64 Y, .int .i64 c2] hB hlo)
                have HGx := Lib.hid (HG.out.later ((Below.refl _ _).alloc (Nat.le_refl _) (.cells #[.int .i64 X, .int .i64 Y, .int .i64 c2] 48)))
                have HZx := Lib.hid (HZ.out.later ((Below.refl _ _).alloc (Nat.le_refl _) (.cells #[.int .i64 X, .int .i64 Y, .int .i64 c2] 48)))
                clear hlo hB
                go_wp2_with (at_builtin; refine wpList_append_apart rfl (.tmp 87) (.tmp 89) 31 rfl Try.ulE5 Try.infoE5 rfl (by decide) HOx.out rfl #[.int .i64 X, .int .i64 Y, .int .i64 c2] (by rw [alloc_size]; rfl) rfl (by simp [Value.oneCell']) (by unfold maxLen; omega) (by omega) ?_; intro a5 c5 w5 h5 g5 p5; have HX5 := Lib.hid (HXx.out.grow g5 p5); have HG5 := Lib.hid (HGx.out.grow g5 p5); have HZ5 := Lib.hid (HZx.out.grow g5 p5); have HO5 := Lib.hid h5; clear h5 g5 p5; have x1 := HX5.out.cell 0 _ rfl; have x2 := HX5.out.cell 1 _ rfl; have x3 := HX5.out.cell 2 _ rfl; have y1 := HG5.out.cell 0 _ rfl; have y2 := HG5.out.cell 1 _ rfl; have y3 := HG5.out.cell 2 _ rfl; have r1 := HG5.out.frozen 0; have r2 := HG5.out.frozen 1; have r3 := HG5.out.frozen 2)
                go_roundw
                case rel =>
                  have hgb := HG5.out.base
                  have hga := HG5.out.apart
                  refine ⟨k + 1, q, L ++ [(X, Y, c2)], X, Y, c2, a5, no + 1, c5, by omega, by go_num, rfl, rfl, rfl, by have := HNO.out; omega, HRD3, hq9, HU, Lib.hid ⟨?_, ?_, ?_⟩, Lib.hid ?_, Lib.hid (((HG5.out.set_self 0 _).set_self 1 _).set_self 2 _), Lib.hid (((HZ5.out.set_other hzg 0 _).set_other hzg 1 _).set_other hzg 2 _)⟩
                  · rw [← eX]; exact wrap_wrap _
                  · rw [← eY]; exact wrap_wrap _
                  · exact wrap_in (by omega)
                  · rw [entsC_snoc]
                    exact ((HO5.out.beside hgb hga 0 _).beside hgb hga 1 _).beside hgb hga 2 _
                case measure => simp [intOf]; omega
              · obtain ⟨hk0, hx0, hy0, hund⟩ := hway
                have tk : decide (0 < k) = true := decide_eq_true (by omega)
                have tk2 : decide ((0 : Int) < (k : Int)) = true := decide_eq_true (by omega)
                clear hk0
                obtain ⟨X, eX⟩ : ∃ X, wrap64 (p + c0) = X := ⟨_, rfl⟩
                obtain ⟨Y, eY⟩ : ∃ Y, wrap64 (c1 + d) = Y := ⟨_, rfl⟩
                obtain ⟨Z, eZ⟩ : ∃ Z, wrap64 (c2 + wrap64 (a0 + 1)) = Z := ⟨_, rfl⟩
                rw [eX, eY, eZ] at hund
                have t0 : (c0 == 0) = true := by simpa using hx0
                have t1 : (c1 == 0) = true := by simpa using hy0
                clear hx0 hy0
                have HRD3 := Lib.hid HRD2.out
                rw [hund] at HRD3
                have HU := Lib.hid (show lz (lastE none (L ++ [(X, Y, Z)])) = (X, Y, Z) by rw [lastE_snoc]; rfl)
                clear hund HRD2
                have HOx := Lib.hid (HO.out.later ((Below.refl _ _).alloc (Nat.le_refl _) (.cells #[.int .i64 X, .int .i64 Y, .int .i64 Z] 48)))
                have HXx := Lib.hid (Side.fresh (w := wr) (B := w.heap.size) (v := .slice ao no co) 48 [.int .i64 X, .int .i64 Y, .int .i64 Z] hB hlo)
                have HGx := Lib.hid (HG.out.later ((Below.refl _ _).alloc (Nat.le_refl _) (.cells #[.int .i64 X, .int .i64 Y, .int .i64 Z] 48)))
                have HZx := Lib.hid (HZ.out.later ((Below.refl _ _).alloc (Nat.le_refl _) (.cells #[.int .i64 X, .int .i64 Y, .int .i64 Z] 48)))
                clear hlo hB
                go_wp2_with (at_builtin; refine wpList_append_apart rfl (.tmp 87) (.tmp 89) 31 rfl Try.ulE5 Try.infoE5 rfl (by decide) HOx.out rfl #[.int .i64 X, .int .i64 Y, .int .i64 Z] (by rw [alloc_size]; rfl) rfl (by simp [Value.oneCell']) (by unfold maxLen; omega) (by omega) ?_; intro a5 c5 w5 h5 g5 p5; have HX5 := Lib.hid (HXx.out.grow g5 p5); have HG5 := Lib.hid (HGx.out.grow g5 p5); have HZ5 := Lib.hid (HZx.out.grow g5 p5); have HO5 := Lib.hid h5; clear h5 g5 p5; have x1 := HX5.out.cell 0 _ rfl; have x2 := HX5.out.cell 1 _ rfl; have x3 := HX5.out.cell 2 _ rfl; have y1 := HG5.out.cell 0 _ rfl; have y2 := HG5.out.cell 1 _ rfl; have y3 := HG5.out.cell 2 _ rfl; have r1 := HG5.out.frozen 0; have r2 := HG5.out.frozen 1; have r3 := HG5.out.frozen 2)
                go_roundw
                case rel =>
                  have hgb := HG5.out.base
                  have hga := HG5.out.apart
                  refine ⟨k + 1, q, L ++ [(X, Y, Z)], X, Y, Z, a5, no + 1, c5, by omega, by go_num, rfl, rfl, rfl, by have := HNO.out; omega, HRD3, hq9, HU, Lib.hid ⟨?_, ?_, ?_⟩, Lib.hid ?_, Lib.hid (((HG5.out.set_self 0 _).set_self 1 _).set_self 2 _), Lib.hid (((HZ5.out.set_other hzg 0 _).set_other hzg 1 _).set_other hzg 2 _)⟩
                  · rw [← eX]; exact wrap_wrap _
                  · rw [← eY]; exact wrap_wrap _
                  · rw [← eZ]; exact wrap_wrap _
                  · rw [entsC_snoc]
                    exact ((HO5.out.beside hgb hga 0 _).beside hgb hga 1 _).beside hgb hga 2 _
                case measure => simp [intOf]; omega
        · obtain rfl : k = m := by omega
          have hend := readS_end H0.out (by rw [bytesN_len]; omega) HRD.out.read
          rw [bytesN_len] at hend
          have hnl : no = L.length := by rw [HRD.out.len, hno]
          clear hno
          by_cases hjs : j = s.size
          · have tj : ((j : Int) != (s.size : Int)) = false := by simp; omega
            by_cases hok : shOk L
            · rw [if_pos ⟨hjs, hok⟩] at hend
              obtain ⟨rfl, rfl⟩ := (by simpa using (HH.out.symm.trans (readT_some hend)) : L0 = L ∧ b0 = true)
              have cs := fun w hat => specShelfOk_is true L0 ao no co w ⟨fun _ => hok, fun _ => rfl⟩ hnl (by omega) hat
              clear hend hjs hok hnl
              go_wp2_with fail
              refine (cs _ HO.out.at_).mono ?_
              rintro e w5 ⟨rfl, b5⟩
              have HO := Lib.hid (HO.out.later b5)
              go_wp2
              go_ret2
              exact ⟨_, _, _, rfl, HO.out⟩
            · rw [if_neg (fun e => hok e.2)] at hend
              obtain ⟨rfl, rfl⟩ := (by simpa using (HH.out.symm.trans (readT_none hend)) : L0 = [] ∧ b0 = false)
              have cs := fun w hat => specShelfOk_is false L ao no co w ⟨fun h => absurd h (by decide), fun h => absurd h hok⟩ hnl (by omega) hat
              clear hend hjs hok hnl
              go_wp2_with fail
              refine (cs _ HO.out.at_).mono ?_
              rintro e w5 ⟨rfl, b5⟩
              have HO := Lib.hid (HO.out.later b5)
              have HZ := Lib.hid (HZ.out.later b5)
              go_wp2
              go_ret2
              exact ⟨_, _, _, rfl, HZ.out.row (s := 3) (n := 0) rfl (Nat.zero_le _) HO.out.base HO.out.below⟩
          · rw [if_neg (fun e => hjs e.1)] at hend
            have tj : ((j : Int) != (s.size : Int)) = true := by simp; omega
            obtain ⟨rfl, rfl⟩ := (by simpa using (HH.out.symm.trans (readT_none hend)) : L0 = [] ∧ b0 = false)
            clear hend hjs hnl
            go_wp2
            go_ret2
            exact ⟨_, _, _, rfl, HZ.out.row (s := 3) (n := 0) rfl (Nat.zero_le _) HO.out.base HO.out.below⟩

end Go.Proofs.Ytapombdkkcjodaa
