/-
  The contract of the program's function ReadShelf. Condition: the text has at most 2^20 bytes.
-/
import Derived.Test.YtapombdkkcjodaaSixH
namespace Go.Proofs.Ytapombdkkcjodaa
open Go.RowKit

theorem threeT_none {s : ByteArray} {j : Nat} (h : at3 (bytesN s) j = none) : threeT s j = (0, 0, 0, 0, false) := by rw [threeT, h]
theorem threeT_some {s : ByteArray} {j n0 n1 n2 q : Nat} (h : at3 (bytesN s) j = some ((n0, n1, n2), q)) : threeT s j = ((n0 : Int), (n1 : Int), (n2 : Int), (q : Int), true) := by rw [threeT, h]
theorem at3_within {s : ByteArray} {j q : Nat} {t : Nat × Nat × Nat} (hj : j ≤ s.size) (h : at3 (bytesN s) j = some (t, q)) : q ≤ s.size ∧ t.1 < 2 ^ 63 ∧ t.2.1 < 2 ^ 63 ∧ t.2.2 < 2 ^ 63 := by
  obtain ⟨_, h1, _, h2, h3, h4⟩ := at3_is (bytesN_lt s) (by rw [bytesN_len]; exact hj) h
  rw [bytesN_len] at h1
  exact ⟨h1, h2, h3, h4⟩

set_option maxRecDepth 4000 in
set_option maxHeartbeats 8000000 in
theorem implRead_any (s : ByteArray) (L0 : List En) (b0 : Bool) (w : World) (h : readT wrap64 s = (L0, b0)) (hs : s.size ≤ 1048576) :
    Calls Try.prog 21 #[.string s] w fun e w' => ∃ a n c, e = .returned (.tuple #[.slice a n c, .bool b0]) ∧ One w w.heap.size w' 48 3 a n c (entsC L0) := by
  have HH := Lib.hid h
  clear h
  rcases take_ways s 0 (Nat.zero_le _) with ⟨ht, h0⟩ | ⟨m, i, ht, h0, hi0, hi9, hm9⟩
  · have c0 := fun w => implTake_any s 0 0 0 false w ht (by omega) (by omega)
    obtain ⟨rfl, rfl⟩ := (by simpa using (HH.out.symm.trans (readT_none (readS_no h0))) : L0 = [] ∧ b0 = false)
    clear h0 ht
    go_enter Try.func21, Try.ntmps21
    go_wp2_with fail
    refine (c0 _).mono ?_
    rintro e w2 ⟨rfl, b2⟩
    go_wp2
    go_ret2
    exact ⟨_, _, _, rfl, World.ownsRow_nil _ _ _ _, b2.size, b2⟩
  · have c0 := fun w => implTake_any s 0 m i true w ht (by omega) (by omega)
    have H0 := Lib.hid h0
    clear h0 ht
    obtain ⟨r, hr⟩ : ∃ r : Nat, (s.size - i) / 3 = r := ⟨_, rfl⟩
    have hr1 : ((s.size : Int) - (i : Int)).tdiv 3 = (r : Int) := by
      rw [Int.tdiv_eq_ediv_of_nonneg (by omega)]
      omega
    have hr9 : r ≤ 1048576 := by omega
    by_cases hm : r < m
    · obtain ⟨rfl, rfl⟩ := (by simpa using (HH.out.symm.trans (readT_none (readS_room (bytesN_lt s) H0.out (by rw [bytesN_len]; omega)))) : L0 = [] ∧ b0 = false)
      have hm2 : (r : Int) < (m : Int) := by omega
      clear hr
      go_enter Try.func21, Try.ntmps21
      go_wp2_with fail
      refine (c0 _).mono ?_
      rintro e w2 ⟨rfl, b2⟩
      go_wp2
      go_ret2
      exact ⟨_, _, _, rfl, World.ownsRow_nil _ _ _ _, b2.size, b2⟩
    · have hm2 : ¬ (r : Int) < (m : Int) := by omega
      have hm3 : m ≤ 1048576 := by omega
      have hm4 : m ≤ s.size := by omega
      clear hr hm
      go_enter Try.func21, Try.ntmps21
      go_wp2_with fail
      refine (c0 _).mono ?_
      rintro e w2 ⟨rfl, b2⟩
      go_wp2_with fail
      refine (implAhead_any _).mono ?_
      rintro e w4 ⟨rfl, b4⟩
      have B4 := b2.trans (b4.mono b2.size)
      clear b2 b4
      go_wp2
      have o0 : One w w.heap.size (w4.alloc (.cells #[.int .i64 0, .int .i64 0, .int .i64 (-1)] 48)) 48 3 none 0 0 (entsC []) :=
        ⟨World.ownsRow_nil _ _ _ _, Nat.le_trans B4.size (heap_le_alloc _ _), B4.alloc B4.size _⟩
      have s0 := Side.fresh (w := w4) (B := w.heap.size) (v := .slice none 0 0) 48 [.int .i64 0, .int .i64 0, .int .i64 (-1)] B4.size (by intro k hk; simp [Value.ownBlock] at hk)
      have s0 : Side (w4.alloc (.cells #[.int .i64 0, .int .i64 0, .int .i64 (-1)] 48)) w.heap.size (.slice none 0 0) 48 w4.heap.size [.int .i64 0, .int .i64 0, .int .i64 (-1)] := s0
      obtain ⟨w3, hw3⟩ : ∃ w3, w4.alloc (.cells #[.int .i64 0, .int .i64 0, .int .i64 (-1)] 48) = w3 := ⟨_, rfl⟩
      obtain ⟨g, hg⟩ : ∃ g, w4.heap.size = g := ⟨_, rfl⟩
      rw [hw3, hg] at s0
      rw [hw3] at o0
      rw [hw3, hg]
      clear hw3 hg B4
      go_loopw [5, 7, 9] (fun vat vout vk wr => ∃ (k j : Nat) (L : List En) (p d a0 : Int) (ao : Option Addr) (no co : Nat), k ≤ m ∧ vk = .int .i64 (k : Int) ∧ vat = .int .i64 (j : Int) ∧ vout = .slice ao no co ∧ Hid (no = k) ∧ Hid (ReadTo (bytesN s) i k L j) ∧ j ≤ s.size ∧ Hid (lzI (lastE none L) = (p, d, a0)) ∧ Hid (shOk L ∧ ∀ x ∈ L, fits x) ∧ Hid (One w w.heap.size wr 48 3 ao no co (entsC L)) ∧ Hid (Side wr w.heap.size (.slice ao no co) 48 g [.int .i64 p, .int .i64 d, .int .i64 a0])) (fun _ _ vk _ => m - (intOf vk).toNat)
      case atStart => exact ⟨0, i, [], 0, 0, -1, none, 0, 0, Nat.zero_le _, rfl, rfl, rfl, Lib.hid rfl, Lib.hid (ReadTo.zero _ _), hi9, Lib.hid rfl, Lib.hid ⟨⟨by simp, .nil⟩, by simp⟩, Lib.hid o0, Lib.hid s0⟩
      case round =>
        obtain ⟨k, j, L, p, d, a0, ao, no, co, hk, rfl, rfl, rfl, HNO, HRD, hj9, HL, HSH, HO, HG⟩ := hrel
        have hno9 : no ≤ 1048576 := by have := HNO.out; omega
        have hbnd := ahead_bounds HSH.out.1 HSH.out.2 HL.out
        by_cases hlt : k < m
        · have hz1 : (k : Int) < (m : Int) := by omega
          have l1 := HG.out.cell 0 _ rfl
          have l2 := HG.out.cell 1 _ rfl
          have l3 := HG.out.cell 2 _ rfl
          cases h3 : at3 (bytesN s) j with
          | none =>
            have cT := fun w => implThree_any s j 0 0 0 0 false w (threeT_none h3) hj9 hs
            obtain ⟨⟨⟨ex, ey, ez⟩, eb⟩, hen⟩ : ∃ x, entryI p d a0 0 0 0 = x := ⟨_, rfl⟩
            have cE := fun w => implEntry_any p d a0 0 0 0 ex ey ez eb w hen hbnd (by omega) (by omega) (by omega)
            obtain ⟨rfl, rfl⟩ := (by simpa using (HH.out.symm.trans (readT_none (readS_stop H0.out (by rw [bytesN_len]; omega) (show k + 1 ≤ m by omega) (HRD.out.stop h3)))) : L0 = [] ∧ b0 = false)
            clear h3 hbnd hen
            go_wp2_with fail
            refine (cT _).mono ?_
            rintro e w5 ⟨rfl, b5⟩
            have HO := Lib.hid (HO.out.later b5)
            have HG := Lib.hid (HG.out.later b5)
            have n1 : ∀ ob, (w5.alloc ob).cell? ⟨g, 0, none⟩ = some (.int .i64 p) := fun ob => (HG.out.later ((Below.refl _ _).alloc (Nat.le_refl _) ob)).cell 0 _ rfl
            have n2 : ∀ ob, (w5.alloc ob).cell? ⟨g, 1, none⟩ = some (.int .i64 d) := fun ob => (HG.out.later ((Below.refl _ _).alloc (Nat.le_refl _) ob)).cell 1 _ rfl
            have n3 : ∀ ob, (w5.alloc ob).cell? ⟨g, 2, none⟩ = some (.int .i64 a0) := fun ob => (HG.out.later ((Below.refl _ _).alloc (Nat.le_refl _) ob)).cell 2 _ rfl
            clear l1 l2 l3 b5
            go_wp2_with fail
            refine (cE _).mono ?_
            rintro e w6 ⟨rfl, b6⟩
            have hB := HO.out.below
            have B6 := (hB.alloc hB.size _).trans (b6.mono (Nat.le_trans hB.size (heap_le_alloc _ _)))
            clear n1 n2 n3 b6
            go_wp2
            go_ret2
            exact ⟨_, _, _, rfl, World.ownsRow_nil _ _ _ _, Nat.le_trans B6.size (heap_le_alloc _ _), B6.alloc B6.size _⟩
          | some tq =>
            obtain ⟨⟨n0, n1, n2⟩, q⟩ := tq
            obtain ⟨hq9, f0, f1, f2⟩ := at3_within hj9 h3
            simp only at f0 f1 f2
            have cT := fun w => implThree_any s j n0 n1 n2 q true w (threeT_some h3) hj9 hs
            have hways := entry_ways HSH.out.1 HSH.out.2 HL.out f0 f1 f2
            have HRD2 := Lib.hid (HRD.out.next h3)
            obtain ⟨u, hu⟩ : ∃ u : Int, (n0 : Int) = u := ⟨_, rfl⟩
            obtain ⟨v, hv⟩ : ∃ u : Int, (n1 : Int) = u := ⟨_, rfl⟩
            obtain ⟨t, ht⟩ : ∃ u : Int, (n2 : Int) = u := ⟨_, rfl⟩
            have u0 : 0 ≤ u ∧ u ≤ 9223372036854775807 := by omega
            have v0 : 0 ≤ v ∧ v ≤ 9223372036854775807 := by omega
            have t0 : 0 ≤ t ∧ t ≤ 9223372036854775807 := by omega
            simp only [hu, hv, ht] at cT hways
            clear hu hv ht f0 f1 f2 h3
            have n1 : ∀ w5, Below wr.heap.size wr w5 → ∀ ob, (w5.alloc ob).cell? ⟨g, 0, none⟩ = some (.int .i64 p) := fun w5 b5 ob => ((HG.out.later b5).later ((Below.refl _ _).alloc (Nat.le_refl _) ob)).cell 0 _ rfl
            have n2 : ∀ w5, Below wr.heap.size wr w5 → ∀ ob, (w5.alloc ob).cell? ⟨g, 1, none⟩ = some (.int .i64 d) := fun w5 b5 ob => ((HG.out.later b5).later ((Below.refl _ _).alloc (Nat.le_refl _) ob)).cell 1 _ rfl
            have n3 : ∀ w5, Below wr.heap.size wr w5 → ∀ ob, (w5.alloc ob).cell? ⟨g, 2, none⟩ = some (.int .i64 a0) := fun w5 b5 ob => ((HG.out.later b5).later ((Below.refl _ _).alloc (Nat.le_refl _) ob)).cell 2 _ rfl
            have HN1 := Lib.hid n1
            have HN2 := Lib.hid n2
            have HN3 := Lib.hid n3
            clear n1 n2 n3
            rcases hways with ⟨⟨x, y, z⟩, hen, hund, hsh, hfx⟩ | ⟨hen, hbad⟩
            · have cE := fun w => implEntry_any p d a0 u v t x y z true w hen hbnd u0 v0 t0
              have HRD3 := HRD2.out
              rw [hund] at HRD3
              have HRD3 := Lib.hid HRD3
              have HU := Lib.hid (show lzI (lastE none (L ++ [(x, y, z)])) = (x, y, z) by rw [lastE_snoc]; rfl)
              have HSH2 := Lib.hid (show shOk (L ++ [(x, y, z)]) ∧ ∀ e ∈ L ++ [(x, y, z)], fits e from ⟨hsh, fun e he => by
                rcases List.mem_append.1 he with h1 | h1
                · exact HSH.out.2 e h1
                · rw [List.mem_singleton] at h1; subst h1; exact hfx⟩)
              clear hen hund hsh hfx hbnd HRD2
              go_wp2_with fail
              refine (cT _).mono ?_
              rintro e w5 ⟨rfl, b5⟩
              have HO := Lib.hid (HO.out.later b5)
              have HG := Lib.hid (HG.out.later b5)
              have n1 := HN1.out w5 b5
              have n2 := HN2.out w5 b5
              have n3 := HN3.out w5 b5
              clear l1 l2 l3 b5
              go_wp2_with fail
              refine (cE _).mono ?_
              rintro e w6 ⟨rfl, b6⟩
              have HO := Lib.hid ((HO.out.later ((Below.refl _ _).alloc (Nat.le_refl _) _)).later b6)
              have HG := Lib.hid ((HG.out.later ((Below.refl _ _).alloc (Nat.le_refl _) _)).later b6)
              clear n1 n2 n3 b6
              have hB := HO.out.base
              have hlo := HO.out.block_lt
              have HOx := Lib.hid (HO.out.later ((Below.refl _ _).alloc (Nat.le_refl _) (.cells #[.int .i64 x, .int .i64 y, .int .i64 z] 48)))
              have HXx := Lib.hid (Side.fresh (w := w6) (B := w.heap.size) (v := .slice ao no co) 48 [.int .i64 x, .int .i64 y, .int .i64 z] hB hlo)
              have HGx := Lib.hid (HG.out.later ((Below.refl _ _).alloc (Nat.le_refl _) (.cells #[.int .i64 x, .int .i64 y, .int .i64 z] 48)))
              clear hB hlo
              go_wp2_with (at_builtin; refine wpList_append_apart rfl (.tmp 57) (.tmp 59) 31 rfl Try.ulE5 Try.infoE5 rfl (by decide) HOx.out rfl #[.int .i64 x, .int .i64 y, .int .i64 z] (by rw [alloc_size]; rfl) rfl (by simp [Value.oneCell']) (by unfold maxLen; omega) (by omega) ?_; intro a5 c5 x5 h5 g5 p5; have HX5 := Lib.hid (HXx.out.grow g5 p5); have HG5 := Lib.hid (HGx.out.grow g5 p5); have HO5 := Lib.hid h5; clear h5 g5 p5; have x1 := HX5.out.cell 0 _ rfl; have x2 := HX5.out.cell 1 _ rfl; have x3 := HX5.out.cell 2 _ rfl; have y1 := HG5.out.cell 0 _ rfl; have y2 := HG5.out.cell 1 _ rfl; have y3 := HG5.out.cell 2 _ rfl; have r1 := HG5.out.frozen 0; have r2 := HG5.out.frozen 1; have r3 := HG5.out.frozen 2)
              go_roundw
              case rel =>
                have hgb := HG5.out.base
                have hga := HG5.out.apart
                refine ⟨k + 1, q, L ++ [(x, y, z)], x, y, z, a5, no + 1, c5, by omega, by go_num, rfl, rfl, Lib.hid (by have := HNO.out; omega), HRD3, hq9, HU, HSH2, Lib.hid ?_, Lib.hid (((HG5.out.set_self 0 _).set_self 1 _).set_self 2 _)⟩
                rw [entsC_snoc]
                exact ((HO5.out.beside hgb hga 0 _).beside hgb hga 1 _).beside hgb hga 2 _
              case measure => simp [intOf]; omega
            · have cE := fun w => implEntry_any p d a0 u v t 0 0 0 false w hen hbnd u0 v0 t0
              obtain ⟨rfl, rfl⟩ := (by simpa using (HH.out.symm.trans (readT_none (readS_bad (bytesN_lt s) H0.out hlt HRD2.out.read HRD.out.len hbad))) : L0 = [] ∧ b0 = false)
              clear hen hbad hbnd HRD2
              go_wp2_with fail
              refine (cT _).mono ?_
              rintro e w5 ⟨rfl, b5⟩
              have HO := Lib.hid (HO.out.later b5)
              have n1 := HN1.out w5 b5
              have n2 := HN2.out w5 b5
              have n3 := HN3.out w5 b5
              clear l1 l2 l3 b5
              go_wp2_with fail
              refine (cE _).mono ?_
              rintro e w6 ⟨rfl, b6⟩
              have hB := HO.out.below
              have B6 := (hB.alloc hB.size _).trans (b6.mono (Nat.le_trans hB.size (heap_le_alloc _ _)))
              clear n1 n2 n3 b6
              go_wp2
              go_ret2
              exact ⟨_, _, _, rfl, World.ownsRow_nil _ _ _ _, Nat.le_trans B6.size (heap_le_alloc _ _), B6.alloc B6.size _⟩
        · obtain rfl : k = m := by omega
          have hend := readS_end H0.out (by rw [bytesN_len]; omega) HRD.out.read
          rw [bytesN_len] at hend
          by_cases hjs : j = s.size
          · have tj : ¬ (j : Int) < (s.size : Int) := by omega
            rw [if_pos ⟨hjs, HSH.out.1⟩] at hend
            obtain ⟨rfl, rfl⟩ := (by simpa using (HH.out.symm.trans (readT_some hend)) : L0 = L ∧ b0 = true)
            clear hend hjs hbnd
            go_wp2
            go_ret2
            exact ⟨_, _, _, rfl, HO.out⟩
          · rw [if_neg (fun e => hjs e.1)] at hend
            have tj : (j : Int) < (s.size : Int) := by omega
            obtain ⟨rfl, rfl⟩ := (by simpa using (HH.out.symm.trans (readT_none hend)) : L0 = [] ∧ b0 = false)
            clear hend hjs hbnd
            have hB := HO.out.below
            go_wp2
            go_ret2
            exact ⟨_, _, _, rfl, World.ownsRow_nil _ _ _ _, hB.size, hB⟩

end Go.Proofs.Ytapombdkkcjodaa
