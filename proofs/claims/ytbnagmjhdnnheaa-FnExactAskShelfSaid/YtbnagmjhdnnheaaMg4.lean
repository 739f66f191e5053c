/-
  The contracts of the model's functions FoundBy and FalseTwins. Condition: texts have at most 2^20 bytes. (Written by wip/tools/ch8_found.py.)
  The contracts of the model's functions PiecesOf, LongestPiece and TurnedPieces. Conditions: texts have at most 2^20 bytes; rows at most 2^20 pieces.
  The contracts of the model's functions EntryLess and ShelfOk. Condition: rows have at most 2^22 entries.
  The contracts of the model's functions ShelfLose and ShelfFind. Condition: rows have at most 2^22 entries.
  The contract of the model's function ShelfJoin. Condition: rows have at most 2^21 entries.
  The contract of the model's function l5Put. Condition: rows have at most 2^21 entries. (Written by wip/tools/ch5_put.py.)
  The contract of the model's function ShelfOf. Condition: texts have at most 2^21 bytes.
  Words for rows of records of four numbers: what is found. No program is read here. No conditions.
-/
import Derived.Test.YtbnagmjhdnnheaaMg2
import Derived.Test.YtbnagmjhdnnheaaMg3
import Derived.Deep.QuietTactic
import Derived.Deep.RegionHeld3
import Derived.BigQuiet
import Derived.IntWalk
import Derived.Test.YtbnagmjhdnnheaaMg1
namespace Go.Proofs.Ytbnagmjhdnnheaa
open Go.RowKit

theorem mkL_len (s : ByteArray) (k w : Int) : (mkL s k w).length ≤ s.size := by
  rw [mkL, marksL, List.length_map]
  have h1 := chosenN_len (printsL s.data.toList k) w
  have h2 := printsN_room s.data.toList k
  have h3 : s.data.toList.length = s.size := rfl
  unfold marksAt
  omega
theorem foundTo_nil (s t : ByteArray) (k n : Int) : foundTo s t k n [] = [] := rfl
/-- What stands at a twin: the bytes are the same or not, and what grows has bytes enough or not. -/
theorem around_ways (s t : ByteArray) (K : Nat) (n : Int) (X Y : Nat) (hK : 1 ≤ K) : (¬ K ≤ runP s t X Y ∧ aroundP s t (K : Int) n X Y = none) ∨
    (∃ x y z : Int, K ≤ runP s t X Y ∧ growT s t X Y = ((x, y, z), true) ∧ n ≤ z ∧ aroundP s t (K : Int) n X Y = some (x, y, z)) ∨
    (∃ x y z : Int, K ≤ runP s t X Y ∧ growT s t X Y = ((x, y, z), true) ∧ ¬ n ≤ z ∧ aroundP s t (K : Int) n X Y = none) := by
  by_cases h : K ≤ runP s t X Y
  · have hsm : sm s t X Y := runP_same s t X Y 0 (by omega)
    have hg := growT_yes hsm
    obtain ⟨⟨x, y, z⟩, hp⟩ : ∃ p, growN s t X Y = p := ⟨_, rfl⟩
    rw [hp] at hg
    by_cases hz : n ≤ z
    · exact .inr (.inl ⟨x, y, z, h, hg, hz, by rw [aroundP, hp, Int.toNat_natCast, if_pos ⟨h, hz⟩]⟩)
    · exact .inr (.inr ⟨x, y, z, h, hg, hz, by rw [aroundP, hp, Int.toNat_natCast, if_neg (fun e => hz e.2)]⟩)
  · exact .inl ⟨h, by rw [aroundP, Int.toNat_natCast, if_neg (fun e => h e.1)]⟩

set_option maxRecDepth 4000 in
set_option maxHeartbeats 16000000 in
theorem specFound_any (s t : ByteArray) (k v n : Int) (R : List En) (w : World) (h : foundL s t k v n = R) (hs : s.size ≤ 1048576) (ht : t.size ≤ 1048576) (hv9 : v ≤ 9223372036854775807) :
    Calls Try.prog 32 #[.string s, .string t, .int .i64 k, .int .i64 v, .int .i64 n] w fun e w' => ∃ g m c, e = .returned (.slice (some ⟨g, 0, none⟩) m c) ∧ One w w.heap.size w' 88 3 (some ⟨g, 0, none⟩) m c (entsC R) := by
  subst h
  by_cases hn : n < 1
  · have HE := Lib.hid (foundL_none (s := s) (t := t) (k := k) (w := v) (.inr (.inr hn)))
    go_enter Try.func32, Try.ntmps32
    go_wp2
    go_ret
    exact ⟨_, _, _, rfl, by rw [HE.out]; exact One.empty w 88 3⟩
  · obtain ⟨A, hA⟩ : ∃ A, mkL s k v = A := ⟨_, rfl⟩
    obtain ⟨B, hB⟩ : ∃ A, mkL t k v = A := ⟨_, rfl⟩
    have HR := Lib.hid (show foundL s t k v n = rowE (foundTo s t k n (twinsL A B)) by rw [foundL, if_neg hn, hA, hB])
    have cA := fun w => specMarks_any s k v A w hA (by omega) hv9
    have cB := fun w => specMarks_any t k v B w hB (by omega) hv9
    have hAl : A.length ≤ 1048576 := by rw [← hA]; exact Nat.le_trans (mkL_len s k v) hs
    have hBl : B.length ≤ 1048576 := by rw [← hB]; exact Nat.le_trans (mkL_len t k v) ht
    have HA := Lib.hid hA
    have HB2 := Lib.hid hB
    clear hA hB
    go_enter Try.func32, Try.ntmps32
    go_wp2_with fail
    refine (cA _).mono ?_
    rintro e w1 ⟨aA, nA, dA, rfl, oA⟩
    go_wp2_with fail
    refine (cB _).mono ?_
    rintro e w2 ⟨aB, nB, dB, rfl, oB⟩
    have cT := specTwins_any A B aA nA dA aB nB dB w2 (pairs_len oA.own) (pairs_len oB.own) (by have := pairs_len oA.own; omega) (by have := pairs_len oB.own; omega) (oA.later oB.below).at_ oB.at_
    go_wp2_with fail
    refine cT.mono ?_
    rintro e w3 ⟨aT, nT, dT, rfl, oT⟩
    obtain ⟨T, hT⟩ : ∃ T, twinsL A B = T := ⟨_, rfl⟩
    rw [hT] at oT
    have HT := Lib.hid oT.at_
    have HNT := Lib.hid (pairs_len oT.own)
    have HTE := Lib.hid hT
    have hnT : nT ≤ 1099511627776 := by
      have h1 := pairs_len oT.own
      have h2 := twinsL_len A B 1048576 hBl
      have h3 : A.length * 1048576 ≤ 1048576 * 1048576 := Nat.mul_le_mul hAl (Nat.le_refl _)
      rw [hT] at h2
      omega
    have HO := Lib.hid ((((One.empty w 88 3).later oA.below).later oB.below).later oT.below)
    clear cA cB cT oA oB oT hT
    go_wp2
    go_loopw [11, 13] (fun u i_ wr => ∃ (i g m c : Nat), i ≤ nT ∧ i_ = .int .i64 (i : Int) ∧ u = .slice (some ⟨g, 0, none⟩) m c ∧ Hid (m = (rowE (foundTo s t k n (T.take i))).length) ∧ Hid (One w w.heap.size wr 88 3 (some ⟨g, 0, none⟩) m c (entsC (rowE (foundTo s t k n (T.take i))))) ∧ Hid (Below w3.heap.size w3 wr)) (fun _ i_ _ => nT - (intOf i_).toNat)
    case atStart => exact ⟨0, _, _, _, Nat.zero_le _, rfl, rfl, Lib.hid rfl, HO, Lib.hid (Below.refl _ _)⟩
    case round =>
      clear HO
      obtain ⟨i, g, m, c, hi, rfl, rfl, HLEN, HO, HB⟩ := hrel
      by_cases hlt : i < nT
      · have hil : i < T.length := by have := HNT.out; omega
        have hmem : T[i] ∈ twinsL (mkL s k v) (mkL t k v) := by rw [HA.out, HB2.out, HTE.out]; exact List.getElem_mem hil
        obtain ⟨X, Y, K, rfl, hk1, hxy, hX, hY, _⟩ := twin_in hmem
        obtain ⟨b, o, rfl, hb9, hc⟩ := (HT.out.below HB.out).pair (fun e => by rw [e] at hil; simp at hil)
        obtain ⟨e1, e2⟩ := hc i hil
        rw [hxy] at e1 e2
        have z1 : (i : Int) < (nT : Int) := by omega
        have z0 : (0 : Int) ≤ (i : Int) := by omega
        have hways := around_ways s t K n X Y hk1
        obtain ⟨P, hP⟩ : ∃ P, s.extract X (X + K) = P := ⟨_, rfl⟩
        obtain ⟨Q, hQ⟩ : ∃ P, t.extract Y (Y + K) = P := ⟨_, rfl⟩
        have hPQ : P = Q ↔ K ≤ runP s t X Y := by rw [← hP, ← hQ]; exact extract_same hX hY
        have sl1 : ∀ w, (Instr.slice 9 (.string s) (some (.int .i64 (X : Int))) (some (.int .i64 ((X : Int) + (K : Int)))) none).run Try.prog w = .ok (.string P) w := fun w => by
          have h1 := run_slice_string (P := Try.prog) w 9 s .i64 .i64 (X : Int) ((X : Int) + (K : Int)) Try.uls7 (by omega) (by omega) (by omega)
          rwa [Int.toNat_natCast, show ((X : Int) + (K : Int)).toNat = X + K by omega, hP] at h1
        have sl2 : ∀ w, (Instr.slice 9 (.string t) (some (.int .i64 (Y : Int))) (some (.int .i64 ((Y : Int) + (K : Int)))) none).run Try.prog w = .ok (.string Q) w := fun w => by
          have h1 := run_slice_string (P := Try.prog) w 9 t .i64 .i64 (Y : Int) ((Y : Int) + (K : Int)) Try.uls7 (by omega) (by omega) (by omega)
          rwa [Int.toNat_natCast, show ((Y : Int) + (K : Int)).toNat = Y + K by omega, hQ] at h1
        have v1 : IntKind.i64.wrap ((X : Int) + (K : Int)) = (X : Int) + (K : Int) := IntWalk.i64_in _ (by omega)
        have v2 : IntKind.i64.wrap ((Y : Int) + (K : Int)) = (Y : Int) + (K : Int) := IntWalk.i64_in _ (by omega)
        have ha := (Below.refl wr.heap.size wr).alloc (Nat.le_refl _) (.cells #[.int .i64 (X : Int), .int .i64 (Y : Int)] 86)
        have S5 := Side.fresh (w := wr) (B := 0) (v := .slice none 0 0) 86 [.int .i64 (X : Int), .int .i64 (Y : Int)] (Nat.zero_le _) (by intro k hk; simp [Value.ownBlock] at hk)
        have hm9 : m ≤ 1099511627776 := by
          have h1 := rowE_len (foundTo s t (K : Int) n (T.take i))
          have h2 := foundTo_len s t (K : Int) n (T.take i)
          rw [List.length_take] at h2
          have := HLEN.out
          omega
        have hone := HO.out.later ha
        have hbb := Lib.hid (HB.out.trans (ha.mono HB.out.size))
        clear hP hQ hmem hc
        rcases hways with ⟨hno, hap⟩ | ⟨x, y, z, hok, hg, hz, hap⟩ | ⟨x, y, z, hok, hg, hz, hap⟩
        · have hb : (P.toList == Q.toList) = false := eq7_no (fun e => hno (hPQ.1 e))
          have HNX := Lib.hid (foundTo_no (n := n) hil (by rw [hxy, Int.toNat_natCast, Int.toNat_natCast]; exact hap))
          have HONE := Lib.hid hone
          clear hno hap hPQ hxy hil HO HB
          go_wp2
          obtain ⟨w5, hw5⟩ : ∃ w9, wr.alloc (.cells #[.int .i64 (X : Int), .int .i64 (Y : Int)] 86) = w9 := ⟨_, rfl⟩
          obtain ⟨gt, hgt⟩ : ∃ g, wr.heap.size = g := ⟨_, rfl⟩
          rw [hw5] at ha S5 hbb HONE
          rw [hgt] at S5
          rw [hw5, hgt]
          have ha := Lib.hid ha
          clear hw5 hgt
          have k0 := S5.cell 0 _ rfl
          have k1 := S5.cell 1 _ rfl
          go_quiet (fail)
          go_wp2
          go_roundw
          case rel => exact ⟨i + 1, g, m, c, by omega, by go_num, rfl, Lib.hid (by rw [HNX.out]; exact HLEN.out), Lib.hid (by rw [HNX.out]; exact HONE.out.drewN _), Lib.hid (below_drewN' hbb.out _)⟩
          case measure => simp [intOf]; omega
        · obtain rfl : P = Q := hPQ.2 hok
          have cg := fun w => specGrow_any s t X Y x y z true w hg (by omega) (by omega)
          have HNX := Lib.hid (foundTo_yes (n := n) hil (by rw [hxy, Int.toNat_natCast, Int.toNat_natCast]; exact hap))
          have HONE := Lib.hid hone
          clear hok hap hPQ hxy hil HO HB hg
          go_wp2
          obtain ⟨w5, hw5⟩ : ∃ w9, wr.alloc (.cells #[.int .i64 (X : Int), .int .i64 (Y : Int)] 86) = w9 := ⟨_, rfl⟩
          obtain ⟨gt, hgt⟩ : ∃ g, wr.heap.size = g := ⟨_, rfl⟩
          rw [hw5] at ha S5 hbb HONE
          rw [hgt] at S5
          rw [hw5, hgt]
          have ha := Lib.hid ha
          clear hw5 hgt
          have k0 := S5.cell 0 _ rfl
          have k1 := S5.cell 1 _ rfl
          go_quiet (fail)
          have HONE := Lib.hid (HONE.out.drewN nq)
          have hbb := Lib.hid (below_drewN' hbb.out nq)
          have S6 := S5.drewN nq
          clear k0 k1 S5
          generalize w5.drewN nq = w6 at HONE hbb S6 ⊢
          have k0 := S6.cell 0 _ rfl
          have k1 := S6.cell 1 _ rfl
          clear S6
          go_wp2_with fail
          refine (cg _).mono ?_
          rintro e w7 ⟨rfl, b7⟩
          have hb7 := (Below.refl w7.heap.size w7).alloc (Nat.le_refl _) (.cells #[.int .i64 x, .int .i64 y, .int .i64 z] 88)
          have HONE := Lib.hid ((HONE.out.later b7).later hb7)
          have hbb := Lib.hid ((hbb.out.trans (b7.mono hbb.out.size)).trans (hb7.mono (Nat.le_trans hbb.out.size b7.size)))
          clear b7 hb7 k0 k1 cg
          obtain ⟨L, hL⟩ : ∃ L, rowE (foundTo s t (K : Int) n (T.take i)) = L := ⟨_, rfl⟩
          have HNX := Lib.hid (show putE (x, y, z) L = rowE (foundTo s t (K : Int) n (T.take (i + 1))) by rw [HNX.out, ← hL, putE_snoc])
          rw [hL] at HLEN HONE
          clear hL
          have cp := specPut7_any L x y z g m c w.heap.size w _ HLEN.out (by omega) HONE.out
          have hz2 : decide (n ≤ z) = true := decide_eq_true hz
          go_wp2_with fail
          refine cp.mono ?_
          rintro e w8 ⟨g8, n8, c8, rfl, hn8, o8, b8⟩
          have HN8 := Lib.hid hn8
          clear hn8 cp
          go_wp2
          go_roundw
          case rel => exact ⟨i + 1, g8, n8, c8, by omega, by go_num, rfl, Lib.hid (by rw [← HNX.out]; exact HN8.out), Lib.hid (by rw [← HNX.out]; exact o8), Lib.hid (hbb.out.trans (b8.mono hbb.out.size))⟩
          case measure => simp [intOf]; omega
        · obtain rfl : P = Q := hPQ.2 hok
          have cg := fun w => specGrow_any s t X Y x y z true w hg (by omega) (by omega)
          have HNX := Lib.hid (foundTo_no (n := n) hil (by rw [hxy, Int.toNat_natCast, Int.toNat_natCast]; exact hap))
          have HONE := Lib.hid hone
          clear hok hap hPQ hxy hil HO HB hg
          go_wp2
          obtain ⟨w5, hw5⟩ : ∃ w9, wr.alloc (.cells #[.int .i64 (X : Int), .int .i64 (Y : Int)] 86) = w9 := ⟨_, rfl⟩
          obtain ⟨gt, hgt⟩ : ∃ g, wr.heap.size = g := ⟨_, rfl⟩
          rw [hw5] at ha S5 hbb HONE
          rw [hgt] at S5
          rw [hw5, hgt]
          have ha := Lib.hid ha
          clear hw5 hgt
          have k0 := S5.cell 0 _ rfl
          have k1 := S5.cell 1 _ rfl
          go_quiet (fail)
          have HONE := Lib.hid (HONE.out.drewN nq)
          have hbb := Lib.hid (below_drewN' hbb.out nq)
          have S6 := S5.drewN nq
          clear k0 k1 S5
          generalize w5.drewN nq = w6 at HONE hbb S6 ⊢
          have k0 := S6.cell 0 _ rfl
          have k1 := S6.cell 1 _ rfl
          clear S6
          go_wp2_with fail
          refine (cg _).mono ?_
          rintro e w7 ⟨rfl, b7⟩
          have hb7 := (Below.refl w7.heap.size w7).alloc (Nat.le_refl _) (.cells #[.int .i64 x, .int .i64 y, .int .i64 z] 88)
          have HONE := Lib.hid ((HONE.out.later b7).later hb7)
          have hbb := Lib.hid ((hbb.out.trans (b7.mono hbb.out.size)).trans (hb7.mono (Nat.le_trans hbb.out.size b7.size)))
          clear b7 hb7 k0 k1 cg
          have hz2 : decide (n ≤ z) = false := decide_eq_false (by omega)
          go_wp2
          go_roundw
          case rel => exact ⟨i + 1, g, m, c, by omega, by go_num, rfl, Lib.hid (by rw [HNX.out]; exact HLEN.out), Lib.hid (by rw [HNX.out]; exact HONE.out), hbb⟩
          case measure => simp [intOf]; omega
      · have z1 : ¬ (i : Int) < (nT : Int) := by omega
        have HE := Lib.hid (show T.take i = T from List.take_of_length_le (by have := HNT.out; omega))
        go_wp2
        go_ret
        exact ⟨_, _, _, rfl, by rw [HR.out, HTE.out]; have h := HO.out; rw [HE.out] at h; exact h⟩

set_option maxRecDepth 4000 in
set_option maxHeartbeats 16000000 in
theorem specFalse_any (s t : ByteArray) (k v : Int) (w : World) (hs : s.size ≤ 1048576) (ht : t.size ≤ 1048576) (hv9 : v ≤ 9223372036854775807) :
    Calls Try.prog 37 #[.string s, .string t, .int .i64 k, .int .i64 v] w fun e w' => e = .returned (.int .i64 ((falseN s t k v : Nat) : Int)) ∧ Below w.heap.size w w' := by
  obtain ⟨A, hA⟩ : ∃ A, mkL s k v = A := ⟨_, rfl⟩
  obtain ⟨B, hB⟩ : ∃ A, mkL t k v = A := ⟨_, rfl⟩
  have HR := Lib.hid (show falseN s t k v = falseTo s t k (twinsL A B) by rw [falseN, hA, hB])
  have cA := fun w => specMarks_any s k v A w hA (by omega) hv9
  have cB := fun w => specMarks_any t k v B w hB (by omega) hv9
  have hAl : A.length ≤ 1048576 := by rw [← hA]; exact Nat.le_trans (mkL_len s k v) hs
  have hBl : B.length ≤ 1048576 := by rw [← hB]; exact Nat.le_trans (mkL_len t k v) ht
  have HA := Lib.hid hA
  have HB2 := Lib.hid hB
  clear hA hB
  go_enter Try.func37, Try.ntmps37
  go_wp2_with fail
  refine (cA _).mono ?_
  rintro e w1 ⟨aA, nA, dA, rfl, oA⟩
  go_wp2_with fail
  refine (cB _).mono ?_
  rintro e w2 ⟨aB, nB, dB, rfl, oB⟩
  have cT := specTwins_any A B aA nA dA aB nB dB w2 (pairs_len oA.own) (pairs_len oB.own) (by have := pairs_len oA.own; omega) (by have := pairs_len oB.own; omega) (oA.later oB.below).at_ oB.at_
  go_wp2_with fail
  refine cT.mono ?_
  rintro e w3 ⟨aT, nT, dT, rfl, oT⟩
  obtain ⟨T, hT⟩ : ∃ T, twinsL A B = T := ⟨_, rfl⟩
  rw [hT] at oT
  have HT := Lib.hid oT.at_
  have HNT := Lib.hid (pairs_len oT.own)
  have HTE := Lib.hid hT
  have hnT : nT ≤ 1099511627776 := by
    have h1 := pairs_len oT.own
    have h2 := twinsL_len A B 1048576 hBl
    have h3 : A.length * 1048576 ≤ 1048576 * 1048576 := Nat.mul_le_mul hAl (Nat.le_refl _)
    rw [hT] at h2
    omega
  have B3 := Lib.hid (show Below w.heap.size w w3 from (oA.below.trans (oB.below.mono oA.below.size)).trans (oT.below.mono (Nat.le_trans oA.below.size oB.below.size)))
  clear cA cB cT oA oB oT hT
  go_wp2
  go_loopw [9, 11] (fun u i_ wr => ∃ (i c : Nat), i ≤ nT ∧ c ≤ i ∧ i_ = .int .i64 (i : Int) ∧ u = .int .i64 (c : Int) ∧ Hid (c = falseTo s t k (T.take i)) ∧ Hid (Below w3.heap.size w3 wr)) (fun _ i_ _ => nT - (intOf i_).toNat)
  case atStart => exact ⟨0, 0, Nat.zero_le _, Nat.le_refl _, rfl, rfl, Lib.hid rfl, Lib.hid (Below.refl _ _)⟩
  case round =>
    obtain ⟨i, c, hi, hci, rfl, rfl, HC, HB⟩ := hrel
    by_cases hlt : i < nT
    · have hil : i < T.length := by have := HNT.out; omega
      have hmem : T[i] ∈ twinsL (mkL s k v) (mkL t k v) := by rw [HA.out, HB2.out, HTE.out]; exact List.getElem_mem hil
      obtain ⟨X, Y, K, rfl, hk1, hxy, hX, hY, _⟩ := twin_in hmem
      obtain ⟨b, o, rfl, hb9, hc⟩ := (HT.out.below HB.out).pair (fun e => by rw [e] at hil; simp at hil)
      obtain ⟨e1, e2⟩ := hc i hil
      rw [hxy] at e1 e2
      have z1 : (i : Int) < (nT : Int) := by omega
      have z0 : (0 : Int) ≤ (i : Int) := by omega
      obtain ⟨P, hP⟩ : ∃ P, s.extract X (X + K) = P := ⟨_, rfl⟩
      obtain ⟨Q, hQ⟩ : ∃ P, t.extract Y (Y + K) = P := ⟨_, rfl⟩
      have hPQ : P = Q ↔ K ≤ runP s t X Y := by rw [← hP, ← hQ]; exact extract_same hX hY
      have sl1 : ∀ w, (Instr.slice 9 (.string s) (some (.int .i64 (X : Int))) (some (.int .i64 ((X : Int) + (K : Int)))) none).run Try.prog w = .ok (.string P) w := fun w => by
        have h1 := run_slice_string (P := Try.prog) w 9 s .i64 .i64 (X : Int) ((X : Int) + (K : Int)) Try.uls7 (by omega) (by omega) (by omega)
        rwa [Int.toNat_natCast, show ((X : Int) + (K : Int)).toNat = X + K by omega, hP] at h1
      have sl2 : ∀ w, (Instr.slice 9 (.string t) (some (.int .i64 (Y : Int))) (some (.int .i64 ((Y : Int) + (K : Int)))) none).run Try.prog w = .ok (.string Q) w := fun w => by
        have h1 := run_slice_string (P := Try.prog) w 9 t .i64 .i64 (Y : Int) ((Y : Int) + (K : Int)) Try.uls7 (by omega) (by omega) (by omega)
        rwa [Int.toNat_natCast, show ((Y : Int) + (K : Int)).toNat = Y + K by omega, hQ] at h1
      have v1 : IntKind.i64.wrap ((X : Int) + (K : Int)) = (X : Int) + (K : Int) := IntWalk.i64_in _ (by omega)
      have v2 : IntKind.i64.wrap ((Y : Int) + (K : Int)) = (Y : Int) + (K : Int) := IntWalk.i64_in _ (by omega)
      have ha := (Below.refl wr.heap.size wr).alloc (Nat.le_refl _) (.cells #[.int .i64 (X : Int), .int .i64 (Y : Int)] 86)
      have S5 := Side.fresh (w := wr) (B := 0) (v := .slice none 0 0) 86 [.int .i64 (X : Int), .int .i64 (Y : Int)] (Nat.zero_le _) (by intro k hk; simp [Value.ownBlock] at hk)
      have hbb := Lib.hid (HB.out.trans (ha.mono HB.out.size))
      clear hP hQ hmem hc
      by_cases hok : K ≤ runP s t X Y
      · obtain rfl : P = Q := hPQ.2 hok
        have HNX := Lib.hid (falseTo_no (s := s) (t := t) (k := (K : Int)) hil (by rw [hxy]; simpa using hok))
        clear hok hPQ hxy hil HB
        go_wp2
        obtain ⟨w5, hw5⟩ : ∃ w9, wr.alloc (.cells #[.int .i64 (X : Int), .int .i64 (Y : Int)] 86) = w9 := ⟨_, rfl⟩
        obtain ⟨gt, hgt⟩ : ∃ g, wr.heap.size = g := ⟨_, rfl⟩
        rw [hw5] at ha S5 hbb
        rw [hgt] at S5
        rw [hw5, hgt]
        have ha := Lib.hid ha
        clear hw5 hgt
        have k0 := S5.cell 0 _ rfl
        have k1 := S5.cell 1 _ rfl
        go_quiet (fail)
        go_wp2
        go_roundw
        case rel => exact ⟨i + 1, c, by omega, by omega, by go_num, rfl, Lib.hid (by rw [HNX.out, ← HC.out]), Lib.hid (below_drewN' hbb.out _)⟩
        case measure => simp [intOf]; omega
      · have hb : (P.toList == Q.toList) = false := eq7_no (fun e => hok (hPQ.1 e))
        have HNX := Lib.hid (falseTo_yes (s := s) (t := t) (k := (K : Int)) hil (by rw [hxy]; simpa using hok))
        clear hok hPQ hxy hil HB
        go_wp2
        obtain ⟨w5, hw5⟩ : ∃ w9, wr.alloc (.cells #[.int .i64 (X : Int), .int .i64 (Y : Int)] 86) = w9 := ⟨_, rfl⟩
        obtain ⟨gt, hgt⟩ : ∃ g, wr.heap.size = g := ⟨_, rfl⟩
        rw [hw5] at ha S5 hbb
        rw [hgt] at S5
        rw [hw5, hgt]
        have ha := Lib.hid ha
        clear hw5 hgt
        have k0 := S5.cell 0 _ rfl
        have k1 := S5.cell 1 _ rfl
        go_quiet (fail)
        go_wp2
        go_roundw
        case rel => exact ⟨i + 1, c + 1, by omega, by omega, by go_num, by go_num, Lib.hid (by rw [HNX.out, ← HC.out]), Lib.hid (below_drewN' hbb.out _)⟩
        case measure => simp [intOf]; omega
    · have z1 : ¬ (i : Int) < (nT : Int) := by omega
      have HE := Lib.hid (show T.take i = T from List.take_of_length_le (by have := HNT.out; omega))
      go_wp2
      go_ret
      exact ⟨by rw [HR.out, HTE.out, HC.out, HE.out]; rfl, B3.out.trans (HB.out.mono B3.out.size)⟩

end Go.Proofs.Ytbnagmjhdnnheaa

namespace Go.Proofs.Ytbnagmjhdnnheaa
open Go.RowKit

set_option maxRecDepth 4000 in
set_option maxHeartbeats 8000000 in
theorem specPieces_any (s t : ByteArray) (n : Int) (R : List En) (w : World) (h : piecesT s t n = R) (hs : s.size ≤ 1048576) (ht : t.size ≤ 1048576) :
    Calls Try.prog 81 #[.string s, .string t, .int .i64 n] w fun e w' => ∃ g m c, e = .returned (.slice (some ⟨g, 0, none⟩) m c) ∧ One w w.heap.size w' 88 3 (some ⟨g, 0, none⟩) m c (entsC R) := by
  subst h
  by_cases hn : n < 1
  · have HE := Lib.hid (piecesT_bad (s := s) (t := t) hn)
    go_enter Try.func81, Try.ntmps81
    go_wp2
    go_ret
    exact ⟨_, _, _, rfl, by rw [HE.out]; exact One.empty w 88 3⟩
  · obtain ⟨N, rfl⟩ : ∃ N : Nat, n = N := ⟨n.toNat, by omega⟩
    have HR := Lib.hid (piecesT_nat (s := s) (t := t) (n := N) (by omega))
    go_enter Try.func81, Try.ntmps81
    go_wp2
    go_loopw [7, 8] (fun v i_ wr => ∃ (i g m c : Nat), i ≤ s.size ∧ i_ = .int .i64 (i : Int) ∧ v = .slice (some ⟨g, 0, none⟩) m c ∧ Hid (One w w.heap.size wr 88 3 (some ⟨g, 0, none⟩) m c (entsC (piecesN s t N i)))) (fun _ i_ _ => s.size - (intOf i_).toNat)
    case atStart => exact ⟨0, _, _, _, Nat.zero_le _, rfl, rfl, Lib.hid (One.empty w 88 3)⟩
    case round =>
      obtain ⟨i, g, m, c, hi, rfl, rfl, HO⟩ := hrel
      by_cases hlt : i < s.size
      · have z1 : (i : Int) < (s.size : Int) := by omega
        obtain ⟨wo, rfl⟩ : ∃ wo, wo = wr := ⟨_, rfl⟩
        go_wp2
        go_loopw [7, 9] (fun v j_ wr => ∃ (j g m c : Nat), j ≤ t.size ∧ j_ = .int .i64 (j : Int) ∧ v = .slice (some ⟨g, 0, none⟩) m c ∧ Hid (One w w.heap.size wr 88 3 (some ⟨g, 0, none⟩) m c (entsC (piecesN s t N i ++ rowP s t N i j)))) (fun _ j_ _ => t.size - (intOf j_).toNat)
        case atStart => exact ⟨0, g, m, c, Nat.zero_le _, rfl, rfl, Lib.hid (by rw [rowP_zero, List.append_nil]; exact HO.out)⟩
        case round =>
          obtain ⟨j, g, m, c, hj, rfl, rfl, HO⟩ := hrel
          by_cases hltj : j < t.size
          · have z2 : (j : Int) < (t.size : Int) := by omega
            have hm9 : m ≤ 1099511627776 := by rw [ents_len7 HO.out.own]; exact pieces_room N i j hs ht hlt hj
            rcases grow_ways s t N i j with ⟨hgr, hst⟩ | ⟨r, hgr, hst, hNr, hpc⟩ | ⟨r, hgr, hst, hNr⟩ | ⟨x, y, z, hgr, hst, hxi⟩
            · have cg := fun w => specGrow_any s t i j 0 0 0 false w hgr (by omega) (by omega)
              have HRW := Lib.hid (rowP_no (n := N) hst)
              clear hgr hst
              go_wp2_with fail
              refine (cg _).mono ?_
              rintro e w5 ⟨rfl, b5⟩
              have HO := Lib.hid ((HO.out.later b5).later ((Below.refl _ _).alloc (Nat.le_refl _) (.cells #[.int .i64 0, .int .i64 0, .int .i64 0] 88)))
              clear b5 cg
              go_wp2
              go_roundw
              case rel => exact ⟨j + 1, g, m, c, by omega, by go_num, rfl, Lib.hid (by rw [HRW.out]; exact HO.out)⟩
              case measure => simp [intOf]; omega
            · have cg := fun w => specGrow_any s t i j i j r true w hgr (by omega) (by omega)
              have HRW := Lib.hid (rowP_yes hst)
              have HPC := Lib.hid hpc
              have hNr2 : (N : Int) ≤ (r : Int) := by omega
              clear hgr hst hpc
              go_wp2_with fail
              refine (cg _).mono ?_
              rintro e w5 ⟨rfl, b5⟩
              have HO := Lib.hid ((HO.out.later b5).later ((Below.refl _ _).alloc (Nat.le_refl _) (.cells #[.int .i64 (i : Int), .int .i64 (j : Int), .int .i64 (r : Int)] 88)))
              clear b5 cg
              go_wp2_with (at_builtin; refine wpList_append_row rfl (.tmp 55) (.tmp 57) 46 rfl Try.ulP7 Try.infoP7 rfl (by decide) HO.out rfl #[.int .i64 (i : Int), .int .i64 (j : Int), .int .i64 (r : Int)] (by rw [alloc_size7]; rfl) rfl (by simp [Value.oneCell']) (by unfold maxLen; omega) (by omega) ?_; intro a6 c6 w6 o6)
              obtain ⟨g6, rfl⟩ := o6.addr (by omega)
              go_roundw
              case rel => exact ⟨j + 1, g6, m + 1, c6, by omega, by go_num, rfl, Lib.hid (by rw [HRW.out, HPC.out, ← List.append_assoc, entsC_snoc]; exact o6)⟩
              case measure => simp [intOf]; omega
            · have cg := fun w => specGrow_any s t i j i j r true w hgr (by omega) (by omega)
              have HRW := Lib.hid (rowP_no (n := N) hst)
              have hNr2 : (r : Int) < (N : Int) := by omega
              clear hgr hst
              go_wp2_with fail
              refine (cg _).mono ?_
              rintro e w5 ⟨rfl, b5⟩
              have HO := Lib.hid ((HO.out.later b5).later ((Below.refl _ _).alloc (Nat.le_refl _) (.cells #[.int .i64 (i : Int), .int .i64 (j : Int), .int .i64 (r : Int)] 88)))
              clear b5 cg
              go_wp2
              go_roundw
              case rel => exact ⟨j + 1, g, m, c, by omega, by go_num, rfl, Lib.hid (by rw [HRW.out]; exact HO.out)⟩
              case measure => simp [intOf]; omega
            · have cg := fun w => specGrow_any s t i j x y z true w hgr (by omega) (by omega)
              have HRW := Lib.hid (rowP_no (n := N) hst)
              have hx2 : ((x : Int) == (i : Int)) = false := beq_eq_false_iff_ne.2 (by omega)
              have hx3 : (x == i) = false := beq_eq_false_iff_ne.2 (by omega)
              clear hgr hst
              go_wp2_with fail
              refine (cg _).mono ?_
              rintro e w5 ⟨rfl, b5⟩
              have HO := Lib.hid ((HO.out.later b5).later ((Below.refl _ _).alloc (Nat.le_refl _) (.cells #[.int .i64 (x : Int), .int .i64 (y : Int), .int .i64 (z : Int)] 88)))
              clear b5 cg
              go_wp2
              go_roundw
              case rel => exact ⟨j + 1, g, m, c, by omega, by go_num, rfl, Lib.hid (by rw [HRW.out]; exact HO.out)⟩
              case measure => simp [intOf]; omega
          · obtain rfl : j = t.size := by omega
            have HO := Lib.hid (show One w w.heap.size wr 88 3 (some ⟨g, 0, none⟩) m c (entsC (piecesN s t N (i + 1))) by rw [piecesN_next]; exact HO.out)
            go_wp2
            go_roundw
            case rel => exact ⟨i + 1, g, m, c, by omega, by go_num, rfl, HO⟩
            case measure => simp [intOf]; omega
      · obtain rfl : i = s.size := by omega
        go_wp2
        go_ret
        exact ⟨_, _, _, rfl, by rw [HR.out]; exact HO.out⟩

end Go.Proofs.Ytbnagmjhdnnheaa

namespace Go.Proofs.Ytbnagmjhdnnheaa
open Go.RowKit

theorem Try.ulE5 : Try.prog.underlying 24 = some (.slice 68) := by kernel_rfl
theorem Try.infoE5 : (Try.prog.info? 68).map (fun i => (i.zero, i.size, i.bytes)) = some (some (.agg #[.int .i64 0, .int .i64 0, .int .i64 0]), 3, 24) := by kernel_rfl

theorem enLt_iff (a b c d e f : Int) : enLt (a, b, c) (d, e, f) ↔ a < d ∨ a = d ∧ (b < e ∨ b = e ∧ c < f) := Iff.rfl

theorem specLess_any (a b c d e f : Int) (w : World) :
    Calls Try.prog 83 #[.agg #[.int .i64 a, .int .i64 b, .int .i64 c], .agg #[.int .i64 d, .int .i64 e, .int .i64 f]] w fun r w' => r = .returned (.bool (decide (enLt (a, b, c) (d, e, f)))) ∧ Below w.heap.size w w' := by
  by_cases h1 : a = d
  · subst h1
    have t1 : (a == a) = true := beq_self_eq_true _
    have t1' : (a != a) = false := by rw [bne, t1]; rfl
    by_cases h2 : b = e
    · subst h2
      have t2 : (b == b) = true := beq_self_eq_true _
      have t2' : (b != b) = false := by rw [bne, t2]; rfl
      have HD := Lib.hid (show decide (enLt (a, b, c) (a, b, f)) = decide (c < f) from decide_eq_decide.2 (by rw [enLt_iff]; constructor <;> omega))
      go_enter Try.func83, Try.ntmps83
      go_wp2
      go_ret
      exact ⟨by rw [HD.out]; rfl, below_alloc2 _ _ _⟩
    · have t2 : (b == e) = false := by simpa using h2
      have t2' : (b != e) = true := by rw [bne, t2]; rfl
      have HD := Lib.hid (show decide (enLt (a, b, c) (a, e, f)) = decide (b < e) from decide_eq_decide.2 (by rw [enLt_iff]; constructor <;> omega))
      clear h2
      go_enter Try.func83, Try.ntmps83
      go_wp2
      go_ret
      exact ⟨by rw [HD.out]; rfl, below_alloc2 _ _ _⟩
  · have t1 : (a == d) = false := by simpa using h1
    have t1' : (a != d) = true := by rw [bne, t1]; rfl
    have HD := Lib.hid (show decide (enLt (a, b, c) (d, e, f)) = decide (a < d) from decide_eq_decide.2 (by rw [enLt_iff]; constructor <;> omega))
    clear h1
    go_enter Try.func83, Try.ntmps83
    go_wp2
    go_ret
    exact ⟨by rw [HD.out]; rfl, below_alloc2 _ _ _⟩
theorem specLess_is (r : Bool) (a b c d e f : Int) (w : World) (h : r = true ↔ enLt (a, b, c) (d, e, f)) :
    Calls Try.prog 83 #[.agg #[.int .i64 a, .int .i64 b, .int .i64 c], .agg #[.int .i64 d, .int .i64 e, .int .i64 f]] w fun x w' => x = .returned (.bool r) ∧ Below w.heap.size w w' := by
  have e1 : decide (enLt (a, b, c) (d, e, f)) = r := by rw [Bool.eq_iff_iff, decide_eq_true_iff]; exact h.symm
  rw [← e1]
  exact specLess_any a b c d e f w

theorem below_ents {w wr : World} {B : Nat} (h : Below B w wr) {b o : Nat} (hb : b < B) {v : Value} (k : w.cell? ⟨b, o, none⟩ = some v) : wr.cell? ⟨b, o, none⟩ = some v := (h.cell (p := ⟨b, o, none⟩) hb).trans k

set_option maxHeartbeats 4000000 in
theorem specShelfOk_is (r : Bool) (l : List En) (a : Option Addr) (n c : Nat) (w : World) (hr : r = true ↔ shOk l) (hn : n = l.length) (hl : n ≤ 4194304) (hat : CellsAt w a (entsC l)) :
    Calls Try.prog 52 #[.slice a n c] w fun e w' => e = .returned (.bool r) ∧ Below w.heap.size w w' := by
  have HN := Lib.hid hn
  have HRr := Lib.hid hr
  have HAT := Lib.hid hat
  clear hn hr hat
  go_enter Try.func52, Try.ntmps52
  go_wp2
  go_loopw [3] (fun i_ wr => ∃ k : Nat, k ≤ n ∧ i_ = .int .i64 k ∧ Hid (okTo l k) ∧ Below w.heap.size w wr) (fun i_ _ => n - (intOf i_).toNat)
  case atStart => exact ⟨0, Nat.zero_le _, rfl, Lib.hid (okTo_zero l), Below.refl _ _⟩
  case round =>
    obtain ⟨k, hk, rfl, HK, B⟩ := hrel
    by_cases hlt : k < n
    · have hkl : k < l.length := by have := HN.out; omega
      obtain ⟨x, hx⟩ : ∃ x, l[k].1 = x := ⟨_, rfl⟩
      obtain ⟨y, hy⟩ : ∃ y, l[k].2.1 = y := ⟨_, rfl⟩
      obtain ⟨z, hz⟩ : ∃ z, l[k].2.2 = z := ⟨_, rfl⟩
      have hm : l[k] = (x, y, z) := by rw [← hx, ← hy, ← hz]
      obtain ⟨b, o, rfl, hb9, g1, g2, g3⟩ := ent_cells (HAT.out.below B) hkl hm
      have HM := Lib.hid hm
      have z1 : (k : Int) < (n : Int) := by omega
      clear hx hy hz hm
      have hbad : (¬ (enOk (x, y, z) ∧ (0 < k → enLt (l[k - 1]'(by omega)) (x, y, z)))) → r = false := fun h => by
        rw [Bool.eq_false_iff]
        intro e
        refine shOk_not hkl (fun h2 => h ?_) (HRr.out.1 e)
        rw [HM.out] at h2
        exact h2
      by_cases hx0 : x < 0
      · have t1 : decide (x < 0) = true := decide_eq_true hx0
        have hf : r = false := hbad (fun h => by have h1 : 0 ≤ x ∧ x < 1000003 ∧ 0 ≤ y ∧ 0 ≤ z := h.1; omega)
        subst hf
        go_wp2
        go_quiet (fail)
        go_wp2
        go_ret
        exact ⟨rfl, below_drewN' (B.alloc B.size _) _⟩
      have t1 : decide (x < 0) = false := decide_eq_false hx0
      by_cases hx1 : 1000003 ≤ x
      · have t2 : decide (1000003 ≤ x) = true := decide_eq_true hx1
        have hf : r = false := hbad (fun h => by have h1 : 0 ≤ x ∧ x < 1000003 ∧ 0 ≤ y ∧ 0 ≤ z := h.1; omega)
        subst hf
        go_wp2
        go_quiet (fail)
        go_wp2
        go_ret
        exact ⟨rfl, below_drewN' (B.alloc B.size _) _⟩
      have t2 : decide (1000003 ≤ x) = false := decide_eq_false hx1
      by_cases hy0 : y < 0
      · have t3 : decide (y < 0) = true := decide_eq_true hy0
        have hf : r = false := hbad (fun h => by have h1 : 0 ≤ x ∧ x < 1000003 ∧ 0 ≤ y ∧ 0 ≤ z := h.1; omega)
        subst hf
        go_wp2
        go_quiet (fail)
        go_wp2
        go_ret
        exact ⟨rfl, below_drewN' (B.alloc B.size _) _⟩
      have t3 : decide (y < 0) = false := decide_eq_false hy0
      by_cases hz0 : z < 0
      · have t4 : decide (z < 0) = true := decide_eq_true hz0
        have hf : r = false := hbad (fun h => by have h1 : 0 ≤ x ∧ x < 1000003 ∧ 0 ≤ y ∧ 0 ≤ z := h.1; omega)
        subst hf
        go_wp2
        go_quiet (fail)
        go_wp2
        go_ret
        exact ⟨rfl, below_drewN' (B.alloc B.size _) _⟩
      have t4 : decide (z < 0) = false := decide_eq_false hz0
      have hok : enOk (x, y, z) := ⟨by show 0 ≤ x; omega, by show x < 1000003; omega, by show 0 ≤ y; omega, by show 0 ≤ z; omega⟩
      by_cases hk0 : k = 0
      · have HN2 := Lib.hid (okTo_next HK.out hkl (by rw [HM.out]; exact hok) (fun h => absurd h (by omega)))
        have t0 : decide ((0 : Int) < (k : Int)) = false := decide_eq_false (by omega)
        have t0' : decide (0 < k) = false := decide_eq_false (by omega)
        clear hbad hx0 hx1 hy0 hz0 hok hk0
        go_wp2
        go_quiet (fail)
        go_wp2
        go_roundw
        case rel => exact ⟨k + 1, by omega, by go_num, HN2, below_drewN' (B.alloc B.size _) _⟩
        case measure => simp [intOf]; omega
      · obtain ⟨p, rfl⟩ : ∃ p, k = p + 1 := ⟨k - 1, by omega⟩
        have hpl : p < l.length := by omega
        obtain ⟨x', hx'⟩ : ∃ x', l[p].1 = x' := ⟨_, rfl⟩
        obtain ⟨y', hy'⟩ : ∃ y', l[p].2.1 = y' := ⟨_, rfl⟩
        obtain ⟨z', hz'⟩ : ∃ z', l[p].2.2 = z' := ⟨_, rfl⟩
        have hmp : l[p] = (x', y', z') := by rw [← hx', ← hy', ← hz']
        have hlp : l[p + 1 - 1]'(by omega) = (x', y', z') := hmp
        obtain ⟨b', o', hbo, _, g4, g5, g6⟩ := ent_cells (HAT.out.below B) hpl hmp
        obtain ⟨rfl, rfl⟩ := (by simpa using hbo : b = b' ∧ o = o')
        have e1 : IntKind.i64.wrap ((p : Int) + 1 - 1) = (p : Int) := by rw [IntWalk.i64_in _ (by omega)]; omega
        have e2 : IntKind.i64.wrap (p : Int) = (p : Int) := IntWalk.i64_in _ (by omega)
        have e3 : IntKind.i64.wrap (((p + 1 : Nat) : Int) - 1) = (p : Int) := by rw [IntWalk.i64_in _ (by omega)]; omega
        have y5 : (0 : Int) ≤ (p : Int) := by omega
        have y6 : (p : Int) < (n : Int) := by omega
        have y7 : (0 : Int) < (p : Int) + 1 := by omega
        have y8 : (p : Int) + 1 < (n : Int) := by omega
        rw [hlp] at hbad
        have HKS := Lib.hid (show ∀ w', Below (wr.heap.size + 1) (wr.alloc (.cells #[.int .i64 x, .int .i64 y, .int .i64 z] 68)) w' → w'.cell? ⟨b, o + p * 3, none⟩ = some (.int .i64 x') ∧ w'.cell? ⟨b, o + p * 3 + 1, none⟩ = some (.int .i64 y') ∧ w'.cell? ⟨b, o + p * 3 + 2, none⟩ = some (.int .i64 z') ∧ w'.cell? ⟨wr.heap.size, 0, none⟩ = some (.int .i64 x) ∧ w'.cell? ⟨wr.heap.size, 1, none⟩ = some (.int .i64 y) ∧ w'.cell? ⟨wr.heap.size, 2, none⟩ = some (.int .i64 z) from fun w' h => by
          have hB1 := (Below.refl wr.heap.size wr).alloc (Nat.le_refl _) (.cells #[.int .i64 x, .int .i64 y, .int .i64 z] 68)
          have hB2 := hB1.trans (h.mono (Nat.le_succ _))
          have hw : wr.heap.size < wr.heap.size + 1 := Nat.lt_succ_self _
          refine ⟨below_ents hB2 hb9 g4, below_ents hB2 hb9 g5, below_ents hB2 hb9 g6, below_ents h hw ?_, below_ents h hw ?_, below_ents h hw ?_⟩
          · exact cell_of_row _ wr.heap.size 0 _ _ (0, 0) (heap_alloc_new wr _)
          · exact cell_of_row _ wr.heap.size 1 _ _ (0, 0) (heap_alloc_new wr _)
          · exact cell_of_row _ wr.heap.size 2 _ _ (0, 0) (heap_alloc_new wr _))
        have HBW := Lib.hid (show ∀ w', Below (wr.heap.size + 1) (wr.alloc (.cells #[.int .i64 x, .int .i64 y, .int .i64 z] 68)) w' → Below w.heap.size w w' from fun w' h => (B.alloc B.size _).trans (h.mono (Nat.le_trans B.size (Nat.le_succ _))))
        by_cases hless : enLt (x', y', z') (x, y, z)
        · have HN2 := Lib.hid (okTo_next HK.out hkl (by rw [HM.out]; exact hok) (fun h => by rw [hlp, HM.out]; exact hless))
          have c1 := fun w => specLess_is true x' y' z' x y z w ⟨fun _ => hless, fun _ => rfl⟩
          clear hbad hx0 hx1 hy0 hz0 hok hk0 hx' hy' hz' hmp hlp hbo hless
          go_wp2
          go_region_held3 (fun w' => w'.cell? ⟨b, o + p * 3, none⟩ = some (.int .i64 x') ∧ w'.cell? ⟨b, o + p * 3 + 1, none⟩ = some (.int .i64 y') ∧ w'.cell? ⟨b, o + p * 3 + 2, none⟩ = some (.int .i64 z') ∧ w'.cell? ⟨wr.heap.size, 0, none⟩ = some (.int .i64 x) ∧ w'.cell? ⟨wr.heap.size, 1, none⟩ = some (.int .i64 y) ∧ w'.cell? ⟨wr.heap.size, 2, none⟩ = some (.int .i64 z)) (first | go_keep | exact HKS.out _ (Below.trans (by repeat (first | exact Below.refl _ _ | refine Below.drew ?_ | refine below_drewN' ?_ _)) (hb5.mono (by simp))))
            ((go_at_call 83; refine (c1 _).mono ?_; rintro e w5 ⟨rfl, hb5⟩))
          go_wp2
          go_roundw
          case rel => exact ⟨p + 1 + 1, by omega, by go_num, HN2, HBW.out _ (Below.trans (by repeat (first | exact Below.refl _ _ | refine Below.drew ?_ | refine below_drewN' ?_ _)) (hb5.mono (by simp)))⟩
          case measure => simp [intOf]; omega
        · have hf : r = false := hbad (fun h => hless (h.2 (by omega)))
          subst hf
          have c1 := fun w => specLess_is false x' y' z' x y z w ⟨(fun h => absurd h (by decide)), (fun h => absurd h hless)⟩
          clear hbad hx0 hx1 hy0 hz0 hok hk0 hx' hy' hz' hmp hlp hbo hless
          go_wp2
          go_region_held3 (fun w' => w'.cell? ⟨b, o + p * 3, none⟩ = some (.int .i64 x') ∧ w'.cell? ⟨b, o + p * 3 + 1, none⟩ = some (.int .i64 y') ∧ w'.cell? ⟨b, o + p * 3 + 2, none⟩ = some (.int .i64 z') ∧ w'.cell? ⟨wr.heap.size, 0, none⟩ = some (.int .i64 x) ∧ w'.cell? ⟨wr.heap.size, 1, none⟩ = some (.int .i64 y) ∧ w'.cell? ⟨wr.heap.size, 2, none⟩ = some (.int .i64 z)) (first | go_keep | exact HKS.out _ (Below.trans (by repeat (first | exact Below.refl _ _ | refine Below.drew ?_ | refine below_drewN' ?_ _)) (hb5.mono (by simp))))
            ((go_at_call 83; refine (c1 _).mono ?_; rintro e w5 ⟨rfl, hb5⟩))
          go_wp2
          go_ret
          exact ⟨rfl, HBW.out _ (Below.trans (by repeat (first | exact Below.refl _ _ | refine Below.drew ?_ | refine below_drewN' ?_ _)) (hb5.mono (by simp)))⟩
    · have ht : r = true := HRr.out.2 (shOk_of (by have h := HK.out; rwa [show k = l.length by have := HN.out; omega] at h))
      subst ht
      go_wp2
      go_ret
      exact ⟨rfl, B⟩

end Go.Proofs.Ytbnagmjhdnnheaa

namespace Go.Proofs.Ytbnagmjhdnnheaa
open Go.RowKit

open Classical in
/-- A shelf without the entries of a text, and its entries with a fingerprint. -/
noncomputable def loseL (l : List En) (d : Int) : List En := if shOk l then l.filter (fun x => !(x.2.1 == d)) else []
open Classical in
noncomputable def findL5 (l : List En) (p : Int) : List En := if shOk l then l.filter (fun x => x.1 == p) else []

theorem loseL_not {l : List En} (h : ¬ shOk l) (d : Int) : loseL l d = [] := by rw [loseL, if_neg h]
theorem loseL_ok {l : List En} (h : shOk l) (d : Int) : loseL l d = l.filter (fun x => !(x.2.1 == d)) := by rw [loseL, if_pos h]
theorem findL5_not {l : List En} (h : ¬ shOk l) (p : Int) : findL5 l p = [] := by rw [findL5, if_neg h]
theorem findL5_ok {l : List En} (h : shOk l) (p : Int) : findL5 l p = l.filter (fun x => x.1 == p) := by rw [findL5, if_pos h]

theorem filter_yes {P : En → Bool} {l : List En} {k : Nat} (hk : k < l.length) (h : P l[k] = true) : (l.take (k + 1)).filter P = (l.take k).filter P ++ [l[k]] := by
  rw [List.take_succ_eq_append_getElem hk, List.filter_append]; simp [h]
theorem filter_no {P : En → Bool} {l : List En} {k : Nat} (hk : k < l.length) (h : P l[k] = false) : (l.take (k + 1)).filter P = (l.take k).filter P := by
  rw [List.take_succ_eq_append_getElem hk, List.filter_append]; simp [h]
theorem filter_run {P : En → Bool} {l : List En} {s e : Nat} (hse : s ≤ e) (he : e ≤ l.length) (h1 : ∀ i (h : i < l.length), i < s → P l[i] = false) (h2 : ∀ i (h : i < l.length), s ≤ i → i < e → P l[i] = true) (h3 : ∀ i (h : i < l.length), e ≤ i → P l[i] = false) :
    l.filter P = (l.drop s).take (e - s) := by
  have e1 : l = l.take s ++ ((l.drop s).take (e - s) ++ l.drop e) := by
    have h4 : (l.drop s).drop (e - s) = l.drop e := by rw [List.drop_drop]; congr 1; omega
    rw [← h4, List.take_append_drop, List.take_append_drop]
  have f1 : (l.take s).filter P = [] := by
    rw [List.filter_eq_nil_iff]
    intro x hx
    obtain ⟨i, hi, rfl⟩ := List.getElem_of_mem hx
    rw [List.length_take] at hi
    rw [List.getElem_take, h1 i (by omega) (by omega)]
    decide
  have f2 : ((l.drop s).take (e - s)).filter P = (l.drop s).take (e - s) := by
    rw [List.filter_eq_self]
    intro x hx
    obtain ⟨i, hi, rfl⟩ := List.getElem_of_mem hx
    rw [List.length_take, List.length_drop] at hi
    rw [List.getElem_take, List.getElem_drop]
    exact h2 (s + i) (by omega) (by omega) (by omega)
  have f3 : (l.drop e).filter P = [] := by
    rw [List.filter_eq_nil_iff]
    intro x hx
    obtain ⟨i, hi, rfl⟩ := List.getElem_of_mem hx
    rw [List.length_drop] at hi
    rw [List.getElem_drop, h3 (e + i) (by omega) (by omega)]
    decide
  have : (l.take s ++ ((l.drop s).take (e - s) ++ l.drop e)).filter P = (l.drop s).take (e - s) := by
    rw [List.filter_append, List.filter_append, f1, f2, f3]; simp
  rw [← e1] at this
  exact this
theorem shOk_prints {l : List En} (h : shOk l) (i j : Nat) (hij : i ≤ j) (hj : j < l.length) : (l[i]'(by omega)).1 ≤ l[j].1 := by
  by_cases e : i = j
  · subst e; exact Int.le_refl _
  · have h1 := List.pairwise_iff_getElem.1 h.2 i j (by omega) hj (by omega)
    unfold enLt at h1
    omega


set_option maxHeartbeats 4000000 in
theorem specFind5_any (l : List En) (p : Int) (a : Option Addr) (n c : Nat) (w : World) (hn : n = l.length) (hl : n ≤ 4194304) (hnc : n ≤ c) (_hc9 : c ≤ maxLen) (hat : CellsAt w a (entsC l)) :
    Calls Try.prog 12 #[.slice a n c, .int .i64 p] w fun e w' => ∃ a' n' c', e = .returned (.slice a' n' c') ∧ One w w.heap.size w' 68 3 a' n' c' (entsC (findL5 l p)) := by
  by_cases hok : shOk l
  · have c1 := fun w h => specShelfOk_is true l a n c w ⟨fun _ => hok, fun _ => rfl⟩ hn hl h
    have HR := Lib.hid (findL5_ok hok p)
    have HS := Lib.hid (shOk_prints hok)
    have HN := Lib.hid hn
    have HAT := Lib.hid hat
    clear hn hok hat
    go_enter Try.func12, Try.ntmps12
    go_wp2_with fail
    refine (c1 _ HAT.out).mono ?_
    rintro e w2 ⟨rfl, hb2⟩
    have HAT2 := Lib.hid (HAT.out.below hb2)
    clear c1 HAT
    go_wp2
    go_loopw [5, 6] (fun lo_ hi_ wr => ∃ lo hi : Nat, lo ≤ hi ∧ hi ≤ n ∧ lo_ = .int .i64 lo ∧ hi_ = .int .i64 hi ∧ Hid (∀ i (h : i < l.length), i < lo → l[i].1 < p) ∧ Hid (∀ i (h : i < l.length), hi ≤ i → p ≤ l[i].1) ∧ Hid (wr = w2)) (fun lo_ hi_ _ => (intOf hi_).toNat - (intOf lo_).toNat)
    case atStart => exact ⟨0, n, Nat.zero_le _, Nat.le_refl _, rfl, rfl, Lib.hid (fun i h h2 => absurd h2 (Nat.not_lt_zero _)), Lib.hid (fun i h h2 => by have := HN.out; omega), Lib.hid rfl⟩
    case round =>
      obtain ⟨lo, hi, hlh, hhn, rfl, rfl, HLo, HHi, HW⟩ := hrel
      by_cases hlt : lo < hi
      · obtain ⟨m, hm⟩ : ∃ m, (lo + hi) / 2 = m := ⟨_, rfl⟩
        have em : ((lo : Int) + (hi : Int)).tdiv 2 = (m : Int) := by
          have h := Int.ofNat_tdiv (lo + hi) 2
          rw [hm] at h
          rw [h]; simp
        have em2 : ((lo + hi : Nat) : Int).tdiv 2 = (m : Int) := by rw [← em]; simp
        have hm1 : lo ≤ m := by omega
        have hm2 : m < hi := by omega
        have hml : m < l.length := by have := HN.out; omega
        obtain ⟨x, hx⟩ : ∃ x, l[m].1 = x := ⟨_, rfl⟩
        obtain ⟨y, hy⟩ : ∃ y, l[m].2.1 = y := ⟨_, rfl⟩
        obtain ⟨z, hz⟩ : ∃ z, l[m].2.2 = z := ⟨_, rfl⟩
        have hmm : l[m] = (x, y, z) := by rw [← hx, ← hy, ← hz]
        obtain ⟨b, o, rfl, hb9, g1, g2, g3⟩ := ent_cells HAT2.out hml hmm
        obtain rfl := HW.out
        have z0 : (0 : Int) ≤ (m : Int) := by omega
        have z1 : (m : Int) < (n : Int) := by omega
        have HX := Lib.hid hx
        clear hm hx hy hz hmm
        by_cases hxp : x < p
        · have HL2 := Lib.hid (show ∀ i (h : i < l.length), i < m + 1 → l[i].1 < p from fun i h h2 => by
            have h3 := HS.out i m (by omega) hml
            have := HX.out
            omega)
          clear HLo
          go_wp2
          go_roundw
          case rel => exact ⟨m + 1, hi, by omega, hhn, by go_num, rfl, HL2, HHi, Lib.hid (by trivial)⟩
          case measure => simp [intOf]; omega
        · have HH2 := Lib.hid (show ∀ i (h : i < l.length), m ≤ i → p ≤ l[i].1 from fun i h h2 => by
            have h3 := HS.out m i h2 h
            have := HX.out
            omega)
          clear HHi
          go_wp2
          go_roundw
          case rel => exact ⟨lo, m, hm1, by omega, rfl, rfl, HLo, HH2, Lib.hid (by trivial)⟩
          case measure => simp [intOf]; omega
      · obtain rfl : lo = hi := by omega
        go_wp2
        go_loopw [8] (fun e_ wr => ∃ e : Nat, lo ≤ e ∧ e ≤ n ∧ e_ = .int .i64 e ∧ Hid (∀ i (h : i < l.length), lo ≤ i → i < e → l[i].1 = p) ∧ Hid (wr = w2)) (fun e_ _ => n - (intOf e_).toNat)
        case atStart => exact ⟨lo, Nat.le_refl _, hhn, rfl, Lib.hid (fun i h h1 h2 => by omega), HW⟩
        case round =>
          obtain ⟨e, hle, hen, rfl, HE, HW2⟩ := hrel
          obtain rfl := HW2.out
          by_cases hlt2 : e < n
          · have hel : e < l.length := by have := HN.out; omega
            obtain ⟨x, hx⟩ : ∃ x, l[e].1 = x := ⟨_, rfl⟩
            obtain ⟨y, hy⟩ : ∃ y, l[e].2.1 = y := ⟨_, rfl⟩
            obtain ⟨z, hz⟩ : ∃ z, l[e].2.2 = z := ⟨_, rfl⟩
            have hmm : l[e] = (x, y, z) := by rw [← hx, ← hy, ← hz]
            obtain ⟨b, o, rfl, hb9, g1, g2, g3⟩ := ent_cells HAT2.out hel hmm
            have z0 : (0 : Int) ≤ (e : Int) := by omega
            have z1 : (e : Int) < (n : Int) := by omega
            have HX := Lib.hid hx
            clear hx hy hz hmm
            by_cases hxp : x = p
            · have t1 : (x == p) = true := by rw [hxp]; exact beq_self_eq_true _
              have HE2 := Lib.hid (show ∀ i (h : i < l.length), lo ≤ i → i < e + 1 → l[i].1 = p from fun i h h1 h2 => by
                by_cases h3 : i = e
                · subst h3; exact HX.out.trans hxp
                · exact HE.out i h h1 (by omega))
              clear hxp HE
              go_wp2
              go_roundw
              case rel => exact ⟨e + 1, by omega, by omega, by go_num, HE2, Lib.hid (by trivial)⟩
              case measure => simp [intOf]; omega
            · have t1 : (x == p) = false := by simpa using hxp
              have hcl : ¬ c = lo := by omega
              have HF := Lib.hid (show l.filter (fun x => x.1 == p) = (l.drop lo).take (e - lo) from filter_run hle (by omega)
                (fun i h h1 => by have := HLo.out i h h1; simp; omega) (fun i h h1 h2 => by have := HE.out i h h1 h2; simpa using this)
                (fun i h h1 => by
                  have h2 := HS.out e i h1 h
                  have h3 := HX.out
                  have h4 := HHi.out e hel hle
                  simp; omega))
              have HM1 := Lib.hid (show (entsC ((l.drop lo).take (e - lo))).length = (e - lo) * 3 by rw [entsC_len, List.length_take, List.length_drop, Nat.min_eq_left (by have := HN.out; omega)])
              have HC1 := Lib.hid (show CellsAt (wr.alloc (.cells #[] 68)) (some ⟨b, o + lo * 3, none⟩) (entsC ((l.drop lo).take (e - lo))) by
                have h := ((HAT2.out.allocW (.cells #[] 68)).from_lit (lo * 3)).upTo ((e - lo) * 3)
                rwa [entsC_drop, entsC_take] at h)
              clear hxp
              go_wp2_with (at_builtin; refine wpList_append_src rfl (.tmp 48) (.tmp 52) 24 rfl Try.ulE5 Try.infoE5 rfl (by decide) (One.empty wr 68 3) rfl _ _ _ rfl (entsC ((l.drop lo).take (e - lo))) HM1.out HC1.out (entsC_one _) (by unfold maxLen; omega) (by omega) ?_; intro a5 c5 w5 h5)
              go_ret
              exact ⟨_, _, _, rfl, by rw [HR.out, HF.out]; have h := h5.under hb2 hb2.size; rwa [Nat.zero_add, List.nil_append] at h⟩
          · obtain rfl : e = n := by omega
            by_cases hle2 : lo = e
            · have HF := Lib.hid (show l.filter (fun x => x.1 == p) = [] by
                rw [List.filter_eq_nil_iff]
                intro x hx
                obtain ⟨i, hi, rfl⟩ := List.getElem_of_mem hx
                have := HLo.out i hi (by have := HN.out; omega)
                simp; omega)
              subst hle2
              by_cases hcl : c = lo
              · subst hcl
                go_wp2_with (at_builtin; refine wpList_append_src rfl (.tmp 48) (.tmp 52) 24 rfl Try.ulE5 Try.infoE5 rfl (by decide) (One.empty wr 68 3) rfl _ _ _ rfl [] (by simp) (cellsAt_nil _ _) (by simp) (by unfold maxLen; omega) (by omega) ?_; intro a5 c5 w5 h5)
                go_ret
                exact ⟨_, _, _, rfl, by rw [HR.out, HF.out]; have h := h5.under hb2 hb2.size; first | exact h | (simp at h; exact h)⟩
              · cases a with
                | none =>
                  go_wp2_with (at_builtin; refine wpList_append_src rfl (.tmp 48) (.tmp 52) 24 rfl Try.ulE5 Try.infoE5 rfl (by decide) (One.empty wr 68 3) rfl _ _ _ rfl [] (by simp) (cellsAt_nil _ _) (by simp) (by unfold maxLen; omega) (by omega) ?_; intro a5 c5 w5 h5)
                  go_ret
                  exact ⟨_, _, _, rfl, by rw [HR.out, HF.out]; have h := h5.under hb2 hb2.size; first | exact h | (simp at h; exact h)⟩
                | some ad =>
                  go_wp2_with (at_builtin; refine wpList_append_src rfl (.tmp 48) (.tmp 52) 24 rfl Try.ulE5 Try.infoE5 rfl (by decide) (One.empty wr 68 3) rfl _ _ _ rfl [] (by simp) (cellsAt_nil _ _) (by simp) (by unfold maxLen; omega) (by omega) ?_; intro a5 c5 w5 h5)
                  go_ret
                  exact ⟨_, _, _, rfl, by rw [HR.out, HF.out]; have h := h5.under hb2 hb2.size; first | exact h | (simp at h; exact h)⟩
            · have hcl : ¬ c = lo := by omega
              have hel : lo < l.length := by have := HN.out; omega
              have HF := Lib.hid (show l.filter (fun x => x.1 == p) = (l.drop lo).take (e - lo) from filter_run hle (by have := HN.out; omega)
                (fun i h h1 => by have := HLo.out i h h1; simp; omega) (fun i h h1 h2 => by have := HE.out i h h1 h2; simpa using this)
                (fun i h h1 => by have := HN.out; omega))
              obtain ⟨b, o, rfl, -, -, -, -⟩ := ent_cells HAT2.out hel rfl
              have HM1 := Lib.hid (show (entsC ((l.drop lo).take (e - lo))).length = (e - lo) * 3 by rw [entsC_len, List.length_take, List.length_drop, Nat.min_eq_left (by have := HN.out; omega)])
              have HC1 := Lib.hid (show CellsAt (wr.alloc (.cells #[] 68)) (some ⟨b, o + lo * 3, none⟩) (entsC ((l.drop lo).take (e - lo))) by
                have h := ((HAT2.out.allocW (.cells #[] 68)).from_lit (lo * 3)).upTo ((e - lo) * 3)
                rwa [entsC_drop, entsC_take] at h)
              clear hle2 hel
              go_wp2_with (at_builtin; refine wpList_append_src rfl (.tmp 48) (.tmp 52) 24 rfl Try.ulE5 Try.infoE5 rfl (by decide) (One.empty wr 68 3) rfl _ _ _ rfl (entsC ((l.drop lo).take (e - lo))) HM1.out HC1.out (entsC_one _) (by unfold maxLen; omega) (by omega) ?_; intro a5 c5 w5 h5)
              go_ret
              exact ⟨_, _, _, rfl, by rw [HR.out, HF.out]; have h := h5.under hb2 hb2.size; rwa [Nat.zero_add, List.nil_append] at h⟩
  · have c1 := fun w h => specShelfOk_is false l a n c w ⟨(fun h => absurd h (by decide)), (fun h => absurd h hok)⟩ hn hl h
    rw [findL5_not hok]
    have HAT := Lib.hid hat
    clear hn hok hat
    go_enter Try.func12, Try.ntmps12
    go_wp2_with fail
    refine (c1 _ HAT.out).mono ?_
    rintro e w2 ⟨rfl, hb2⟩
    clear c1
    go_wp2
    go_ret
    exact ⟨_, _, _, rfl, (One.empty w2 68 3).under hb2 hb2.size⟩

end Go.Proofs.Ytbnagmjhdnnheaa

namespace Go.Proofs.Ytbnagmjhdnnheaa
open Go.RowKit

open Classical in
/-- All entries of two shelves, each once. -/
noncomputable def joinL5 (a b : List En) : List En := if shOk a ∧ shOk b then rowE (a ++ b) else []
theorem joinL5_ok {a b : List En} (h : shOk a) (k : shOk b) : joinL5 a b = rowE (a ++ b) := by rw [joinL5, if_pos ⟨h, k⟩]
theorem joinL5_not {a b : List En} (h : ¬ (shOk a ∧ shOk b)) : joinL5 a b = [] := by rw [joinL5, if_neg h]

/-- Where a merge of two rows stands. -/
structure Merge (A B : List En) (i k : Nat) (S : List En) : Prop where
  up : S.Pairwise enLt
  mem : ∀ x, x ∈ S ↔ x ∈ A.take i ∨ x ∈ B.take k
  lo : ∀ x ∈ S, ∀ h : i < A.length, enLt x A[i]
  hi : ∀ x ∈ S, ∀ h : k < B.length, enLt x B[k]

theorem Merge.start (A B : List En) : Merge A B 0 0 [] := ⟨.nil, by intro x; simp, by intro x hx; simp at hx, by intro x hx; simp at hx⟩
theorem Merge.turn {A B : List En} {i k : Nat} {S : List En} (h : Merge A B i k S) : Merge B A k i S := ⟨h.up, fun x => (h.mem x).trans or_comm, h.hi, h.lo⟩
theorem up_at {A : List En} (hA : A.Pairwise enLt) {i j : Nat} (hij : i < j) (hj : j < A.length) : enLt (A[i]'(by omega)) A[j] := List.pairwise_iff_getElem.1 hA i j (by omega) hj hij
theorem Merge.takeA {A B : List En} {i k : Nat} {S : List En} (h : Merge A B i k S) (hA : A.Pairwise enLt) (hi : i < A.length) (hk : ∀ h : k < B.length, enLt A[i] B[k]) : Merge A B (i + 1) k (S ++ [A[i]]) := by
  refine ⟨?_, fun x => ?_, fun x hx h2 => ?_, fun x hx h2 => ?_⟩
  · rw [List.pairwise_append]
    refine ⟨h.up, List.pairwise_singleton _ _, fun x hx y hy => ?_⟩
    obtain rfl := List.mem_singleton.1 hy
    exact h.lo x hx hi
  · rw [List.mem_append, h.mem, List.mem_singleton, List.take_succ_eq_append_getElem hi, List.mem_append, List.mem_singleton]
    constructor
    · rintro ((h1 | h1) | h1)
      · exact .inl (.inl h1)
      · exact .inr h1
      · exact .inl (.inr h1)
    · rintro ((h1 | h1) | h1)
      · exact .inl (.inl h1)
      · exact .inr h1
      · exact .inl (.inr h1)
  · rcases List.mem_append.1 hx with h1 | h1
    · exact enLt_trans (h.lo x h1 hi) (up_at hA (by omega) h2)
    · obtain rfl := List.mem_singleton.1 h1
      exact up_at hA (by omega) h2
  · rcases List.mem_append.1 hx with h1 | h1
    · exact h.hi x h1 h2
    · obtain rfl := List.mem_singleton.1 h1
      exact hk h2
theorem Merge.takeB {A B : List En} {i k : Nat} {S : List En} (h : Merge A B i k S) (hB : B.Pairwise enLt) (hk : k < B.length) (hi : ∀ h : i < A.length, enLt B[k] A[i]) : Merge A B i (k + 1) (S ++ [B[k]]) := (h.turn.takeA hB hk hi).turn
theorem Merge.both {A B : List En} {i k : Nat} {S : List En} (h : Merge A B i k S) (hA : A.Pairwise enLt) (hB : B.Pairwise enLt) (hi : i < A.length) (hk : k < B.length) (he : A[i] = B[k]) : Merge A B (i + 1) (k + 1) (S ++ [A[i]]) := by
  refine ⟨?_, fun x => ?_, fun x hx h2 => ?_, fun x hx h2 => ?_⟩
  · rw [List.pairwise_append]
    refine ⟨h.up, List.pairwise_singleton _ _, fun x hx y hy => ?_⟩
    obtain rfl := List.mem_singleton.1 hy
    exact h.lo x hx hi
  · rw [List.mem_append, h.mem, List.mem_singleton, List.take_succ_eq_append_getElem hi, List.take_succ_eq_append_getElem hk, List.mem_append, List.mem_singleton, List.mem_append, List.mem_singleton, he]
    constructor
    · rintro ((h1 | h1) | h1)
      · exact .inl (.inl h1)
      · exact .inr (.inl h1)
      · exact .inl (.inr h1)
    · rintro ((h1 | h1) | (h1 | h1))
      · exact .inl (.inl h1)
      · exact .inr h1
      · exact .inl (.inr h1)
      · exact .inr h1
  · rcases List.mem_append.1 hx with h1 | h1
    · exact enLt_trans (h.lo x h1 hi) (up_at hA (by omega) h2)
    · obtain rfl := List.mem_singleton.1 h1
      exact up_at hA (by omega) h2
  · rcases List.mem_append.1 hx with h1 | h1
    · exact enLt_trans (h.hi x h1 hk) (up_at hB (by omega) h2)
    · obtain rfl := List.mem_singleton.1 h1
      rw [he]
      exact up_at hB (by omega) h2
theorem Merge.done {A B : List En} {S : List En} (h : Merge A B A.length B.length S) : rowE (A ++ B) = S :=
  rowE_of ⟨h.up, fun x => by rw [h.mem, List.take_length, List.take_length, List.mem_append]⟩

set_option maxRecDepth 4000 in
set_option maxHeartbeats 8000000 in
theorem specJoin5_any (A B : List En) (a b : Option Addr) (n c m d : Nat) (w : World) (hn : n = A.length) (hm : m = B.length) (hn9 : n ≤ 2097152) (hm9 : m ≤ 2097152) (hatA : CellsAt w a (entsC A)) (hatB : CellsAt w b (entsC B)) :
    Calls Try.prog 72 #[.slice a n c, .slice b m d] w fun e w' => ∃ a' n' c', e = .returned (.slice a' n' c') ∧ One w w.heap.size w' 68 3 a' n' c' (entsC (joinL5 A B)) := by
  by_cases hA : shOk A
  · have c1 := fun w h => specShelfOk_is true A a n c w ⟨fun _ => hA, fun _ => rfl⟩ hn (by omega) h
    by_cases hB : shOk B
    · have c2 := fun w h => specShelfOk_is true B b m d w ⟨fun _ => hB, fun _ => rfl⟩ hm (by omega) h
      have HR := Lib.hid (joinL5_ok hA hB)
      have HN := Lib.hid hn
      have HM := Lib.hid hm
      have HA := Lib.hid hatA
      have HB := Lib.hid hatB
      have HUA := Lib.hid hA.2
      have HUB := Lib.hid hB.2
      clear hn hm hatA hatB hA hB
      go_enter Try.func72, Try.ntmps72
      go_wp2_with fail
      refine (c1 _ (HA.out.allocW _)).mono ?_
      rintro e w2 ⟨rfl, hb2⟩
      have hone2 : One w w.heap.size w2 68 3 (some ⟨w.heap.size, 0, none⟩) 0 0 (entsC []) := (One.empty w 68 3).later hb2
      clear hb2 c1
      go_wp2_with fail
      refine (c2 _ (HB.out.below hone2.below)).mono ?_
      rintro e w3 ⟨rfl, hb3⟩
      have hone0 := hone2.later hb3
      clear hb3 hone2 c2
      go_wp2
      go_loopw [5, 6, 7] (fun o_ i_ k_ wr => ∃ (i k : Nat) (S : List En), i ≤ n ∧ k ≤ m ∧ i_ = .int .i64 i ∧ k_ = .int .i64 k ∧ ∃ a' n' c', o_ = .slice a' n' c' ∧ n' ≤ i + k ∧ Hid (Merge A B i k S) ∧ One w w.heap.size wr 68 3 a' n' c' (entsC S)) (fun _ i_ k_ _ => n + m - ((intOf i_).toNat + (intOf k_).toNat))
      case atStart => exact ⟨0, 0, [], Nat.zero_le _, Nat.zero_le _, rfl, rfl, _, _, _, rfl, Nat.zero_le _, Lib.hid (Merge.start A B), hone0⟩
      case round =>
        clear hone0
        obtain ⟨i, k, S, hi, hk, rfl, rfl, a', n', c', rfl, hn', HS, hone⟩ := hrel
        by_cases hin : i < n
        · have hiA : i < A.length := by have := HN.out; omega
          obtain ⟨x, hx⟩ : ∃ x, A[i].1 = x := ⟨_, rfl⟩
          obtain ⟨y, hy⟩ : ∃ y, A[i].2.1 = y := ⟨_, rfl⟩
          obtain ⟨z, hz⟩ : ∃ z, A[i].2.2 = z := ⟨_, rfl⟩
          have hma : A[i] = (x, y, z) := by rw [← hx, ← hy, ← hz]
          obtain ⟨ab, ao, rfl, hab, g1, g2, g3⟩ := ent_cells (HA.out.below hone.below) hiA hma
          have HMA := Lib.hid hma
          have z1 : (i : Int) < (n : Int) := by omega
          have z2 : (0 : Int) ≤ (i : Int) := by omega
          clear hx hy hz hma
          by_cases hkm : k < m
          · have hkB : k < B.length := by have := HM.out; omega
            obtain ⟨x', hx⟩ : ∃ x, B[k].1 = x := ⟨_, rfl⟩
            obtain ⟨y', hy⟩ : ∃ y, B[k].2.1 = y := ⟨_, rfl⟩
            obtain ⟨z', hz⟩ : ∃ z, B[k].2.2 = z := ⟨_, rfl⟩
            have hmb : B[k] = (x', y', z') := by rw [← hx, ← hy, ← hz]
            obtain ⟨bb, bo, rfl, hbb, g4, g5, g6⟩ := ent_cells (HB.out.below hone.below) hkB hmb
            have HKS := Lib.hid (show ∀ w', Below wr.heap.size wr w' → w'.cell? ⟨ab, ao + i * 3, none⟩ = some (.int .i64 x) ∧ w'.cell? ⟨ab, ao + i * 3 + 1, none⟩ = some (.int .i64 y) ∧ w'.cell? ⟨ab, ao + i * 3 + 2, none⟩ = some (.int .i64 z) ∧ w'.cell? ⟨bb, bo + k * 3, none⟩ = some (.int .i64 x') ∧ w'.cell? ⟨bb, bo + k * 3 + 1, none⟩ = some (.int .i64 y') ∧ w'.cell? ⟨bb, bo + k * 3 + 2, none⟩ = some (.int .i64 z') from fun w' h => ⟨below_ents h hab g1, below_ents h hab g2, below_ents h hab g3, below_ents h hbb g4, below_ents h hbb g5, below_ents h hbb g6⟩)
            have z3 : (k : Int) < (m : Int) := by omega
            have z4 : (0 : Int) ≤ (k : Int) := by omega
            have t1 : ((k : Int) == (m : Int)) = false := by simp; omega
            have t2 : (k == m) = false := by simp; omega
            have t3 : ((i : Int) == (n : Int)) = false := by simp; omega
            have t4 : (i == n) = false := by simp; omega
            have t5 : decide (i < n) = true := decide_eq_true hin
            have t6 : decide ((i : Int) < (n : Int)) = true := decide_eq_true (by omega)
            have HMB := Lib.hid hmb
            clear hx hy hz hmb
            by_cases hlt1 : enLt (x, y, z) (x', y', z')
            · have c3 := fun w => specLess_is true x y z x' y' z' w ⟨fun _ => hlt1, fun _ => rfl⟩
              have HS2 := Lib.hid (HS.out.takeA HUA.out hiA (fun h => by rw [HMA.out, HMB.out]; exact hlt1))
              have HE := Lib.hid (show entsC (S ++ [A[i]]) = entsC S ++ [.int .i64 x, .int .i64 y, .int .i64 z] by rw [HMA.out, entsC_snoc])
              clear hlt1 HS
              go_wp2
              go_region_held3 (fun w' => w'.cell? ⟨ab, ao + i * 3, none⟩ = some (.int .i64 x) ∧ w'.cell? ⟨ab, ao + i * 3 + 1, none⟩ = some (.int .i64 y) ∧ w'.cell? ⟨ab, ao + i * 3 + 2, none⟩ = some (.int .i64 z) ∧ w'.cell? ⟨bb, bo + k * 3, none⟩ = some (.int .i64 x') ∧ w'.cell? ⟨bb, bo + k * 3 + 1, none⟩ = some (.int .i64 y') ∧ w'.cell? ⟨bb, bo + k * 3 + 2, none⟩ = some (.int .i64 z')) (first | go_keep | exact HKS.out _ (Below.trans (by repeat (first | exact Below.refl _ _ | refine Below.drew ?_ | refine below_drewN' ?_ _)) (hb5.mono (by simp))))
                ((go_at_call 83; refine (c3 _).mono ?_; rintro e w5 ⟨rfl, hb5⟩))
              go_wp2_with (at_builtin; refine wpList_append_row rfl (.tmp 61) (.tmp 66) 24 rfl Try.ulE5 Try.infoE5 rfl (by decide) (hone.later (Below.trans (by repeat (first | exact Below.refl _ _ | refine Below.drew ?_ | refine below_drewN' ?_ _)) (hb5.mono (by simp)))) rfl #[.int .i64 x, .int .i64 y, .int .i64 z] rfl rfl (by simp [Value.oneCell']) (by unfold maxLen; omega) (by omega) ?_; intro a7 c7 w7 h7)
              go_roundw
              case rel => exact ⟨i + 1, k, S ++ [A[i]], by omega, hk, by go_num, rfl, a7, n' + 1, c7, rfl, by omega, HS2, by rw [HE.out]; exact h7⟩
              case measure => simp [intOf]; omega
            · have c3 := fun w => specLess_is false x y z x' y' z' w ⟨(fun h => absurd h (by decide)), (fun h => absurd h hlt1)⟩
              go_wp2
              go_region_held3 (fun w' => w'.cell? ⟨ab, ao + i * 3, none⟩ = some (.int .i64 x) ∧ w'.cell? ⟨ab, ao + i * 3 + 1, none⟩ = some (.int .i64 y) ∧ w'.cell? ⟨ab, ao + i * 3 + 2, none⟩ = some (.int .i64 z) ∧ w'.cell? ⟨bb, bo + k * 3, none⟩ = some (.int .i64 x') ∧ w'.cell? ⟨bb, bo + k * 3 + 1, none⟩ = some (.int .i64 y') ∧ w'.cell? ⟨bb, bo + k * 3 + 2, none⟩ = some (.int .i64 z')) (first | go_keep | exact HKS.out _ (Below.trans (by repeat (first | exact Below.refl _ _ | refine Below.drew ?_ | refine below_drewN' ?_ _)) (hb5.mono (by simp))))
                ((go_at_call 83; refine (c3 _).mono ?_; rintro e w5 ⟨rfl, hb5⟩))
              have W5 : Below wr.heap.size wr w5 := (Below.trans (by repeat (first | exact Below.refl _ _ | refine Below.drew ?_ | refine below_drewN' ?_ _)) (hb5.mono (by simp)))
              have hone5 := hone.later W5
              have HK5 := Lib.hid (show ∀ w', Below w5.heap.size w5 w' → w'.cell? ⟨ab, ao + i * 3, none⟩ = some (.int .i64 x) ∧ w'.cell? ⟨ab, ao + i * 3 + 1, none⟩ = some (.int .i64 y) ∧ w'.cell? ⟨ab, ao + i * 3 + 2, none⟩ = some (.int .i64 z) ∧ w'.cell? ⟨bb, bo + k * 3, none⟩ = some (.int .i64 x') ∧ w'.cell? ⟨bb, bo + k * 3 + 1, none⟩ = some (.int .i64 y') ∧ w'.cell? ⟨bb, bo + k * 3 + 2, none⟩ = some (.int .i64 z') from fun w' h => HKS.out w' (W5.trans (h.mono W5.size)))
              obtain ⟨g1, g2, g3, g4, g5, g6⟩ := HK5.out w5 (Below.refl _ _)
              clear hb5 W5 hone HKS c3
              by_cases hlt2 : enLt (x', y', z') (x, y, z)
              · have c4 := fun w => specLess_is true x' y' z' x y z w ⟨fun _ => hlt2, fun _ => rfl⟩
                have HS2 := Lib.hid (HS.out.takeB HUB.out hkB (fun h => by rw [HMA.out, HMB.out]; exact hlt2))
                have HE := Lib.hid (show entsC (S ++ [B[k]]) = entsC S ++ [.int .i64 x', .int .i64 y', .int .i64 z'] by rw [HMB.out, entsC_snoc])
                clear hlt1 hlt2 HS
                go_wp2
                go_region_held3 (fun w' => w'.cell? ⟨ab, ao + i * 3, none⟩ = some (.int .i64 x) ∧ w'.cell? ⟨ab, ao + i * 3 + 1, none⟩ = some (.int .i64 y) ∧ w'.cell? ⟨ab, ao + i * 3 + 2, none⟩ = some (.int .i64 z) ∧ w'.cell? ⟨bb, bo + k * 3, none⟩ = some (.int .i64 x') ∧ w'.cell? ⟨bb, bo + k * 3 + 1, none⟩ = some (.int .i64 y') ∧ w'.cell? ⟨bb, bo + k * 3 + 2, none⟩ = some (.int .i64 z')) (first | go_keep | exact HK5.out _ (Below.trans (by repeat (first | exact Below.refl _ _ | refine Below.drew ?_ | refine below_drewN' ?_ _)) (hb6.mono (by simp))))
                  ((go_at_call 83; refine (c4 _).mono ?_; rintro e w6 ⟨rfl, hb6⟩))
                go_wp2_with (at_builtin; refine wpList_append_row rfl (.tmp 86) (.tmp 91) 24 rfl Try.ulE5 Try.infoE5 rfl (by decide) (hone5.later (Below.trans (by repeat (first | exact Below.refl _ _ | refine Below.drew ?_ | refine below_drewN' ?_ _)) (hb6.mono (by simp)))) rfl #[.int .i64 x', .int .i64 y', .int .i64 z'] rfl rfl (by simp [Value.oneCell']) (by unfold maxLen; omega) (by omega) ?_; intro a7 c7 w7 h7)
                go_roundw
                case rel => exact ⟨i, k + 1, S ++ [B[k]], hi, by omega, rfl, by go_num, a7, n' + 1, c7, rfl, by omega, HS2, by rw [HE.out]; exact h7⟩
                case measure => simp [intOf]; omega
              · have c4 := fun w => specLess_is false x' y' z' x y z w ⟨(fun h => absurd h (by decide)), (fun h => absurd h hlt2)⟩
                have hee : A[i] = B[k] := by
                  rw [HMA.out, HMB.out]
                  rcases enLt_three (x, y, z) (x', y', z') with h | h | h
                  · exact absurd h hlt1
                  · exact h
                  · exact absurd h hlt2
                have HS2 := Lib.hid (HS.out.both HUA.out HUB.out hiA hkB hee)
                have HE := Lib.hid (show entsC (S ++ [A[i]]) = entsC S ++ [.int .i64 x, .int .i64 y, .int .i64 z] by rw [HMA.out, entsC_snoc])
                clear hlt1 hlt2 HS hee
                go_wp2
                go_region_held3 (fun w' => w'.cell? ⟨ab, ao + i * 3, none⟩ = some (.int .i64 x) ∧ w'.cell? ⟨ab, ao + i * 3 + 1, none⟩ = some (.int .i64 y) ∧ w'.cell? ⟨ab, ao + i * 3 + 2, none⟩ = some (.int .i64 z) ∧ w'.cell? ⟨bb, bo + k * 3, none⟩ = some (.int .i64 x') ∧ w'.cell? ⟨bb, bo + k * 3 + 1, none⟩ = some (.int .i64 y') ∧ w'.cell? ⟨bb, bo + k * 3 + 2, none⟩ = some (.int .i64 z')) (first | go_keep | exact HK5.out _ (Below.trans (by repeat (first | exact Below.refl _ _ | refine Below.drew ?_ | refine below_drewN' ?_ _)) (hb6.mono (by simp))))
                  ((go_at_call 83; refine (c4 _).mono ?_; rintro e w6 ⟨rfl, hb6⟩))
                obtain ⟨g1, g2, g3, g4, g5, g6⟩ := HK5.out w6 (Below.trans (by repeat (first | exact Below.refl _ _ | refine Below.drew ?_ | refine below_drewN' ?_ _)) (hb6.mono (by simp)))
                go_wp2_with (at_builtin; refine wpList_append_row rfl (.tmp 28) (.tmp 33) 24 rfl Try.ulE5 Try.infoE5 rfl (by decide) (hone5.later (Below.trans (by repeat (first | exact Below.refl _ _ | refine Below.drew ?_ | refine below_drewN' ?_ _)) (hb6.mono (by simp)))) rfl #[.int .i64 x, .int .i64 y, .int .i64 z] rfl rfl (by simp [Value.oneCell']) (by unfold maxLen; omega) (by omega) ?_; intro a7 c7 w7 h7)
                go_roundw
                case rel => exact ⟨i + 1, k + 1, S ++ [A[i]], by omega, by omega, by go_num, by go_num, a7, n' + 1, c7, rfl, by omega, HS2, by rw [HE.out]; exact h7⟩
                case measure => simp [intOf]; omega
          · have HS2 := Lib.hid (HS.out.takeA HUA.out hiA (fun h => by have := HM.out; omega))
            have HE := Lib.hid (show entsC (S ++ [A[i]]) = entsC S ++ [.int .i64 x, .int .i64 y, .int .i64 z] by rw [HMA.out, entsC_snoc])
            obtain rfl : k = m := by omega
            clear hkm hk HS
            go_wp2
            go_quiet (fail)
            go_wp2_with (at_builtin; refine wpList_append_row rfl (.tmp 61) (.tmp 66) 24 rfl Try.ulE5 Try.infoE5 rfl (by decide) (hone.drewN _) rfl #[.int .i64 x, .int .i64 y, .int .i64 z] rfl rfl (by simp [Value.oneCell']) (by unfold maxLen; omega) (by omega) ?_; intro a5 c5 w5 h5)
            go_roundw
            case rel => exact ⟨i + 1, k, S ++ [A[i]], by omega, Nat.le_refl _, by go_num, rfl, a5, n' + 1, c5, rfl, by omega, HS2, by rw [HE.out]; exact h5⟩
            case measure => simp [intOf]; omega
        · by_cases hkm : k < m
          · have hkB : k < B.length := by have := HM.out; omega
            obtain ⟨x, hx⟩ : ∃ x, B[k].1 = x := ⟨_, rfl⟩
            obtain ⟨y, hy⟩ : ∃ y, B[k].2.1 = y := ⟨_, rfl⟩
            obtain ⟨z, hz⟩ : ∃ z, B[k].2.2 = z := ⟨_, rfl⟩
            have hmb : B[k] = (x, y, z) := by rw [← hx, ← hy, ← hz]
            obtain ⟨bb, bo, rfl, hbb, g1, g2, g3⟩ := ent_cells (HB.out.below hone.below) hkB hmb
            have HS2 := Lib.hid (HS.out.takeB HUB.out hkB (fun h => by have := HN.out; omega))
            have HE := Lib.hid (show entsC (S ++ [B[k]]) = entsC S ++ [.int .i64 x, .int .i64 y, .int .i64 z] by rw [hmb, entsC_snoc])
            have hie : i = n := by omega
            have t1 : ((k : Int) == (m : Int)) = false := by simp; omega
            have t2 : (k == m) = false := by simp; omega
            have t3 : ((i : Int) == (n : Int)) = true := by rw [hie]; exact beq_self_eq_true _
            have t4 : (i == n) = true := by rw [hie]; exact beq_self_eq_true _
            have t5 : decide (i < n) = false := decide_eq_false hin
            have t6 : decide ((i : Int) < (n : Int)) = false := decide_eq_false (by omega)
            have z1 : (k : Int) < (m : Int) := by omega
            have z2 : (0 : Int) ≤ (k : Int) := by omega
            clear hx hy hz hmb hie
            go_wp2
            go_quiet (fail)
            go_wp2
            go_quiet (fail)
            go_wp2_with (at_builtin; refine wpList_append_row rfl (.tmp 86) (.tmp 91) 24 rfl Try.ulE5 Try.infoE5 rfl (by decide) (hone.drewN _) rfl #[.int .i64 x, .int .i64 y, .int .i64 z] rfl rfl (by simp [Value.oneCell']) (by unfold maxLen; omega) (by omega) ?_; intro a5 c5 w5 h5)
            go_roundw
            case rel => exact ⟨i, k + 1, S ++ [B[k]], hi, by omega, rfl, by go_num, a5, n' + 1, c5, rfl, by omega, HS2, by rw [HE.out]; exact h5⟩
            case measure => simp [intOf]; omega
          · have HO := Lib.hid (show One w w.heap.size wr 68 3 a' n' c' (entsC (joinL5 A B)) by
              have h := HS.out
              rw [show i = A.length by have := HN.out; omega, show k = B.length by have := HM.out; omega] at h
              rw [HR.out, h.done]
              exact hone)
            clear hone
            go_wp2
            go_ret
            exact ⟨_, _, _, rfl, HO.out⟩
    · have c2 := fun w h => specShelfOk_is false B b m d w ⟨(fun h => absurd h (by decide)), (fun h => absurd h hB)⟩ hm (by omega) h
      rw [joinL5_not (fun h => hB h.2)]
      have HA := Lib.hid hatA
      have HB := Lib.hid hatB
      clear hn hm hatA hatB hA hB
      go_enter Try.func72, Try.ntmps72
      go_wp2_with fail
      refine (c1 _ (HA.out.allocW _)).mono ?_
      rintro e w2 ⟨rfl, hb2⟩
      have hone2 : One w w.heap.size w2 68 3 (some ⟨w.heap.size, 0, none⟩) 0 0 (entsC []) := (One.empty w 68 3).later hb2
      clear hb2 c1
      go_wp2_with fail
      refine (c2 _ (HB.out.below hone2.below)).mono ?_
      rintro e w3 ⟨rfl, hb3⟩
      have hone0 := hone2.later hb3
      clear hb3 hone2 c2
      go_wp2
      go_ret
      exact ⟨_, _, _, rfl, hone0⟩
  · have c1 := fun w h => specShelfOk_is false A a n c w ⟨(fun h => absurd h (by decide)), (fun h => absurd h hA)⟩ hn (by omega) h
    rw [joinL5_not (fun h => hA h.1)]
    have HA := Lib.hid hatA
    clear hn hm hatA hatB hA
    go_enter Try.func72, Try.ntmps72
    go_wp2_with fail
    refine (c1 _ (HA.out.allocW _)).mono ?_
    rintro e w2 ⟨rfl, hb2⟩
    have hone2 : One w w.heap.size w2 68 3 (some ⟨w.heap.size, 0, none⟩) 0 0 (entsC []) := (One.empty w 68 3).later hb2
    clear hb2 c1
    go_wp2
    go_ret
    exact ⟨_, _, _, rfl, hone2⟩

end Go.Proofs.Ytbnagmjhdnnheaa

namespace Go.Proofs.Ytbnagmjhdnnheaa
open Go.RowKit

theorem cellsAt_rec3 (w : World) (e : TypeId) (a b c : Value) (g : Nat) (hg : g = w.heap.size) : CellsAt (w.alloc (.cells #[a, b, c] e)) (some ⟨g, 0, none⟩) [a, b, c] := cellsAt_lit w e #[a, b, c] g hg

theorem putE_at {l : List En} {X : En} {p : Nat} (hp : p ≤ l.length) (h1 : ∀ i, i < p → ∀ h : i < l.length, enLt l[i] X) (h2 : ∀ h : p < l.length, ¬ enLt l[p] X) : putE X l = if l[p]? = some X then l else l.take p ++ X :: l.drop p := by
  have e := atE_is X l p hp h1 h2
  rw [putE, e]

set_option maxRecDepth 8000 in
set_option maxHeartbeats 40000000 in
theorem specPut5_any (l : List En) (x y z : Int) (g n c B : Nat) (W w : World) (hn : n = l.length) (hl : n ≤ 2097152) (hone : One W B w 68 3 (some ⟨g, 0, none⟩) n c (entsC l)) :
    Calls Try.prog 97 #[.slice (some ⟨g, 0, none⟩) n c, .agg #[.int .i64 x, .int .i64 y, .int .i64 z]] w fun e w' => ∃ g' n' c', e = .returned (.slice (some ⟨g', 0, none⟩) n' c') ∧ n' = (putE (x, y, z) l).length ∧ One W B w' 68 3 (some ⟨g', 0, none⟩) n' c' (entsC (putE (x, y, z) l)) ∧ Below w.heap.size w w' := by
  have HN := Lib.hid hn
  have hcap := hone.cap
  obtain ⟨hnc, hc9⟩ := hcap
  have hbx : Below w.heap.size w (w.alloc (.cells #[.int .i64 x, .int .i64 y, .int .i64 z] 68)) := (Below.refl _ _).alloc (Nat.le_refl _) _
  obtain ⟨gx, hgx⟩ : ∃ gx, w.heap.size = gx := ⟨_, rfl⟩
  have hx0 : (w.alloc (.cells #[.int .i64 x, .int .i64 y, .int .i64 z] 68)).cell? ⟨gx, 0, none⟩ = some (.int .i64 x) ∧ (w.alloc (.cells #[.int .i64 x, .int .i64 y, .int .i64 z] 68)).cell? ⟨gx, 1, none⟩ = some (.int .i64 y) ∧ (w.alloc (.cells #[.int .i64 x, .int .i64 y, .int .i64 z] 68)).cell? ⟨gx, 2, none⟩ = some (.int .i64 z) := by
    subst hgx
    exact ⟨cell_of_row _ w.heap.size 0 _ _ (0, 0) (heap_alloc_new w _), cell_of_row _ w.heap.size 1 _ _ (0, 0) (heap_alloc_new w _), cell_of_row _ w.heap.size 2 _ _ (0, 0) (heap_alloc_new w _)⟩
  have hone1 := hone.alloc (.cells #[.int .i64 x, .int .i64 y, .int .i64 z] 68)
  have hgx1 : gx < (w.alloc (.cells #[.int .i64 x, .int .i64 y, .int .i64 z] 68)).heap.size := by rw [← hgx]; simp
  have HGX := Lib.hid hgx
  have HB0' := Lib.hid hbx
  clear hn hone hbx hgx
  go_enter Try.func97, Try.ntmps97
  go_wp2
  rw [HGX.out]
  generalize hw1 : w.alloc (.cells #[.int .i64 x, .int .i64 y, .int .i64 z] 68) = w1
  have HB0 := Lib.hid (show ∀ w', Below w1.heap.size w1 w' → Below w.heap.size w w' from fun w' h => by have h2 := HB0'.out; rw [HGX.out, hw1] at h2; rw [HGX.out]; exact h2.trans (h.mono (Nat.le_of_lt (by rw [← hw1]; exact hgx1))))
  rw [hw1] at hx0 hone1 hgx1
  clear hw1 HB0'
  have HX := Lib.hid (show ∀ w', Below w1.heap.size w1 w' → w'.cell? ⟨gx, 0, none⟩ = some (.int .i64 x) ∧ w'.cell? ⟨gx, 1, none⟩ = some (.int .i64 y) ∧ w'.cell? ⟨gx, 2, none⟩ = some (.int .i64 z) from fun w' h => ⟨below_ents h hgx1 hx0.1, below_ents h hgx1 hx0.2.1, below_ents h hgx1 hx0.2.2⟩)
  have HO := Lib.hid (show ∀ w', Below w1.heap.size w1 w' → One W B w' 68 3 (some ⟨g, 0, none⟩) n c (entsC l) from fun w' h => hone1.later h)
  clear hx0 hone1
  go_loopw [5] (fun p_ wr => ∃ p : Nat, p ≤ n ∧ p_ = .int .i64 p ∧ Hid (∀ i, i < p → ∀ h : i < l.length, enLt l[i] (x, y, z)) ∧ Below w1.heap.size w1 wr) (fun p_ _ => n - (intOf p_).toNat)
  case atStart => exact ⟨0, Nat.zero_le _, rfl, Lib.hid (fun i h => absurd h (Nat.not_lt_zero _)), Below.refl _ _⟩
  case round =>
    obtain ⟨p, hp, rfl, HP, Bw⟩ := hrel
    obtain ⟨b1, b2, b3⟩ := HX.out wr Bw
    have hone := HO.out wr Bw
    by_cases hpn : p < n
    · have hpl : p < l.length := by have := HN.out; omega
      obtain ⟨x', hx⟩ : ∃ x', l[p].1 = x' := ⟨_, rfl⟩
      obtain ⟨y', hy⟩ : ∃ y', l[p].2.1 = y' := ⟨_, rfl⟩
      obtain ⟨z', hz⟩ : ∃ z', l[p].2.2 = z' := ⟨_, rfl⟩
      have hm : l[p] = (x', y', z') := by rw [← hx, ← hy, ← hz]
      obtain ⟨g', o', hgo, hg9, g1, g2, g3⟩ := ent_cells hone.at_ hpl hm
      obtain ⟨rfl, rfl⟩ := (by simpa using hgo : g = g' ∧ 0 = o')
      rw [Nat.zero_add] at g1 g2 g3
      have HM := Lib.hid hm
      have z1 : (p : Int) < (n : Int) := by omega
      have z2 : (0 : Int) ≤ (p : Int) := by omega
      have hgxr : gx < wr.heap.size := Nat.lt_of_lt_of_le hgx1 Bw.size
      have HKS := Lib.hid (show ∀ w', Below wr.heap.size wr w' → (w'.cell? ⟨gx, 0, none⟩ = some (.int .i64 x) ∧ w'.cell? ⟨gx, 1, none⟩ = some (.int .i64 y) ∧ w'.cell? ⟨gx, 2, none⟩ = some (.int .i64 z)) ∧ w'.cell? ⟨g, p * 3, none⟩ = some (.int .i64 x') ∧ w'.cell? ⟨g, p * 3 + 1, none⟩ = some (.int .i64 y') ∧ w'.cell? ⟨g, p * 3 + 2, none⟩ = some (.int .i64 z') from fun w' h => ⟨⟨below_ents h hgxr b1, below_ents h hgxr b2, below_ents h hgxr b3⟩, below_ents h hg9 g1, below_ents h hg9 g2, below_ents h hg9 g3⟩)
      have t1 : decide (p < n) = true := decide_eq_true hpn
      clear hx hy hz hm hgo
      by_cases hlt : enLt (x', y', z') (x, y, z)
      · have c1 := fun w => specLess_is true x' y' z' x y z w ⟨fun _ => hlt, fun _ => rfl⟩
        have HP2 := Lib.hid (show ∀ i, i < p + 1 → ∀ h : i < l.length, enLt l[i] (x, y, z) from fun i h1 h2 => by
          by_cases e : i = p
          · subst e; rw [HM.out]; exact hlt
          · exact HP.out i (by omega) h2)
        clear hlt HP hone
        go_wp2
        go_region_held3 (fun w' => (w'.cell? ⟨gx, 0, none⟩ = some (.int .i64 x) ∧ w'.cell? ⟨gx, 1, none⟩ = some (.int .i64 y) ∧ w'.cell? ⟨gx, 2, none⟩ = some (.int .i64 z)) ∧ w'.cell? ⟨g, p * 3, none⟩ = some (.int .i64 x') ∧ w'.cell? ⟨g, p * 3 + 1, none⟩ = some (.int .i64 y') ∧ w'.cell? ⟨g, p * 3 + 2, none⟩ = some (.int .i64 z')) (first | go_keep | exact HKS.out _ (Below.trans (by repeat (first | exact Below.refl _ _ | refine Below.drew ?_ | refine below_drewN' ?_ _)) (hb5.mono (by simp))))
          ((go_at_call 83; refine (c1 _).mono ?_; rintro e w5 ⟨rfl, hb5⟩))
        go_wp2
        go_roundw
        case rel => exact ⟨p + 1, by omega, by go_num, HP2, Bw.trans (Below.mono (Below.trans (by repeat (first | exact Below.refl _ _ | refine Below.drew ?_ | refine below_drewN' ?_ _)) (hb5.mono (by simp))) Bw.size)⟩
        case measure => simp [intOf]; omega
      · have c1 := fun w => specLess_is false x' y' z' x y z w ⟨(fun h => absurd h (by decide)), (fun h => absurd h hlt)⟩
        have hput := putE_at (X := (x, y, z)) (by have := HN.out; omega) HP.out (fun h => by rw [HM.out]; exact hlt)
        rw [List.getElem?_eq_getElem hpl, HM.out] at hput
        have HPUT := Lib.hid hput
        clear hlt HP hone hput
        go_wp2
        go_region_held3 (fun w' => (w'.cell? ⟨gx, 0, none⟩ = some (.int .i64 x) ∧ w'.cell? ⟨gx, 1, none⟩ = some (.int .i64 y) ∧ w'.cell? ⟨gx, 2, none⟩ = some (.int .i64 z)) ∧ w'.cell? ⟨g, p * 3, none⟩ = some (.int .i64 x') ∧ w'.cell? ⟨g, p * 3 + 1, none⟩ = some (.int .i64 y') ∧ w'.cell? ⟨g, p * 3 + 2, none⟩ = some (.int .i64 z')) (first | go_keep | exact HKS.out _ (Below.trans (by repeat (first | exact Below.refl _ _ | refine Below.drew ?_ | refine below_drewN' ?_ _)) (hb5.mono (by simp))))
          ((go_at_call 83; refine (c1 _).mono ?_; rintro e w5 ⟨rfl, hb5⟩))
        have W5 : Below wr.heap.size wr w5 := (Below.trans (by repeat (first | exact Below.refl _ _ | refine Below.drew ?_ | refine below_drewN' ?_ _)) (hb5.mono (by simp)))
        obtain ⟨⟨b1, b2, b3⟩, g1, g2, g3⟩ := HKS.out w5 W5
        have B5 : Below w1.heap.size w1 w5 := Bw.trans (W5.mono Bw.size)
        clear hb5 HKS c1 W5 Bw
        by_cases he : (x', y', z') = (x, y, z)
        · have HE := Lib.hid (HPUT.out.trans (if_pos (by rw [he])))
          simp only [Prod.mk.injEq] at he
          obtain ⟨rfl, rfl, rfl⟩ := he
          have tx : (x' == x') = true := beq_self_eq_true _
          have ty : (y' == y') = true := beq_self_eq_true _
          have tz : (z' == z') = true := beq_self_eq_true _
          go_wp2
          go_quiet (fail)
          go_wp2
          go_ret
          have HOn := HO.out w5 B5
          exact ⟨_, _, _, rfl, by rw [HE.out]; exact HN.out, by rw [HE.out]; exact HOn.drewN _, HB0.out _ (below_drewN' B5 _)⟩
        · have HE := Lib.hid (HPUT.out.trans (if_neg (fun h => he (by injection h))))
          have hcase : (x' == x) = false ∨ (x' == x) = true ∧ ((y' == y) = false ∨ (y' == y) = true ∧ (z' == z) = false) := by
            by_cases h1 : x' = x
            · by_cases h2 : y' = y
              · by_cases h3 : z' = z
                · exact absurd (by rw [h1, h2, h3]) he
                · exact .inr ⟨by simpa using h1, .inr ⟨by simpa using h2, by simpa using h3⟩⟩
              · exact .inr ⟨by simpa using h1, .inl (by simpa using h2)⟩
            · exact .inl (by simpa using h1)
          clear he
          rcases hcase with t1 | ⟨t1, t2 | ⟨t2, t3⟩⟩
          all_goals (
            go_wp2
            go_quiet (fail)
            go_wp2_with fail
            generalize hW : World.drewN _ _ = wz
            have Bz : Below w1.heap.size w1 wz := by rw [← hW]; exact below_drewN' B5 _
            clear hW B5 b1 b2 b3 g1 g2 g3
            have HOz := Lib.hid (HO.out wz Bz)
            have HG := Lib.hid (show ∀ w', Below wz.heap.size wz w' → w'.cell? ⟨gx, 0, none⟩ = some (.int .i64 x) ∧ w'.cell? ⟨gx, 1, none⟩ = some (.int .i64 y) ∧ w'.cell? ⟨gx, 2, none⟩ = some (.int .i64 z) from fun w' h => HX.out w' (Bz.trans (h.mono Bz.size)))
            obtain ⟨b1, b2, b3⟩ := HG.out wz (Below.refl _ _)
            have hbz : wz.heap.size ≤ wz.heap.size := Nat.le_refl _
            have hbel : Below wz.heap.size wz wz := Below.refl _ _
            have HTs := Lib.hid (show CellsAt wz (some ⟨g, 0, none⟩) (entsC (l.take p)) by rw [← entsC_take]; exact HOz.out.at_.upTo (p * 3))
            have HL1 := Lib.hid (show (entsC (l.take p)).length = p * 3 by rw [entsC_len, List.length_take, Nat.min_eq_left (by have := HN.out; omega)])
            have HD := Lib.hid (fun (w' : World) (hb : Below wz.heap.size wz w') => (show CellsAt wz (some ⟨g, p * 3, none⟩) (entsC (l.drop p)) by rw [← entsC_drop]; have h := HOz.out.at_.from_lit (p * 3); rwa [Nat.zero_add] at h).below hb)
            have HL2 := Lib.hid (show (entsC (l.drop p)).length = (n - p) * 3 by rw [entsC_len, List.length_drop, HN.out])
            have i5 : ¬ c = p := by omega
            have i1 : (0 : Int) ≤ (p : Int) := by omega
            have i2 : (p : Int) ≤ (c : Int) := by omega
            have i3 : (p : Int) ≤ (n : Int) := by omega
            have i4 : p ≤ c := by omega
            go_region_held3 (fun w' => w'.cell? ⟨gx, 0, none⟩ = some (.int .i64 x) ∧ w'.cell? ⟨gx, 1, none⟩ = some (.int .i64 y) ∧ w'.cell? ⟨gx, 2, none⟩ = some (.int .i64 z))
              (first | exact g3 | (refine HG.out _ ?_; first | exact hbel.trans (hs5.below.mono hbz) | exact hbel.trans (hs4.below.mono hbz) | (refine hbel.trans ?_; refine Below.mono ?_ hbz; (repeat (first | exact hs3.below | refine Below.drew ?_ | refine Below.alloc ?_ (by first | exact hs3.base | omega | (simp; omega)) _)); done) | ((repeat (first | exact hbel | refine Below.drew ?_ | refine Below.alloc ?_ (by first | exact Nat.le_refl _ | omega | (simp; done) | (simp; omega)) _)); done)))
              ((first
                | (refine step_append_to wz wz.heap.size (some ⟨wz.heap.size, 0, none⟩) 0 0 [] (some ⟨g, 0, none⟩) p c (entsC (l.take p)) p (entsC (l.take p)) (by omega) (by simp) rfl (.tmp 33) (.tmp 36) 24 (by rfl) (by rfl) (by rfl) Try.ulE5 Try.infoE5 rfl (by decide) (by exact HL1.out) (entsC_one _) (by unfold maxLen; omega) (by omega) (by repeat (first | exact One.empty _ _ _ | exact One.second _ _ _ _ | refine One.drew ?_ | refine One.alloc ?_ _)) (by repeat (first | exact HTs.out | refine CellsAt.drewW ?_ | refine CellsAt.allocW ?_ _)) ?_; intro as3 cs3 ws3 hs3 gs3)
                | (refine step_append_to wz wz.heap.size (some ⟨wz.heap.size + 1, 0, none⟩) 0 0 [] (some ⟨g, 0, none⟩) p c (entsC (l.take p)) p (entsC (l.take p)) (by omega) (by simp) rfl (.tmp 33) (.tmp 36) 24 (by rfl) (by rfl) (by rfl) Try.ulE5 Try.infoE5 rfl (by decide) (by exact HL1.out) (entsC_one _) (by unfold maxLen; omega) (by omega) (by repeat (first | exact One.empty _ _ _ | exact One.second _ _ _ _ | refine One.drew ?_ | refine One.alloc ?_ _)) (by repeat (first | exact HTs.out | refine CellsAt.drewW ?_ | refine CellsAt.allocW ?_ _)) ?_; intro as3 cs3 ws3 hs3 gs3)
                | (refine step_append_to wz wz.heap.size as3 p cs3 (entsC (l.take p)) (some ⟨ws3.heap.size, 0, none⟩) 1 1 [.int .i64 x, .int .i64 y, .int .i64 z] (p + 1) (entsC (l.take p) ++ [.int .i64 x, .int .i64 y, .int .i64 z]) (by omega) (by rfl) rfl (.tmp 37) (.tmp 39) 24 (by rfl) (by rfl) (by rfl) Try.ulE5 Try.infoE5 rfl (by decide) (by rfl) (by simp [Value.oneCell']) (by unfold maxLen; omega) (by omega) (by repeat (first | exact hs3 | refine One.drew ?_ | refine One.alloc ?_ _)) (by repeat (first | exact cellsAt_rec3 _ _ _ _ _ _ rfl | refine CellsAt.drewW ?_ | refine CellsAt.allocW ?_ _)) ?_; intro as4 cs4 ws4 hs4 gs4)
                | (refine step_append_to wz wz.heap.size as3 p cs3 (entsC (l.take p)) (some ⟨wz.heap.size + 1, 0, none⟩) 1 1 [.int .i64 x, .int .i64 y, .int .i64 z] (p + 1) (entsC (l.take p) ++ [.int .i64 x, .int .i64 y, .int .i64 z]) (by omega) (by rfl) rfl (.tmp 37) (.tmp 39) 24 (by rfl) (by rfl) (by rfl) Try.ulE5 Try.infoE5 rfl (by decide) (by rfl) (by simp [Value.oneCell']) (by unfold maxLen; omega) (by omega) (by repeat (first | exact hs3 | refine One.drew ?_ | refine One.alloc ?_ _)) (by repeat (first | exact cellsAt_lit _ _ _ _ (by simp) | exact cellsAt_rec3 _ _ _ _ _ _ (by first | rfl | simp) | refine CellsAt.drewW ?_ | refine CellsAt.allocW ?_ _ | (refine CellsAt.grown ?_ gs3 ?_) | (intro b o hh; simp at hh; simp [Value.ownBlock]; omega))) ?_; intro as4 cs4 ws4 hs4 gs4)
                | (refine step_append_to wz wz.heap.size as3 p cs3 (entsC (l.take p)) (some ⟨wz.heap.size, 0, none⟩) 1 1 [.int .i64 x, .int .i64 y, .int .i64 z] (p + 1) (entsC (l.take p) ++ [.int .i64 x, .int .i64 y, .int .i64 z]) (by omega) (by rfl) rfl (.tmp 37) (.tmp 39) 24 (by rfl) (by rfl) (by rfl) Try.ulE5 Try.infoE5 rfl (by decide) (by rfl) (by simp [Value.oneCell']) (by unfold maxLen; omega) (by omega) (by repeat (first | exact hs3 | refine One.drew ?_ | refine One.alloc ?_ _)) (by repeat (first | exact cellsAt_lit _ _ _ _ (by simp) | exact cellsAt_rec3 _ _ _ _ _ _ (by first | rfl | simp) | refine CellsAt.drewW ?_ | refine CellsAt.allocW ?_ _ | (refine CellsAt.grown ?_ gs3 ?_) | (intro b o hh; simp at hh; simp [Value.ownBlock]; omega))) ?_; intro as4 cs4 ws4 hs4 gs4)
                | (refine step_append_to wz wz.heap.size as4 (p + 1) cs4 (entsC (l.take p) ++ [.int .i64 x, .int .i64 y, .int .i64 z]) (some ⟨g, p * 3, none⟩) (n - p) (c - p) (entsC (l.drop p)) (p + 1 + (n - p)) (entsC (l.take p) ++ [.int .i64 x, .int .i64 y, .int .i64 z] ++ entsC (l.drop p)) (by omega) (by simp) rfl (.tmp 40) (.tmp 43) 24 (by rfl) (by rfl) (by rfl) Try.ulE5 Try.infoE5 rfl (by decide) (by exact HL2.out) (entsC_one _) (by unfold maxLen; omega) (by omega) (by repeat (first | exact hs4 | refine One.drew ?_)) (by repeat (first | exact HD.out _ hs4.below | refine CellsAt.drewW ?_)) ?_; intro as5 cs5 ws5 hs5 gs5)))
            all_goals go_wp2
            all_goals (
              go_ret
              obtain ⟨gs, rfl⟩ := hs5.addr (by omega)
              have hfin := hs5.under HOz.out.below HOz.out.base
              refine ⟨gs, _, _, rfl, ?_, ?_, HB0.out _ (Bz.trans (hs5.below.mono Bz.size))⟩
              · rw [HE.out]; simp; have := HN.out; omega
              · rw [HE.out, entsC_append]
                have e9 : entsC ((x, y, z) :: l.drop p) = [.int .i64 x, .int .i64 y, .int .i64 z] ++ entsC (l.drop p) := rfl
                rw [e9, ← List.append_assoc]
                exact hfin))
    · obtain rfl : p = n := by omega
      have HE : Hid (putE (x, y, z) l = l.take p ++ (x, y, z) :: l.drop p) := Lib.hid (by
        rw [putE_at (X := (x, y, z)) (by have := HN.out; omega) HP.out (fun h => by have := HN.out; omega)]
        rw [if_neg (by rw [List.getElem?_eq_none (by have := HN.out; omega)]; simp)])
      clear HP hone hp hpn
      go_wp2
      go_quiet (fail)
      go_wp2
      go_quiet (fail)
      go_wp2_with fail
      generalize hW : World.drewN _ _ = wz
      have Bz : Below w1.heap.size w1 wz := by rw [← hW]; first | exact below_drewN' (below_drewN' Bw _) _ | exact below_drewN' Bw _
      clear hW Bw b1 b2 b3
      have HOz := Lib.hid (HO.out wz Bz)
      have HG := Lib.hid (show ∀ w', Below wz.heap.size wz w' → w'.cell? ⟨gx, 0, none⟩ = some (.int .i64 x) ∧ w'.cell? ⟨gx, 1, none⟩ = some (.int .i64 y) ∧ w'.cell? ⟨gx, 2, none⟩ = some (.int .i64 z) from fun w' h => HX.out w' (Bz.trans (h.mono Bz.size)))
      obtain ⟨b1, b2, b3⟩ := HG.out wz (Below.refl _ _)
      have hbz : wz.heap.size ≤ wz.heap.size := Nat.le_refl _
      have hbel : Below wz.heap.size wz wz := Below.refl _ _
      have HTs := Lib.hid (show CellsAt wz (some ⟨g, 0, none⟩) (entsC (l.take p)) by rw [← entsC_take]; exact HOz.out.at_.upTo (p * 3))
      have HL1 := Lib.hid (show (entsC (l.take p)).length = p * 3 by rw [entsC_len, List.length_take, Nat.min_eq_left (by have := HN.out; omega)])
      have i1 : (0 : Int) ≤ (p : Int) := by omega
      have i2 : (p : Int) ≤ (c : Int) := by omega
      have i3 : (p : Int) ≤ (p : Int) := by omega
      have i4 : p ≤ c := by omega
      go_region_held3 (fun w' => w'.cell? ⟨gx, 0, none⟩ = some (.int .i64 x) ∧ w'.cell? ⟨gx, 1, none⟩ = some (.int .i64 y) ∧ w'.cell? ⟨gx, 2, none⟩ = some (.int .i64 z))
        (first | exact g3 | (refine HG.out _ ?_; first | exact hbel.trans (hs5.below.mono hbz) | exact hbel.trans (hs4.below.mono hbz) | (refine hbel.trans ?_; refine Below.mono ?_ hbz; (repeat (first | exact hs3.below | refine Below.drew ?_ | refine Below.alloc ?_ (by first | exact hs3.base | omega | (simp; omega)) _)); done) | ((repeat (first | exact hbel | refine Below.drew ?_ | refine Below.alloc ?_ (by first | exact Nat.le_refl _ | omega | (simp; done) | (simp; omega)) _)); done)))
        ((first
          | (refine step_append_to wz wz.heap.size (some ⟨wz.heap.size, 0, none⟩) 0 0 [] (some ⟨g, 0, none⟩) p c (entsC (l.take p)) p (entsC (l.take p)) (by omega) (by simp) rfl (.tmp 33) (.tmp 36) 24 (by rfl) (by rfl) (by rfl) Try.ulE5 Try.infoE5 rfl (by decide) (by exact HL1.out) (entsC_one _) (by unfold maxLen; omega) (by omega) (by repeat (first | exact One.empty _ _ _ | exact One.second _ _ _ _ | refine One.drew ?_ | refine One.alloc ?_ _)) (by repeat (first | exact HTs.out | refine CellsAt.drewW ?_ | refine CellsAt.allocW ?_ _)) ?_; intro as3 cs3 ws3 hs3 gs3)
          | (refine step_append_to wz wz.heap.size (some ⟨wz.heap.size + 1, 0, none⟩) 0 0 [] (some ⟨g, 0, none⟩) p c (entsC (l.take p)) p (entsC (l.take p)) (by omega) (by simp) rfl (.tmp 33) (.tmp 36) 24 (by rfl) (by rfl) (by rfl) Try.ulE5 Try.infoE5 rfl (by decide) (by exact HL1.out) (entsC_one _) (by unfold maxLen; omega) (by omega) (by repeat (first | exact One.empty _ _ _ | exact One.second _ _ _ _ | refine One.drew ?_ | refine One.alloc ?_ _)) (by repeat (first | exact HTs.out | refine CellsAt.drewW ?_ | refine CellsAt.allocW ?_ _)) ?_; intro as3 cs3 ws3 hs3 gs3)
          | (refine step_append_to wz wz.heap.size as3 p cs3 (entsC (l.take p)) (some ⟨ws3.heap.size, 0, none⟩) 1 1 [.int .i64 x, .int .i64 y, .int .i64 z] (p + 1) (entsC (l.take p) ++ [.int .i64 x, .int .i64 y, .int .i64 z]) (by omega) (by rfl) rfl (.tmp 37) (.tmp 39) 24 (by rfl) (by rfl) (by rfl) Try.ulE5 Try.infoE5 rfl (by decide) (by rfl) (by simp [Value.oneCell']) (by unfold maxLen; omega) (by omega) (by repeat (first | exact hs3 | refine One.drew ?_ | refine One.alloc ?_ _)) (by repeat (first | exact cellsAt_rec3 _ _ _ _ _ _ rfl | refine CellsAt.drewW ?_ | refine CellsAt.allocW ?_ _)) ?_; intro as4 cs4 ws4 hs4 gs4)
          | (refine step_append_to wz wz.heap.size as3 p cs3 (entsC (l.take p)) (some ⟨wz.heap.size + 1, 0, none⟩) 1 1 [.int .i64 x, .int .i64 y, .int .i64 z] (p + 1) (entsC (l.take p) ++ [.int .i64 x, .int .i64 y, .int .i64 z]) (by omega) (by rfl) rfl (.tmp 37) (.tmp 39) 24 (by rfl) (by rfl) (by rfl) Try.ulE5 Try.infoE5 rfl (by decide) (by rfl) (by simp [Value.oneCell']) (by unfold maxLen; omega) (by omega) (by repeat (first | exact hs3 | refine One.drew ?_ | refine One.alloc ?_ _)) (by repeat (first | exact cellsAt_lit _ _ _ _ (by simp) | exact cellsAt_rec3 _ _ _ _ _ _ (by first | rfl | simp) | refine CellsAt.drewW ?_ | refine CellsAt.allocW ?_ _ | (refine CellsAt.grown ?_ gs3 ?_) | (intro b o hh; simp at hh; simp [Value.ownBlock]; omega))) ?_; intro as4 cs4 ws4 hs4 gs4)
          | (refine step_append_to wz wz.heap.size as3 p cs3 (entsC (l.take p)) (some ⟨wz.heap.size, 0, none⟩) 1 1 [.int .i64 x, .int .i64 y, .int .i64 z] (p + 1) (entsC (l.take p) ++ [.int .i64 x, .int .i64 y, .int .i64 z]) (by omega) (by rfl) rfl (.tmp 37) (.tmp 39) 24 (by rfl) (by rfl) (by rfl) Try.ulE5 Try.infoE5 rfl (by decide) (by rfl) (by simp [Value.oneCell']) (by unfold maxLen; omega) (by omega) (by repeat (first | exact hs3 | refine One.drew ?_ | refine One.alloc ?_ _)) (by repeat (first | exact cellsAt_lit _ _ _ _ (by simp) | exact cellsAt_rec3 _ _ _ _ _ _ (by first | rfl | simp) | refine CellsAt.drewW ?_ | refine CellsAt.allocW ?_ _ | (refine CellsAt.grown ?_ gs3 ?_) | (intro b o hh; simp at hh; simp [Value.ownBlock]; omega))) ?_; intro as4 cs4 ws4 hs4 gs4)
          | (refine step_append_to wz wz.heap.size as4 (p + 1) cs4 (entsC (l.take p) ++ [.int .i64 x, .int .i64 y, .int .i64 z]) _ 0 _ (entsC []) (p + 1 + 0) (entsC (l.take p) ++ [.int .i64 x, .int .i64 y, .int .i64 z] ++ entsC []) (by omega) (by simp) rfl (.tmp 40) (.tmp 43) 24 (by rfl) (by rfl) (by rfl) Try.ulE5 Try.infoE5 rfl (by decide) (by rfl) (entsC_one _) (by unfold maxLen; omega) (by omega) (by repeat (first | exact hs4 | refine One.drew ?_)) (by repeat (first | exact cellsAt_nil _ _ | refine CellsAt.drewW ?_)) ?_; intro as5 cs5 ws5 hs5 gs5)))
      all_goals go_wp2
      all_goals (
        go_ret
        obtain ⟨gs, rfl⟩ := hs5.addr (by omega)
        have hfin := hs5.under HOz.out.below HOz.out.base
        refine ⟨gs, _, _, rfl, ?_, ?_, HB0.out _ (Bz.trans (hs5.below.mono Bz.size))⟩
        · rw [HE.out]; simp; have := HN.out; omega
        · rw [HE.out, entsC_append]
          have e9 : entsC ((x, y, z) :: l.drop p) = [.int .i64 x, .int .i64 y, .int .i64 z] ++ entsC [] := by rw [List.drop_of_length_le (by have := HN.out; omega)]; rfl
          rw [e9, ← List.append_assoc]
          exact hfin)

end Go.Proofs.Ytbnagmjhdnnheaa

namespace Go.Proofs.Ytbnagmjhdnnheaa
open Go.RowKit

/-- The shelf of a text with a number. -/
def shelfL (d : Int) (M : List (Int × Int)) : List En := if d < 0 then [] else rowE (M.map fun m => (m.1, d, m.2))
theorem shelfL_not {d : Int} (h : d < 0) (M : List (Int × Int)) : shelfL d M = [] := by rw [shelfL, if_pos h]
theorem shelfL_ok {d : Int} (h : ¬ d < 0) (M : List (Int × Int)) : shelfL d M = rowE (M.map fun m => (m.1, d, m.2)) := by rw [shelfL, if_neg h]

theorem pair_at5 {w : World} {a : Option Addr} {M : List (Int × Int)} (h : CellsAt w a (pairsC M)) {i : Nat} {p x : Int} (hi : i < M.length) (hm : M[i] = (p, x)) : ∃ b o, a = some ⟨b, o, none⟩ ∧ b < w.heap.size ∧ w.cell? ⟨b, o + i * 2, none⟩ = some (.int .i64 p) ∧ w.cell? ⟨b, o + i * 2 + 1, none⟩ = some (.int .i64 x) := by
  obtain ⟨b, o, ha, hb, hc⟩ := h.pair (fun e => by rw [e] at hi; simp at hi)
  have h1 := hc i hi
  rw [hm] at h1
  exact ⟨b, o, ha, hb, h1.1, h1.2⟩

set_option maxRecDepth 4000 in
set_option maxHeartbeats 8000000 in
theorem specShelfOf_any (d : Int) (s : ByteArray) (k v : Int) (M : List (Int × Int)) (w : World) (hM : marksL s.data.toList k v = M) (hs : s.size ≤ 2097152) (hv9 : v ≤ 9223372036854775807) :
    Calls Try.prog 73 #[.int .i64 d, .string s, .int .i64 k, .int .i64 v] w fun e w' => ∃ g n c, e = .returned (.slice (some ⟨g, 0, none⟩) n c) ∧ One w w.heap.size w' 68 3 (some ⟨g, 0, none⟩) n c (entsC (shelfL d M)) := by
  by_cases hd : d < 0
  · rw [shelfL_not hd]
    go_enter Try.func73, Try.ntmps73
    go_wp2
    go_ret
    exact ⟨_, _, _, rfl, One.empty w 68 3⟩
  have hMl : M.length ≤ 2097152 := by
    rw [← hM, marksL, List.length_map]
    have h1 := chosenN_len (printsL s.data.toList k) v
    have h2 := printsN_room s.data.toList k
    have : s.data.toList.length = s.size := rfl
    unfold marksAt
    omega
  have c1 := fun w => specMarks_any s k v M w hM (by omega) hv9
  have HR := Lib.hid (shelfL_ok hd M)
  have HMl := Lib.hid hMl
  have hd2 : (0 : Int) ≤ d := by omega
  clear hM hMl hd
  go_enter Try.func73, Try.ntmps73
  go_wp2_with fail
  refine (c1 _).mono ?_
  rintro e w2 ⟨ma, mn, mc, rfl, h2⟩
  have HMN := Lib.hid (pairs_len h2.own)
  have hmn9 : mn ≤ 2097152 := by have := HMN.out; have := HMl.out; omega
  have hone0 : One w w.heap.size w2 68 3 (some ⟨w.heap.size, 0, none⟩) 0 0 (entsC (rowE ((M.take 0).map fun m => (m.1, d, m.2)))) := (One.empty w 68 3).later h2.below
  have hat0 := h2.at_
  clear h2 c1
  go_wp2
  go_loopw [9, 11] (fun o_ i_ wr => ∃ i : Nat, i ≤ mn ∧ i_ = .int .i64 i ∧ ∃ g n c, o_ = .slice (some ⟨g, 0, none⟩) n c ∧ n ≤ i ∧ One w w.heap.size wr 68 3 (some ⟨g, 0, none⟩) n c (entsC (rowE ((M.take i).map fun m => (m.1, d, m.2)))) ∧ CellsAt wr ma (pairsC M)) (fun _ i_ _ => mn - (intOf i_).toNat)
  case atStart => exact ⟨0, Nat.zero_le _, rfl, _, 0, _, rfl, Nat.le_refl _, hone0, hat0⟩
  case round =>
    clear hone0 hat0
    obtain ⟨i, hi, rfl, g, n, c, rfl, hn, hone, hat⟩ := hrel
    by_cases hlt : i < mn
    · have hiM : i < M.length := by have := HMN.out; omega
      obtain ⟨p, hp⟩ : ∃ p, M[i].1 = p := ⟨_, rfl⟩
      obtain ⟨x, hx⟩ : ∃ x, M[i].2 = x := ⟨_, rfl⟩
      have hm : M[i] = (p, x) := by rw [← hp, ← hx]
      obtain ⟨mb, mo, rfl, hmb, g1, g2⟩ := pair_at5 hat hiM hm
      obtain ⟨L, hL⟩ : ∃ L, rowE ((M.take i).map fun m => (m.1, d, m.2)) = L := ⟨_, rfl⟩
      have hnx : rowE ((M.take (i + 1)).map fun m => (m.1, d, m.2)) = putE (p, d, x) L := by
        rw [List.take_succ_eq_append_getElem hiM, List.map_append, hm, ← hL, putE_snoc]; rfl
      rw [hL] at hone
      have hlen := ents_len hone.own
      have c2 := fun w' h => specPut5_any L p d x g n c w.heap.size w w' hlen (by omega) h
      have HNX := Lib.hid hnx
      have HL2 := Lib.hid (show (putE (p, d, x) L).length ≤ i + 1 by have h := putE_len (p, d, x) L; omega)
      have HKS := Lib.hid (show ∀ w', Below wr.heap.size wr w' → w'.cell? ⟨mb, mo + i * 2, none⟩ = some (.int .i64 p) ∧ w'.cell? ⟨mb, mo + i * 2 + 1, none⟩ = some (.int .i64 x) from fun w' h => ⟨below_ents h hmb g1, below_ents h hmb g2⟩)
      have z1 : (i : Int) < (mn : Int) := by omega
      have z2 : (0 : Int) ≤ (i : Int) := by omega
      clear hp hx hm hL hnx hlen
      go_wp2
      go_region_held3 (fun w' => w'.cell? ⟨mb, mo + i * 2, none⟩ = some (.int .i64 p) ∧ w'.cell? ⟨mb, mo + i * 2 + 1, none⟩ = some (.int .i64 x)) (first | go_keep | exact HKS.out _ (Below.trans (by repeat (first | exact Below.refl _ _ | refine Below.drew ?_ | refine below_drewN' ?_ _)) (hb5.mono (by simp))))
        ((go_at_call 97; refine (c2 _ (by repeat (first | exact hone | refine One.drew ?_ | exact One.drewN hone _))).mono ?_; rintro e w5 ⟨g', n', c', rfl, hn', hone5, hb5⟩; have HN5 := Lib.hid hn'; clear hn'))
      have W5 : Below wr.heap.size wr w5 := (Below.trans (by repeat (first | exact Below.refl _ _ | refine Below.drew ?_ | refine below_drewN' ?_ _)) (hb5.mono (by simp)))
      have hat5 := hat.below W5
      have hn5 : n' ≤ i + 1 := by rw [HN5.out]; exact HL2.out
      clear hb5 W5
      go_wp2
      go_roundw
      case rel => exact ⟨i + 1, by omega, by go_num, g', n', c', rfl, hn5, by rw [HNX.out]; exact hone5, hat5⟩
      case measure => simp [intOf]; omega
    · have HO := Lib.hid (show One w w.heap.size wr 68 3 (some ⟨g, 0, none⟩) n c (entsC (shelfL d M)) by
        have h := hone
        rw [List.take_of_length_le (by have := HMN.out; omega)] at h
        rw [HR.out]
        exact h)
      clear hone hat
      go_wp2
      go_ret
      exact ⟨_, _, _, rfl, HO.out⟩

end Go.Proofs.Ytbnagmjhdnnheaa

namespace Go.Proofs.Ytbnagmjhdnnheaa
open Go.RowKit

/-- Such rows as the model holds them. -/
def fdC (x : Fd) : List Value := [.int .i64 x.1, .int .i64 x.2.1, .int .i64 x.2.2.1, .int .i64 x.2.2.2]
def fdsC (l : List Fd) : List Value := l.flatMap fdC
theorem fdC_len (x : Fd) : (fdC x).length = 4 := rfl
theorem fdsC_len (l : List Fd) : (fdsC l).length = l.length * 4 := flat_len fdC 4 fdC_len l
theorem fdsC_append (l m : List Fd) : fdsC (l ++ m) = fdsC l ++ fdsC m := by simp [fdsC]
theorem fdsC_one (l : List Fd) : ∀ u ∈ fdsC l, u.oneCell' = true := by
  intro u hu
  simp only [fdsC, List.mem_flatMap, fdC] at hu
  obtain ⟨x, _, hx⟩ := hu
  simp only [List.mem_cons, List.not_mem_nil, or_false] at hx
  rcases hx with rfl | rfl | rfl | rfl <;> rfl
theorem fdsC_snoc (l : List Fd) (x : Fd) : fdsC (l ++ [x]) = fdsC l ++ [.int .i64 x.1, .int .i64 x.2.1, .int .i64 x.2.2.1, .int .i64 x.2.2.2] := by rw [fdsC_append]; rfl
theorem fdsC_take (l : List Fd) (k : Nat) : (fdsC l).take (k * 4) = fdsC (l.take k) := by
  induction l generalizing k with
  | nil => simp [fdsC]
  | cons x l ih =>
    cases k with
    | zero => simp [fdsC]
    | succ k =>
      rw [List.take_succ_cons]
      show (fdC x ++ fdsC l).take ((k + 1) * 4) = fdC x ++ fdsC (l.take k)
      rw [List.take_append, fdC_len, show (k + 1) * 4 - 4 = k * 4 by omega, ih, List.take_of_length_le (by rw [fdC_len]; omega)]
theorem fdsC_drop (l : List Fd) (k : Nat) : (fdsC l).drop (k * 4) = fdsC (l.drop k) := by
  induction l generalizing k with
  | nil => simp [fdsC]
  | cons x l ih =>
    cases k with
    | zero => simp
    | succ k =>
      rw [List.drop_succ_cons]
      show (fdC x ++ fdsC l).drop ((k + 1) * 4) = fdsC (l.drop k)
      rw [List.drop_append, fdC_len, show (k + 1) * 4 - 4 = k * 4 by omega, ih, List.drop_of_length_le (by rw [fdC_len]; omega)]
      rfl

theorem CellsAt.fd {w : World} {a : Option Addr} {l : List Fd} (h : CellsAt w a (fdsC l)) (hne : l ≠ []) : ∃ b o, a = some ⟨b, o, none⟩ ∧ b < w.heap.size ∧
    ∀ k (hk : k < l.length), w.cell? ⟨b, o + k * 4, none⟩ = some (.int .i64 l[k].1) ∧ w.cell? ⟨b, o + k * 4 + 1, none⟩ = some (.int .i64 l[k].2.1) ∧ w.cell? ⟨b, o + k * 4 + 2, none⟩ = some (.int .i64 l[k].2.2.1) ∧ w.cell? ⟨b, o + k * 4 + 3, none⟩ = some (.int .i64 l[k].2.2.2) := by
  obtain ⟨b, o, ha, hb, hc⟩ := h.spot (fun e => by have := congrArg List.length e; rw [fdsC_len] at this; simp at this; exact hne (List.length_eq_zero_iff.1 (by omega)))
  refine ⟨b, o, ha, hb, fun k hk => ⟨?_, ?_, ?_, ?_⟩⟩
  · have := hc (k * 4 + 0) (.int .i64 l[k].1) (by rw [fdsC, flat_get fdC 4 fdC_len l k 0 hk (by omega)]; rfl)
    simpa using this
  · have := hc (k * 4 + 1) (.int .i64 l[k].2.1) (by rw [fdsC, flat_get fdC 4 fdC_len l k 1 hk (by omega)]; rfl)
    rwa [← Nat.add_assoc] at this
  · have := hc (k * 4 + 2) (.int .i64 l[k].2.2.1) (by rw [fdsC, flat_get fdC 4 fdC_len l k 2 hk (by omega)]; rfl)
    rwa [← Nat.add_assoc] at this
  · have := hc (k * 4 + 3) (.int .i64 l[k].2.2.2) (by rw [fdsC, flat_get fdC 4 fdC_len l k 3 hk (by omega)]; rfl)
    rwa [← Nat.add_assoc] at this
theorem fd_cells {w : World} {a : Option Addr} {l : List Fd} (h : CellsAt w a (fdsC l)) {i : Nat} {d x y z : Int} (hi : i < l.length) (hm : l[i] = (d, x, y, z)) :
    ∃ b o, a = some ⟨b, o, none⟩ ∧ b < w.heap.size ∧ w.cell? ⟨b, o + i * 4, none⟩ = some (.int .i64 d) ∧ w.cell? ⟨b, o + i * 4 + 1, none⟩ = some (.int .i64 x) ∧ w.cell? ⟨b, o + i * 4 + 2, none⟩ = some (.int .i64 y) ∧ w.cell? ⟨b, o + i * 4 + 3, none⟩ = some (.int .i64 z) := by
  obtain ⟨b, o, ha, hb, hc⟩ := h.fd (fun e => by rw [e] at hi; simp at hi)
  have h1 := hc i hi
  rw [hm] at h1
  exact ⟨b, o, ha, hb, h1.1, h1.2.1, h1.2.2.1, h1.2.2.2⟩

theorem fds_len {w : World} {B : Nat} {e : TypeId} {a : Option Addr} {n c : Nat} {l : List Fd} (h : w.ownsRow B e 4 (.slice a n c) n (fdsC l)) : n = l.length := by
  have := h.1
  rw [fdsC_len] at this; omega

end Go.Proofs.Ytbnagmjhdnnheaa
