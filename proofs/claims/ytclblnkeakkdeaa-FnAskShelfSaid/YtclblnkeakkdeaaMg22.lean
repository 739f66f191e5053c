/-
  The contracts of the model's functions FoundBy and FalseTwins. Condition: texts have at most 2^20 bytes. (Written by wip/tools/ch8_found.py.)
-/
import Derived.Test.YtclblnkeakkdeaaMg18
import Derived.Test.YtclblnkeakkdeaaMg13
import Derived.Test.YtclblnkeakkdeaaMg15
import Derived.Test.YtclblnkeakkdeaaMg11
import Derived.Test.YtclblnkeakkdeaaMg5
namespace Go.Proofs.Ytclblnkeakkdeaa
open Go.RowKit

theorem mkL_len (s : ByteArray) (k w : Int) : (mkL s k w).length ≤ s.size := by
  rw [mkL, marksL, List.length_map]
  have h1 := chosenN_len (printsL s.data.toList k) w
  have h2 := printsN_room s.data.toList k
  have h3 : s.data.toList.length = s.size := rfl
  unfold marksAt
  omega
theorem foundTo_nil (s t : ByteArray) (k n : Int) : foundTo s t k n [] = [] := rfl
/-- What stands at a twin: the bytes are the same or not, and what grows has bytes enough or not. -/
theorem around_ways (s t : ByteArray) (K : Nat) (n : Int) (X Y : Nat) (hK : 1 ≤ K) : (¬ K ≤ runP s t X Y ∧ aroundP s t (K : Int) n X Y = none) ∨
    (∃ x y z : Int, K ≤ runP s t X Y ∧ growT s t X Y = ((x, y, z), true) ∧ n ≤ z ∧ aroundP s t (K : Int) n X Y = some (x, y, z)) ∨
    (∃ x y z : Int, K ≤ runP s t X Y ∧ growT s t X Y = ((x, y, z), true) ∧ ¬ n ≤ z ∧ aroundP s t (K : Int) n X Y = none) := by
  by_cases h : K ≤ runP s t X Y
  · have hsm : sm s t X Y := runP_same s t X Y 0 (by omega)
    have hg := growT_yes hsm
    obtain ⟨⟨x, y, z⟩, hp⟩ : ∃ p, growN s t X Y = p := ⟨_, rfl⟩
    rw [hp] at hg
    by_cases hz : n ≤ z
    · exact .inr (.inl ⟨x, y, z, h, hg, hz, by rw [aroundP, hp, Int.toNat_natCast, if_pos ⟨h, hz⟩]⟩)
    · exact .inr (.inr ⟨x, y, z, h, hg, hz, by rw [aroundP, hp, Int.toNat_natCast, if_neg (fun e => hz e.2)]⟩)
  · exact .inl ⟨h, by rw [aroundP, Int.toNat_natCast, if_neg (fun e => h e.1)]⟩

set_option maxRecDepth 4000 in
set_option maxHeartbeats 16000000 in
theorem specFound_any (s t : ByteArray) (k v n : Int) (R : List En) (w : World) (h : foundL s t k v n = R) (hs : s.size ≤ 1048576) (ht : t.size ≤ 1048576) (hv9 : v ≤ 9223372036854775807) :
    Calls Try.prog 41 #[.string s, .string t, .int .i64 k, .int .i64 v, .int .i64 n] w fun e w' => ∃ g m c, e = .returned (.slice (some ⟨g, 0, none⟩) m c) ∧ One w w.heap.size w' 61 3 (some ⟨g, 0, none⟩) m c (entsC R) := by
  subst h
  by_cases hn : n < 1
  · have HE := Lib.hid (foundL_none (s := s) (t := t) (k := k) (w := v) (.inr (.inr hn)))
    go_enter Try.func41, Try.ntmps41
    go_wp2
    go_ret
    exact ⟨_, _, _, rfl, by rw [HE.out]; exact One.empty w 61 3⟩
  · obtain ⟨A, hA⟩ : ∃ A, mkL s k v = A := ⟨_, rfl⟩
    obtain ⟨B, hB⟩ : ∃ A, mkL t k v = A := ⟨_, rfl⟩
    have HR := Lib.hid (show foundL s t k v n = rowE (foundTo s t k n (twinsL A B)) by rw [foundL, if_neg hn, hA, hB])
    have cA := fun w => specMarks_any s k v A w hA (by omega) hv9
    have cB := fun w => specMarks_any t k v B w hB (by omega) hv9
    have hAl : A.length ≤ 1048576 := by rw [← hA]; exact Nat.le_trans (mkL_len s k v) hs
    have hBl : B.length ≤ 1048576 := by rw [← hB]; exact Nat.le_trans (mkL_len t k v) ht
    have HA := Lib.hid hA
    have HB2 := Lib.hid hB
    clear hA hB
    go_enter Try.func41, Try.ntmps41
    go_wp2_with fail
    refine (cA _).mono ?_
    rintro e w1 ⟨aA, nA, dA, rfl, oA⟩
    go_wp2_with fail
    refine (cB _).mono ?_
    rintro e w2 ⟨aB, nB, dB, rfl, oB⟩
    have cT := specTwins_any A B aA nA dA aB nB dB w2 (pairs_len oA.own) (pairs_len oB.own) (by have := pairs_len oA.own; omega) (by have := pairs_len oB.own; omega) (oA.later oB.below).at_ oB.at_
    go_wp2_with fail
    refine cT.mono ?_
    rintro e w3 ⟨aT, nT, dT, rfl, oT⟩
    obtain ⟨T, hT⟩ : ∃ T, twinsL A B = T := ⟨_, rfl⟩
    rw [hT] at oT
    have HT := Lib.hid oT.at_
    have HNT := Lib.hid (pairs_len oT.own)
    have HTE := Lib.hid hT
    have hnT : nT ≤ 1099511627776 := by
      have h1 := pairs_len oT.own
      have h2 := twinsL_len A B 1048576 hBl
      have h3 : A.length * 1048576 ≤ 1048576 * 1048576 := Nat.mul_le_mul hAl (Nat.le_refl _)
      rw [hT] at h2
      omega
    have HO := Lib.hid ((((One.empty w 61 3).later oA.below).later oB.below).later oT.below)
    clear cA cB cT oA oB oT hT
    go_wp2
    go_loopw [11, 13] (fun u i_ wr => ∃ (i g m c : Nat), i ≤ nT ∧ i_ = .int .i64 (i : Int) ∧ u = .slice (some ⟨g, 0, none⟩) m c ∧ Hid (m = (rowE (foundTo s t k n (T.take i))).length) ∧ Hid (One w w.heap.size wr 61 3 (some ⟨g, 0, none⟩) m c (entsC (rowE (foundTo s t k n (T.take i))))) ∧ Hid (Below w3.heap.size w3 wr)) (fun _ i_ _ => nT - (intOf i_).toNat)
    case atStart => exact ⟨0, _, _, _, Nat.zero_le _, rfl, rfl, Lib.hid rfl, HO, Lib.hid (Below.refl _ _)⟩
    case round =>
      clear HO
      obtain ⟨i, g, m, c, hi, rfl, rfl, HLEN, HO, HB⟩ := hrel
      by_cases hlt : i < nT
      · have hil : i < T.length := by have := HNT.out; omega
        have hmem : T[i] ∈ twinsL (mkL s k v) (mkL t k v) := by rw [HA.out, HB2.out, HTE.out]; exact List.getElem_mem hil
        obtain ⟨X, Y, K, rfl, hk1, hxy, hX, hY, _⟩ := twin_in hmem
        obtain ⟨b, o, rfl, hb9, hc⟩ := (HT.out.below HB.out).pair (fun e => by rw [e] at hil; simp at hil)
        obtain ⟨e1, e2⟩ := hc i hil
        rw [hxy] at e1 e2
        have z1 : (i : Int) < (nT : Int) := by omega
        have z0 : (0 : Int) ≤ (i : Int) := by omega
        have hways := around_ways s t K n X Y hk1
        obtain ⟨P, hP⟩ : ∃ P, s.extract X (X + K) = P := ⟨_, rfl⟩
        obtain ⟨Q, hQ⟩ : ∃ P, t.extract Y (Y + K) = P := ⟨_, rfl⟩
        have hPQ : P = Q ↔ K ≤ runP s t X Y := by rw [← hP, ← hQ]; exact extract_same hX hY
        have sl1 : ∀ w, (Instr.slice 9 (.string s) (some (.int .i64 (X : Int))) (some (.int .i64 ((X : Int) + (K : Int)))) none).run Try.prog w = .ok (.string P) w := fun w => by
          have h1 := run_slice_string (P := Try.prog) w 9 s .i64 .i64 (X : Int) ((X : Int) + (K : Int)) Try.uls7 (by omega) (by omega) (by omega)
          rwa [Int.toNat_natCast, show ((X : Int) + (K : Int)).toNat = X + K by omega, hP] at h1
        have sl2 : ∀ w, (Instr.slice 9 (.string t) (some (.int .i64 (Y : Int))) (some (.int .i64 ((Y : Int) + (K : Int)))) none).run Try.prog w = .ok (.string Q) w := fun w => by
          have h1 := run_slice_string (P := Try.prog) w 9 t .i64 .i64 (Y : Int) ((Y : Int) + (K : Int)) Try.uls7 (by omega) (by omega) (by omega)
          rwa [Int.toNat_natCast, show ((Y : Int) + (K : Int)).toNat = Y + K by omega, hQ] at h1
        have v1 : IntKind.i64.wrap ((X : Int) + (K : Int)) = (X : Int) + (K : Int) := IntWalk.i64_in _ (by omega)
        have v2 : IntKind.i64.wrap ((Y : Int) + (K : Int)) = (Y : Int) + (K : Int) := IntWalk.i64_in _ (by omega)
        have ha := (Below.refl wr.heap.size wr).alloc (Nat.le_refl _) (.cells #[.int .i64 (X : Int), .int .i64 (Y : Int)] 101)
        have S5 := Side.fresh (w := wr) (B := 0) (v := .slice none 0 0) 101 [.int .i64 (X : Int), .int .i64 (Y : Int)] (Nat.zero_le _) (by intro k hk; simp [Value.ownBlock] at hk)
        have hm9 : m ≤ 1099511627776 := by
          have h1 := rowE_len (foundTo s t (K : Int) n (T.take i))
          have h2 := foundTo_len s t (K : Int) n (T.take i)
          rw [List.length_take] at h2
          have := HLEN.out
          omega
        have hone := HO.out.later ha
        have hbb := Lib.hid (HB.out.trans (ha.mono HB.out.size))
        clear hP hQ hmem hc
        rcases hways with ⟨hno, hap⟩ | ⟨x, y, z, hok, hg, hz, hap⟩ | ⟨x, y, z, hok, hg, hz, hap⟩
        · have hb : (P.toList == Q.toList) = false := eq7_no (fun e => hno (hPQ.1 e))
          have HNX := Lib.hid (foundTo_no (n := n) hil (by rw [hxy, Int.toNat_natCast, Int.toNat_natCast]; exact hap))
          have HONE := Lib.hid hone
          clear hno hap hPQ hxy hil HO HB
          go_wp2
          obtain ⟨w5, hw5⟩ : ∃ w9, wr.alloc (.cells #[.int .i64 (X : Int), .int .i64 (Y : Int)] 101) = w9 := ⟨_, rfl⟩
          obtain ⟨gt, hgt⟩ : ∃ g, wr.heap.size = g := ⟨_, rfl⟩
          rw [hw5] at ha S5 hbb HONE
          rw [hgt] at S5
          rw [hw5, hgt]
          have ha := Lib.hid ha
          clear hw5 hgt
          have k0 := S5.cell 0 _ rfl
          have k1 := S5.cell 1 _ rfl
          go_quiet (fail)
          go_wp2
          go_roundw
          case rel => exact ⟨i + 1, g, m, c, by omega, by go_num, rfl, Lib.hid (by rw [HNX.out]; exact HLEN.out), Lib.hid (by rw [HNX.out]; exact HONE.out.drewN _), Lib.hid (below_drewN' hbb.out _)⟩
          case measure => simp [intOf]; omega
        · obtain rfl : P = Q := hPQ.2 hok
          have cg := fun w => specGrow_any s t X Y x y z true w hg (by omega) (by omega)
          have HNX := Lib.hid (foundTo_yes (n := n) hil (by rw [hxy, Int.toNat_natCast, Int.toNat_natCast]; exact hap))
          have HONE := Lib.hid hone
          clear hok hap hPQ hxy hil HO HB hg
          go_wp2
          obtain ⟨w5, hw5⟩ : ∃ w9, wr.alloc (.cells #[.int .i64 (X : Int), .int .i64 (Y : Int)] 101) = w9 := ⟨_, rfl⟩
          obtain ⟨gt, hgt⟩ : ∃ g, wr.heap.size = g := ⟨_, rfl⟩
          rw [hw5] at ha S5 hbb HONE
          rw [hgt] at S5
          rw [hw5, hgt]
          have ha := Lib.hid ha
          clear hw5 hgt
          have k0 := S5.cell 0 _ rfl
          have k1 := S5.cell 1 _ rfl
          go_quiet (fail)
          have HONE := Lib.hid (HONE.out.drewN nq)
          have hbb := Lib.hid (below_drewN' hbb.out nq)
          have S6 := S5.drewN nq
          clear k0 k1 S5
          generalize w5.drewN nq = w6 at HONE hbb S6 ⊢
          have k0 := S6.cell 0 _ rfl
          have k1 := S6.cell 1 _ rfl
          clear S6
          go_wp2_with fail
          refine (cg _).mono ?_
          rintro e w7 ⟨rfl, b7⟩
          have hb7 := (Below.refl w7.heap.size w7).alloc (Nat.le_refl _) (.cells #[.int .i64 x, .int .i64 y, .int .i64 z] 61)
          have HONE := Lib.hid ((HONE.out.later b7).later hb7)
          have hbb := Lib.hid ((hbb.out.trans (b7.mono hbb.out.size)).trans (hb7.mono (Nat.le_trans hbb.out.size b7.size)))
          clear b7 hb7 k0 k1 cg
          obtain ⟨L, hL⟩ : ∃ L, rowE (foundTo s t (K : Int) n (T.take i)) = L := ⟨_, rfl⟩
          have HNX := Lib.hid (show putE (x, y, z) L = rowE (foundTo s t (K : Int) n (T.take (i + 1))) by rw [HNX.out, ← hL, putE_snoc])
          rw [hL] at HLEN HONE
          clear hL
          have cp := specPut7_any L x y z g m c w.heap.size w _ HLEN.out (by omega) HONE.out
          have hz2 : decide (n ≤ z) = true := decide_eq_true hz
          go_wp2_with fail
          refine cp.mono ?_
          rintro e w8 ⟨g8, n8, c8, rfl, hn8, o8, b8⟩
          have HN8 := Lib.hid hn8
          clear hn8 cp
          go_wp2
          go_roundw
          case rel => exact ⟨i + 1, g8, n8, c8, by omega, by go_num, rfl, Lib.hid (by rw [← HNX.out]; exact HN8.out), Lib.hid (by rw [← HNX.out]; exact o8), Lib.hid (hbb.out.trans (b8.mono hbb.out.size))⟩
          case measure => simp [intOf]; omega
        · obtain rfl : P = Q := hPQ.2 hok
          have cg := fun w => specGrow_any s t X Y x y z true w hg (by omega) (by omega)
          have HNX := Lib.hid (foundTo_no (n := n) hil (by rw [hxy, Int.toNat_natCast, Int.toNat_natCast]; exact hap))
          have HONE := Lib.hid hone
          clear hok hap hPQ hxy hil HO HB hg
          go_wp2
          obtain ⟨w5, hw5⟩ : ∃ w9, wr.alloc (.cells #[.int .i64 (X : Int), .int .i64 (Y : Int)] 101) = w9 := ⟨_, rfl⟩
          obtain ⟨gt, hgt⟩ : ∃ g, wr.heap.size = g := ⟨_, rfl⟩
          rw [hw5] at ha S5 hbb HONE
          rw [hgt] at S5
          rw [hw5, hgt]
          have ha := Lib.hid ha
          clear hw5 hgt
          have k0 := S5.cell 0 _ rfl
          have k1 := S5.cell 1 _ rfl
          go_quiet (fail)
          have HONE := Lib.hid (HONE.out.drewN nq)
          have hbb := Lib.hid (below_drewN' hbb.out nq)
          have S6 := S5.drewN nq
          clear k0 k1 S5
          generalize w5.drewN nq = w6 at HONE hbb S6 ⊢
          have k0 := S6.cell 0 _ rfl
          have k1 := S6.cell 1 _ rfl
          clear S6
          go_wp2_with fail
          refine (cg _).mono ?_
          rintro e w7 ⟨rfl, b7⟩
          have hb7 := (Below.refl w7.heap.size w7).alloc (Nat.le_refl _) (.cells #[.int .i64 x, .int .i64 y, .int .i64 z] 61)
          have HONE := Lib.hid ((HONE.out.later b7).later hb7)
          have hbb := Lib.hid ((hbb.out.trans (b7.mono hbb.out.size)).trans (hb7.mono (Nat.le_trans hbb.out.size b7.size)))
          clear b7 hb7 k0 k1 cg
          have hz2 : decide (n ≤ z) = false := decide_eq_false (by omega)
          go_wp2
          go_roundw
          case rel => exact ⟨i + 1, g, m, c, by omega, by go_num, rfl, Lib.hid (by rw [HNX.out]; exact HLEN.out), Lib.hid (by rw [HNX.out]; exact HONE.out), hbb⟩
          case measure => simp [intOf]; omega
      · have z1 : ¬ (i : Int) < (nT : Int) := by omega
        have HE := Lib.hid (show T.take i = T from List.take_of_length_le (by have := HNT.out; omega))
        go_wp2
        go_ret
        exact ⟨_, _, _, rfl, by rw [HR.out, HTE.out]; have h := HO.out; rw [HE.out] at h; exact h⟩

set_option maxRecDepth 4000 in
set_option maxHeartbeats 16000000 in
theorem specFalse_any (s t : ByteArray) (k v : Int) (w : World) (hs : s.size ≤ 1048576) (ht : t.size ≤ 1048576) (hv9 : v ≤ 9223372036854775807) :
    Calls Try.prog 46 #[.string s, .string t, .int .i64 k, .int .i64 v] w fun e w' => e = .returned (.int .i64 ((falseN s t k v : Nat) : Int)) ∧ Below w.heap.size w w' := by
  obtain ⟨A, hA⟩ : ∃ A, mkL s k v = A := ⟨_, rfl⟩
  obtain ⟨B, hB⟩ : ∃ A, mkL t k v = A := ⟨_, rfl⟩
  have HR := Lib.hid (show falseN s t k v = falseTo s t k (twinsL A B) by rw [falseN, hA, hB])
  have cA := fun w => specMarks_any s k v A w hA (by omega) hv9
  have cB := fun w => specMarks_any t k v B w hB (by omega) hv9
  have hAl : A.length ≤ 1048576 := by rw [← hA]; exact Nat.le_trans (mkL_len s k v) hs
  have hBl : B.length ≤ 1048576 := by rw [← hB]; exact Nat.le_trans (mkL_len t k v) ht
  have HA := Lib.hid hA
  have HB2 := Lib.hid hB
  clear hA hB
  go_enter Try.func46, Try.ntmps46
  go_wp2_with fail
  refine (cA _).mono ?_
  rintro e w1 ⟨aA, nA, dA, rfl, oA⟩
  go_wp2_with fail
  refine (cB _).mono ?_
  rintro e w2 ⟨aB, nB, dB, rfl, oB⟩
  have cT := specTwins_any A B aA nA dA aB nB dB w2 (pairs_len oA.own) (pairs_len oB.own) (by have := pairs_len oA.own; omega) (by have := pairs_len oB.own; omega) (oA.later oB.below).at_ oB.at_
  go_wp2_with fail
  refine cT.mono ?_
  rintro e w3 ⟨aT, nT, dT, rfl, oT⟩
  obtain ⟨T, hT⟩ : ∃ T, twinsL A B = T := ⟨_, rfl⟩
  rw [hT] at oT
  have HT := Lib.hid oT.at_
  have HNT := Lib.hid (pairs_len oT.own)
  have HTE := Lib.hid hT
  have hnT : nT ≤ 1099511627776 := by
    have h1 := pairs_len oT.own
    have h2 := twinsL_len A B 1048576 hBl
    have h3 : A.length * 1048576 ≤ 1048576 * 1048576 := Nat.mul_le_mul hAl (Nat.le_refl _)
    rw [hT] at h2
    omega
  have B3 := Lib.hid (show Below w.heap.size w w3 from (oA.below.trans (oB.below.mono oA.below.size)).trans (oT.below.mono (Nat.le_trans oA.below.size oB.below.size)))
  clear cA cB cT oA oB oT hT
  go_wp2
  go_loopw [9, 11] (fun u i_ wr => ∃ (i c : Nat), i ≤ nT ∧ c ≤ i ∧ i_ = .int .i64 (i : Int) ∧ u = .int .i64 (c : Int) ∧ Hid (c = falseTo s t k (T.take i)) ∧ Hid (Below w3.heap.size w3 wr)) (fun _ i_ _ => nT - (intOf i_).toNat)
  case atStart => exact ⟨0, 0, Nat.zero_le _, Nat.le_refl _, rfl, rfl, Lib.hid rfl, Lib.hid (Below.refl _ _)⟩
  case round =>
    obtain ⟨i, c, hi, hci, rfl, rfl, HC, HB⟩ := hrel
    by_cases hlt : i < nT
    · have hil : i < T.length := by have := HNT.out; omega
      have hmem : T[i] ∈ twinsL (mkL s k v) (mkL t k v) := by rw [HA.out, HB2.out, HTE.out]; exact List.getElem_mem hil
      obtain ⟨X, Y, K, rfl, hk1, hxy, hX, hY, _⟩ := twin_in hmem
      obtain ⟨b, o, rfl, hb9, hc⟩ := (HT.out.below HB.out).pair (fun e => by rw [e] at hil; simp at hil)
      obtain ⟨e1, e2⟩ := hc i hil
      rw [hxy] at e1 e2
      have z1 : (i : Int) < (nT : Int) := by omega
      have z0 : (0 : Int) ≤ (i : Int) := by omega
      obtain ⟨P, hP⟩ : ∃ P, s.extract X (X + K) = P := ⟨_, rfl⟩
      obtain ⟨Q, hQ⟩ : ∃ P, t.extract Y (Y + K) = P := ⟨_, rfl⟩
      have hPQ : P = Q ↔ K ≤ runP s t X Y := by rw [← hP, ← hQ]; exact extract_same hX hY
      have sl1 : ∀ w, (Instr.slice 9 (.string s) (some (.int .i64 (X : Int))) (some (.int .i64 ((X : Int) + (K : Int)))) none).run Try.prog w = .ok (.string P) w := fun w => by
        have h1 := run_slice_string (P := Try.prog) w 9 s .i64 .i64 (X : Int) ((X : Int) + (K : Int)) Try.uls7 (by omega) (by omega) (by omega)
        rwa [Int.toNat_natCast, show ((X : Int) + (K : Int)).toNat = X + K by omega, hP] at h1
      have sl2 : ∀ w, (Instr.slice 9 (.string t) (some (.int .i64 (Y : Int))) (some (.int .i64 ((Y : Int) + (K : Int)))) none).run Try.prog w = .ok (.string Q) w := fun w => by
        have h1 := run_slice_string (P := Try.prog) w 9 t .i64 .i64 (Y : Int) ((Y : Int) + (K : Int)) Try.uls7 (by omega) (by omega) (by omega)
        rwa [Int.toNat_natCast, show ((Y : Int) + (K : Int)).toNat = Y + K by omega, hQ] at h1
      have v1 : IntKind.i64.wrap ((X : Int) + (K : Int)) = (X : Int) + (K : Int) := IntWalk.i64_in _ (by omega)
      have v2 : IntKind.i64.wrap ((Y : Int) + (K : Int)) = (Y : Int) + (K : Int) := IntWalk.i64_in _ (by omega)
      have ha := (Below.refl wr.heap.size wr).alloc (Nat.le_refl _) (.cells #[.int .i64 (X : Int), .int .i64 (Y : Int)] 101)
      have S5 := Side.fresh (w := wr) (B := 0) (v := .slice none 0 0) 101 [.int .i64 (X : Int), .int .i64 (Y : Int)] (Nat.zero_le _) (by intro k hk; simp [Value.ownBlock] at hk)
      have hbb := Lib.hid (HB.out.trans (ha.mono HB.out.size))
      clear hP hQ hmem hc
      by_cases hok : K ≤ runP s t X Y
      · obtain rfl : P = Q := hPQ.2 hok
        have HNX := Lib.hid (falseTo_no (s := s) (t := t) (k := (K : Int)) hil (by rw [hxy]; simpa using hok))
        clear hok hPQ hxy hil HB
        go_wp2
        obtain ⟨w5, hw5⟩ : ∃ w9, wr.alloc (.cells #[.int .i64 (X : Int), .int .i64 (Y : Int)] 101) = w9 := ⟨_, rfl⟩
        obtain ⟨gt, hgt⟩ : ∃ g, wr.heap.size = g := ⟨_, rfl⟩
        rw [hw5] at ha S5 hbb
        rw [hgt] at S5
        rw [hw5, hgt]
        have ha := Lib.hid ha
        clear hw5 hgt
        have k0 := S5.cell 0 _ rfl
        have k1 := S5.cell 1 _ rfl
        go_quiet (fail)
        go_wp2
        go_roundw
        case rel => exact ⟨i + 1, c, by omega, by omega, by go_num, rfl, Lib.hid (by rw [HNX.out, ← HC.out]), Lib.hid (below_drewN' hbb.out _)⟩
        case measure => simp [intOf]; omega
      · have hb : (P.toList == Q.toList) = false := eq7_no (fun e => hok (hPQ.1 e))
        have HNX := Lib.hid (falseTo_yes (s := s) (t := t) (k := (K : Int)) hil (by rw [hxy]; simpa using hok))
        clear hok hPQ hxy hil HB
        go_wp2
        obtain ⟨w5, hw5⟩ : ∃ w9, wr.alloc (.cells #[.int .i64 (X : Int), .int .i64 (Y : Int)] 101) = w9 := ⟨_, rfl⟩
        obtain ⟨gt, hgt⟩ : ∃ g, wr.heap.size = g := ⟨_, rfl⟩
        rw [hw5] at ha S5 hbb
        rw [hgt] at S5
        rw [hw5, hgt]
        have ha := Lib.hid ha
        clear hw5 hgt
        have k0 := S5.cell 0 _ rfl
        have k1 := S5.cell 1 _ rfl
        go_quiet (fail)
        go_wp2
        go_roundw
        case rel => exact ⟨i + 1, c + 1, by omega, by omega, by go_num, by go_num, Lib.hid (by rw [HNX.out, ← HC.out]), Lib.hid (below_drewN' hbb.out _)⟩
        case measure => simp [intOf]; omega
    · have z1 : ¬ (i : Int) < (nT : Int) := by omega
      have HE := Lib.hid (show T.take i = T from List.take_of_length_le (by have := HNT.out; omega))
      go_wp2
      go_ret
      exact ⟨by rw [HR.out, HTE.out, HC.out, HE.out]; rfl, B3.out.trans (HB.out.mono B3.out.size)⟩

end Go.Proofs.Ytclblnkeakkdeaa
