/-
  The walk of the law FalseTwins: it answers true, and nothing that was there is written. No conditions. (Written by wip/tools/ch8_laws.py.)
-/
import Derived.Test.YtclblnkeakkdeaaMLawsVD
import Derived.Deep.RegionHeld3
namespace Go.Proofs.Ytclblnkeakkdeaa
open Go.RowKit

/-- Pieces of two texts at two places have one fingerprint, and are not the same. -/
def meets8 (s t : ByteArray) (K : Nat) (P Q : List Int) (i j : Nat) : Prop := ∃ p, P[i]? = some p ∧ Q[j]? = some p ∧ ¬ s.extract i (i + K) = t.extract j (j + K)
theorem eq8_no {x y : ByteArray} (h : ¬ x = y) : (x.toList == y.toList) = false := by
  rw [ByteArray.toList_eq, ByteArray.toList_eq]
  exact beq_eq_false_iff_ne.2 fun e => h (ByteArray.ext (Array.toList_inj.1 e))
theorem meets_false {s t : ByteArray} {k v : Int} {P Q : List Int} (hP : PrOf s k P) (hQ : PrOf t k Q) (h : 0 < falseN s t k v) : ∃ i j, i < P.length ∧ j < Q.length ∧ meets8 s t k.toNat P Q i j := by
  obtain ⟨i, j, K, hk, h1, h2, h3, h4, h5⟩ := falseN_meet h
  subst hk
  have hi := hP.all i (by omega) (by rw [Int.toNat_natCast]; exact h2)
  have hj := hQ.all j (by omega) (by rw [Int.toNat_natCast]; exact h3)
  have g1 := (hP.in_ i hi).2.2
  have g2 := (hQ.in_ j hj).2.2
  rw [Int.toNat_natCast] at g1 g2
  refine ⟨i, j, hi, hj, P[i], List.getElem?_eq_getElem hi, ?_, by rw [Int.toNat_natCast]; exact h5⟩
  rw [List.getElem?_eq_getElem hj, g1, g2, h4]

set_option maxRecDepth 4000 in
set_option maxHeartbeats 16000000 in
theorem walkFnFalseTwins (a : Option Addr) (len cap : Nat) (zs : List Int) (w : World) (h : IsRowK .u8 w a len cap zs) :
    Calls Try.prog 9 #[.slice a len cap] w fun e w' => e = .returned (.bool true) ∧ Below w.heap.size w w' := by
  by_cases hs : 1048576 < len
  · have h2 : (1048576 : Int) < (len : Int) := by omega
    go_enter Try.func9, Try.ntmps9
    go_wp2
    go_ret
    exact ⟨rfl, Below.refl _ _⟩
  have h2 : ¬ (1048576 : Int) < (len : Int) := by omega
  clear hs
  go_enter Try.func9, Try.ntmps9
  go_wp2_with fail
  refine (DrawFalseTwins_any _ _ _ _ _ h).mono ?_
  rintro e w0 ⟨s, t, k, v, hs, ht, hk0, hk9, hv0, hv9, rfl, BB⟩
  clear h h2
  have wk : k ≤ 9223372036854775807 := by omega
  have wv : v ≤ 9223372036854775807 := by omega
  have c1 := fun w => implFalse_w s t k v _ w rfl (by omega) (by omega) wk wv
  have c2 := fun w => specFalse_w s t k v _ w rfl (by omega) (by omega) wk wv
  have c3 := fun w => implFalse_w t s k v _ w (falseN_turn s t k v) (by omega) (by omega) wk wv
  have hle := falseN_le s t k v
  have hme := fun P Q hP hQ => meets_false (s := s) (t := t) (k := k) (v := v) (P := P) (Q := Q) hP hQ
  obtain ⟨f, hf⟩ : ∃ f, falseN s t k v = f := ⟨_, rfl⟩
  rw [hf] at c1 c2 c3 hle hme
  have HLE := Lib.hid hle
  have HME := Lib.hid hme
  clear hf hle hme hv0 hv9
  go_wp2_with fail
  refine (c1 _).mono ?_
  rintro e w1 ⟨rfl, hb⟩
  replace BB := BB.trans (hb.mono BB.size)
  clear hb
  clear c1
  go_wp2_with fail
  refine (c2 _).mono ?_
  rintro e w2 ⟨rfl, hb⟩
  replace BB := BB.trans (hb.mono BB.size)
  clear hb
  clear c2
  go_wp2_with fail
  refine (c3 _).mono ?_
  rintro e w3 ⟨rfl, hb⟩
  replace BB := BB.trans (hb.mono BB.size)
  clear hb
  clear c3
  go_wp2_with fail
  refine (implPrints_w s k _ (by omega) wk).mono ?_
  rintro e w4 ⟨P, a1, n1, d1, rfl, hP, I1, hb⟩
  replace BB := BB.trans (hb.mono BB.size)
  clear hb
  go_wp2_with fail
  refine (implPrints_w t k _ (by omega) wk).mono ?_
  rintro e w5 ⟨Q, a2, n2, d2, rfl, hQ, I2, hb⟩
  replace I1 := I1.later hb
  replace BB := BB.trans (hb.mono BB.size)
  clear hb
  have HPP := Lib.hid hP
  have HQQ := Lib.hid hQ
  have H1 := Lib.hid I1
  have H2 := Lib.hid I2
  have HBB := Lib.hid BB
  have hn1 : n1 ≤ 100 := by
    have h1 := I1.len
    rcases Nat.eq_zero_or_pos n1 with h | h
    · omega
    · have := (hP.in_ (n1 - 1) (by omega)).2.1; omega
  have hn2 : n2 ≤ 100 := by
    have h1 := I2.len
    rcases Nat.eq_zero_or_pos n2 with h | h
    · omega
    · have := (hQ.in_ (n2 - 1) (by omega)).2.1; omega
  clear hP hQ I1 I2 BB
  go_wp2
  go_loopw [10, 11] (fun in_ i_ wr => ∃ (i : Nat) (b : Bool), i ≤ n1 ∧ i_ = .int .i64 i ∧ in_ = .bool b ∧ Hid ((∃ x y, x < i ∧ y < n2 ∧ meets8 s t k.toNat P Q x y) → b = true) ∧ ∃ q, wr = w5.drewN q) (fun _ i_ _ => n1 - (intOf i_).toNat)
  case atStart => exact ⟨0, false, Nat.zero_le _, rfl, rfl, Lib.hid (by rintro ⟨x, y, h, _⟩; omega), 0, rfl⟩
  case round =>
    obtain ⟨i, b, hi, rfl, rfl, HB, q, rfl⟩ := hrel
    by_cases hlt : i < n1
    · have z1 : (i : Int) < (n1 : Int) := by omega
      have hiP : i < P.length := by have := H1.out.len; omega
      obtain ⟨hk1, hik, _⟩ := HPP.out.in_ i hiP
      obtain ⟨K, rfl⟩ : ∃ K : Nat, k = K := ⟨k.toNat, by omega⟩
      rw [Int.toNat_natCast] at hik HB
      obtain ⟨p, hp⟩ : ∃ p, P[i] = p := ⟨_, rfl⟩
      obtain ⟨b1, o1, rfl, _, hc1⟩ := H1.out.at_.spot (by intro e; have h9 := congrArg List.length e; rw [List.length_map] at h9; simp only [List.length_nil] at h9; omega)
      have g1 := hc1 i (.int .i64 p) (by simp [hiP, hp])
      have HP1 := Lib.hid (show P[i]? = some p by rw [List.getElem?_eq_getElem hiP, hp])
      clear hc1 hp
      go_wp2
      go_loopw [10, 12] (fun in_ j_ wr => ∃ (j : Nat) (b : Bool), j ≤ n2 ∧ j_ = .int .i64 j ∧ in_ = .bool b ∧ Hid (((∃ x y, x < i ∧ y < n2 ∧ meets8 s t K P Q x y) ∨ ∃ y, y < j ∧ meets8 s t K P Q i y) → b = true) ∧ ∃ q, wr = w5.drewN q) (fun _ j_ _ => n2 - (intOf j_).toNat)
      case atStart => exact ⟨0, b, Nat.zero_le _, rfl, rfl, Lib.hid (by rintro (h | ⟨y, h, _⟩); exact HB.out h; omega), _, rfl⟩
      case round =>
        clear HB
        obtain ⟨j, b, hj, rfl, rfl, HB, q2, rfl⟩ := hrel
        by_cases hjl : j < n2
        · have z2 : (j : Int) < (n2 : Int) := by omega
          have hjQ : j < Q.length := by have := H2.out.len; omega
          obtain ⟨_, hjk, _⟩ := HQQ.out.in_ j hjQ
          rw [Int.toNat_natCast] at hjk
          obtain ⟨p2, hp2⟩ : ∃ p, Q[j] = p := ⟨_, rfl⟩
          obtain ⟨b2, o2, rfl, _, hc2⟩ := H2.out.at_.spot (by intro e; have h9 := congrArg List.length e; rw [List.length_map] at h9; simp only [List.length_nil] at h9; omega)
          have g2 := hc2 j (.int .i64 p2) (by simp [hjQ, hp2])
          have HP2 := Lib.hid (show Q[j]? = some p2 by rw [List.getElem?_eq_getElem hjQ, hp2])
          obtain ⟨X, hX⟩ : ∃ X, s.extract i (i + K) = X := ⟨_, rfl⟩
          obtain ⟨Y, hY⟩ : ∃ Y, t.extract j (j + K) = Y := ⟨_, rfl⟩
          have p1 : (0 : Int) ≤ (i : Int) := by omega
          have p2' : (i : Int) ≤ (i : Int) + (K : Int) := by omega
          have p3 : (i : Int) + (K : Int) ≤ (s.size : Int) := by omega
          have p4 : (0 : Int) ≤ (j : Int) := by omega
          have p5 : (j : Int) ≤ (j : Int) + (K : Int) := by omega
          have p6 : (j : Int) + (K : Int) ≤ (t.size : Int) := by omega
          have v1 : IntKind.i64.wrap ((i : Int) + (K : Int)) = (i : Int) + (K : Int) := IntWalk.i64_in _ (by omega)
          have v2 : IntKind.i64.wrap ((j : Int) + (K : Int)) = (j : Int) + (K : Int) := IntWalk.i64_in _ (by omega)
          have sl1 : ∀ w, (Instr.slice 9 (.string s) (some (.int .i64 i)) (some (.int .i64 ((i : Int) + (K : Int)))) none).run Try.prog w = .ok (.string X) w := fun w => by
            have h := run_slice_string (P := Try.prog) w 9 s .i64 .i64 i ((i : Int) + (K : Int)) Try.uls3 (by omega) (by omega) (by omega)
            rw [Int.toNat_natCast, show ((i : Int) + (K : Int)).toNat = i + K by omega, hX] at h
            exact h
          have sl2 : ∀ w, (Instr.slice 9 (.string t) (some (.int .i64 j)) (some (.int .i64 ((j : Int) + (K : Int)))) none).run Try.prog w = .ok (.string Y) w := fun w => by
            have h := run_slice_string (P := Try.prog) w 9 t .i64 .i64 j ((j : Int) + (K : Int)) Try.uls3 (by omega) (by omega) (by omega)
            rw [Int.toNat_natCast, show ((j : Int) + (K : Int)).toNat = j + K by omega, hY] at h
            exact h
          have HNE := Lib.hid (show meets8 s t K P Q i j → p = p2 ∧ ¬ X = Y from fun ⟨p', h1, h2, h3⟩ => by
            rw [HP1.out] at h1
            rw [HP2.out] at h2
            rw [hX, hY] at h3
            exact ⟨(Option.some.inj h1).trans (Option.some.inj h2).symm, h3⟩)
          clear hc2 hp2 hX hY
          have HJ := Lib.hid (show ∀ b' : Bool, (b = true → b' = true) → (meets8 s t K P Q i j → b' = true) → (((∃ x y, x < i ∧ y < n2 ∧ meets8 s t K P Q x y) ∨ ∃ y, y < j + 1 ∧ meets8 s t K P Q i y) → b' = true) from fun b' h1 h2 h => by
            rcases h with h | ⟨y, hy, h⟩
            · exact h1 (HB.out (.inl h))
            · rcases Nat.lt_or_ge y j with h9 | h9
              · exact h1 (HB.out (.inr ⟨y, h9, h⟩))
              · obtain rfl : y = j := by omega
                exact h2 h)
          clear HB
          cases b with
          | true =>
            go_wp2
            go_quiet (fail)
            go_wp2
            go_roundw
            case rel => exact ⟨j + 1, true, by omega, by go_num, rfl, Lib.hid (HJ.out true (fun h => rfl) (fun h => rfl)), _, rfl⟩
            case measure => simp [intOf]; omega
          | false =>
            by_cases hpp : p = p2
            · have f1 : (p == p2) = true := by rw [hpp]; exact beq_self_eq_true _
              by_cases hxy : X = Y
              · have f2 : (X.toList == Y.toList) = true := by rw [hxy]; exact beq_self_eq_true _
                have HN9 := Lib.hid (show ¬ meets8 s t K P Q i j from fun h => (HNE.out h).2 hxy)
                clear hxy hpp
                go_wp2
                go_quiet (fail)
                go_wp2
                go_roundw
                case rel => exact ⟨j + 1, false, by omega, by go_num, rfl, Lib.hid (HJ.out false (fun h => absurd h (by decide)) (fun h => absurd h HN9.out)), _, rfl⟩
                case measure => simp [intOf]; omega
              · have f2 : (X.toList == Y.toList) = false := eq8_no hxy
                clear hxy hpp
                go_wp2
                go_quiet (fail)
                go_wp2
                go_roundw
                case rel => exact ⟨j + 1, true, by omega, by go_num, rfl, Lib.hid (HJ.out true (fun h => rfl) (fun h => rfl)), _, rfl⟩
                case measure => simp [intOf]; omega
            · have f1 : (p == p2) = false := beq_eq_false_iff_ne.2 hpp
              have HN9 := Lib.hid (show ¬ meets8 s t K P Q i j from fun h => hpp (HNE.out h).1)
              clear hpp
              go_wp2
              go_quiet (fail)
              go_wp2
              go_roundw
              case rel => exact ⟨j + 1, false, by omega, by go_num, rfl, Lib.hid (HJ.out false (fun h => absurd h (by decide)) (fun h => absurd h HN9.out)), _, rfl⟩
              case measure => simp [intOf]; omega
        · have z2 : ¬ (j : Int) < (n2 : Int) := by omega
          go_wp2
          go_roundw
          case rel => exact ⟨i + 1, b, by omega, by go_num, rfl, Lib.hid (by
              rintro ⟨x, y, hx, hy, h⟩
              rw [Int.toNat_natCast] at h
              rcases Nat.lt_or_ge x i with h9 | h9
              · exact HB.out (.inl ⟨x, y, h9, hy, h⟩)
              · obtain rfl : x = i := by omega
                exact HB.out (.inr ⟨y, by omega, h⟩)), _, rfl⟩
          case measure => simp [intOf]; omega
    · have z1 : ¬ (i : Int) < (n1 : Int) := by omega
      have BB := below_drewN' HBB.out q
      have HQ0 := Lib.hid (show b = false → f = 0 from fun hb0 => by
        rcases Nat.eq_zero_or_pos f with h | h
        · exact h
        · obtain ⟨x, y, h1, h2, h3⟩ := HME.out P Q HPP.out HQQ.out h
          have := HB.out ⟨x, y, by have := H1.out.len; omega, by have := H2.out.len; omega, h3⟩
          rw [hb0] at this
          exact absurd this (by decide))
      have cA := fun w => implMarks_p s k v _ w rfl (by omega) wk wv
      have cB := fun w => implMarks_p t k v _ w rfl (by omega) wk wv
      have HLB := Lib.hid (mkL_len t k v)
      have HLA := Lib.hid (mkL_len s k v)
      have hleT : (f : Int) ≤ ((twinsL (mkL s k v) (mkL t k v)).length : Int) := by have := HLE.out; omega
      obtain ⟨A, hA⟩ : ∃ A, mkL s k v = A := ⟨_, rfl⟩
      obtain ⟨B, hB⟩ : ∃ A, mkL t k v = A := ⟨_, rfl⟩
      rw [hA] at cA hleT HLA
      rw [hB] at cB hleT HLB
      clear hA hB HBB HB HME HLE
      cases b with
      | true =>
        clear HQ0
        go_wp2_with fail
        refine (cA _).mono ?_
        rintro e w6 ⟨aA, nA, dA, rfl, EA, hb⟩
        replace BB := BB.trans (hb.mono BB.size)
        clear hb
        clear cA
        go_wp2_with fail
        refine (cB _).mono ?_
        rintro e w7 ⟨aB, nB, dB, rfl, EB, hb⟩
        replace EA := EA.later hb
        replace BB := BB.trans (hb.mono BB.size)
        clear hb
        clear cB
        go_wp2_with fail
        refine (implTwins_w A B _ _ _ _ _ _ _ EA EB (by have := HLA.out; omega) (by have := HLB.out; omega)).mono ?_
        rintro e w8 ⟨aT, nT, dT, rfl, hT, hb⟩
        replace BB := BB.trans (hb.mono BB.size)
        clear hb
        rw [← hT] at hleT
        clear hT
        go_wp2_with fail
        refine (alive_any _).mono ?_
        rintro e wq ⟨rfl, rfl⟩
        go_wp2
        go_ret
        exact ⟨rfl, BB⟩
      | false =>
        obtain rfl : f = 0 := HQ0.out rfl
        clear HQ0
        go_wp2_with fail
        refine (cA _).mono ?_
        rintro e w6 ⟨aA, nA, dA, rfl, EA, hb⟩
        replace BB := BB.trans (hb.mono BB.size)
        clear hb
        clear cA
        go_wp2_with fail
        refine (cB _).mono ?_
        rintro e w7 ⟨aB, nB, dB, rfl, EB, hb⟩
        replace EA := EA.later hb
        replace BB := BB.trans (hb.mono BB.size)
        clear hb
        clear cB
        go_wp2_with fail
        refine (implTwins_w A B _ _ _ _ _ _ _ EA EB (by have := HLA.out; omega) (by have := HLB.out; omega)).mono ?_
        rintro e w8 ⟨aT, nT, dT, rfl, hT, hb⟩
        replace BB := BB.trans (hb.mono BB.size)
        clear hb
        rw [← hT] at hleT
        clear hT
        go_wp2_with fail
        refine (alive_any _).mono ?_
        rintro e wq ⟨rfl, rfl⟩
        go_wp2
        go_ret
        exact ⟨rfl, BB⟩

end Go.Proofs.Ytclblnkeakkdeaa
