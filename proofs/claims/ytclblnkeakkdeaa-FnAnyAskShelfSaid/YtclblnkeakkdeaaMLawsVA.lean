/-
  The walks of the laws FoundBy and AnyFoundBy: each answers true, and nothing that was there is written. No conditions. (Written by wip/tools/ch8_laws.py.)
-/
import Derived.Test.YtclblnkeakkdeaaMg39
import Derived.Test.YtclblnkeakkdeaaMg36
import Derived.Test.YtclblnkeakkdeaaMg38
import Derived.Deep.RegionHeld3
namespace Go.Proofs.Ytclblnkeakkdeaa
open Go.RowKit

theorem wf_bounds8 {n : Int} (h : (Lit.int .i64 n).wf = true) : -9223372036854775808 ≤ n ∧ n ≤ 9223372036854775807 := by
  simp [Lit.wf, IntKind.min, IntKind.max, IntKind.signed, IntKind.bits] at h
  omega
theorem foundL_room8 {s t : ByteArray} (k v n : Int) (hs : s.size ≤ 1048576) (ht : t.size ≤ 1048576) : (foundL s t k v n).length ≤ 1099511627776 := by
  unfold foundL
  split
  · exact Nat.zero_le _
  · refine Nat.le_trans (rowE_len _) (Nat.le_trans (foundTo_len _ _ _ _ _) ?_)
    have h2 := twinsL_len (mkL s k v) (mkL t k v) 1048576 (Nat.le_trans (mkL_len t k v) ht)
    have h3 := Nat.le_trans (mkL_len s k v) hs
    omega
theorem pieces_room8 {s t : ByteArray} (n : Int) (hs : s.size ≤ 1048576) (ht : t.size ≤ 1048576) : (piecesT s t n).length ≤ 1099511627776 := by
  unfold piecesT
  split
  · exact Nat.zero_le _
  · refine Nat.le_trans (piecesN_len s t n.toNat s.size) ?_
    exact Nat.mul_le_mul hs ht

set_option maxRecDepth 4000 in
set_option maxHeartbeats 16000000 in
theorem walkFnFoundBy (a : Option Addr) (len cap : Nat) (zs : List Int) (w : World) (h : IsRowK .u8 w a len cap zs) :
    Calls Try.prog 8 #[.slice a len cap] w fun e w' => e = .returned (.bool true) ∧ Below w.heap.size w w' := by
  by_cases hs : 1048576 < len
  · have h2 : (1048576 : Int) < (len : Int) := by omega
    go_enter Try.func8, Try.ntmps8
    go_wp2
    go_ret
    exact ⟨rfl, Below.refl _ _⟩
  have h2 : ¬ (1048576 : Int) < (len : Int) := by omega
  clear hs
  go_enter Try.func8, Try.ntmps8
  go_wp2_with fail
  refine (DrawFoundBy_any _ _ _ _ _ h).mono ?_
  rintro e w0 ⟨s, t, k, v, n, hs, ht, hk0, hk9, hv0, hv9, hn0, hn9, rfl, BB⟩
  clear h h2
  have wk : k ≤ 9223372036854775807 := by omega
  have wv : v ≤ 9223372036854775807 := by omega
  have wn : n ≤ 9223372036854775807 := by omega
  clear hk0 hk9 hv0 hv9 hn0 hn9
  have c1 := fun w => implFound_w s t k v n _ w rfl wk wv wn (by omega) (by omega)
  have c2 := fun w => specFound_w s t k v n _ w rfl wk wv wn (by omega) (by omega)
  obtain ⟨R, hR⟩ : ∃ R, foundL s t k v n = R := ⟨_, rfl⟩
  rw [hR] at c1 c2
  have hRl : R.length ≤ 1099511627776 := by rw [← hR]; exact foundL_room8 k v n (by omega) (by omega)
  go_wp2_with fail
  refine (c1 _).mono ?_
  rintro e w1 ⟨a1, n1, d1, rfl, E1, hb⟩
  replace BB := BB.trans (hb.mono BB.size)
  clear hb
  clear c1
  go_wp2_with fail
  refine (c2 _).mono ?_
  rintro e w2 ⟨a2, n2, d2, rfl, E2, hb⟩
  replace E1 := E1.later hb
  replace BB := BB.trans (hb.mono BB.size)
  clear hb
  clear c2
  go_wp2_with fail
  refine (samePcs_w R _ _ _ _ _ _ _ E1 E2 hRl).mono ?_
  rintro e w3 ⟨rfl, hb⟩
  replace E1 := E1.later hb
  replace BB := BB.trans (hb.mono BB.size)
  clear hb
  clear E2
  by_cases hk : k < 1 ∨ v < 1 ∨ n < 1
  · have hR0 : R = [] := by rw [← hR]; exact foundL_none hk
    obtain rfl : n1 = 0 := by have := E1.len; rw [hR0] at this; exact this
    clear hR hR0 hRl E1
    by_cases hk1 : k < 1
    · clear hk
      go_wp2_with fail
      refine (alive_any _).mono ?_
      rintro e wq ⟨rfl, rfl⟩
      go_wp2
      go_ret
      exact ⟨rfl, BB⟩
    · by_cases hk2 : v < 1
      · clear hk
        go_wp2_with fail
        refine (alive_any _).mono ?_
        rintro e wq ⟨rfl, rfl⟩
        go_wp2
        go_ret
        exact ⟨rfl, BB⟩
      · have hk3 : n < 1 := by omega
        clear hk
        go_wp2_with fail
        refine (alive_any _).mono ?_
        rintro e wq ⟨rfl, rfl⟩
        go_wp2
        go_ret
        exact ⟨rfl, BB⟩
  obtain ⟨K, rfl⟩ : ∃ K : Nat, k = K := ⟨k.toNat, by omega⟩
  obtain ⟨V, rfl⟩ : ∃ K : Nat, v = K := ⟨v.toNat, by omega⟩
  obtain ⟨N, rfl⟩ : ∃ K : Nat, n = K := ⟨n.toNat, by omega⟩
  have hk1 : ¬ (K : Int) < 1 := by omega
  have hk2 : ¬ (V : Int) < 1 := by omega
  have hk3 : ¬ (N : Int) < 1 := by omega
  clear hk
  have c4 := fun w => implPcs_w s t N _ w rfl wn (by omega) (by omega)
  obtain ⟨A, hA⟩ : ∃ A, piecesT s t N = A := ⟨_, rfl⟩
  rw [hA] at c4
  go_wp2_with fail
  refine (c4 _).mono ?_
  rintro e w4 ⟨a3, n3, d3, rfl, E3, hb⟩
  replace E1 := E1.later hb
  replace BB := BB.trans (hb.mono BB.size)
  clear hb
  clear c4
  have HR := Lib.hid hR
  have HA := Lib.hid hA
  have HIN := Lib.hid (show ∀ p ∈ R, p ∈ A by rw [← hR, ← hA]; exact fun p hp => foundL_piece hp)
  have HE1 := Lib.hid E1
  have HE3 := Lib.hid E3
  have hn1 : n1 ≤ 1099511627776 := by have := E1.len; omega
  have hn3 : n3 ≤ 1099511627776 := by have := E3.len; have h := pieces_room8 (s := s) (t := t) (N : Int) (by omega) (by omega); rw [hA] at h; omega
  have HBB := Lib.hid BB
  clear hR hA E1 E3 BB hRl
  go_wp2
  go_loopw [10] (fun i_ wr => ∃ i : Nat, i ≤ n1 ∧ i_ = .int .i64 i ∧ ∃ q, wr = w4.drewN q) (fun i_ _ => n1 - (intOf i_).toNat)
  case atStart => exact ⟨0, Nat.zero_le _, rfl, 0, rfl⟩
  case round =>
    obtain ⟨i, hi, rfl, q, rfl⟩ := hrel
    by_cases hlt : i < n1
    · have z1 : (i : Int) < (n1 : Int) := by omega
      have hil : i < R.length := by have := HE1.out.len; omega
      obtain ⟨x, hx⟩ : ∃ x, R[i].1 = x := ⟨_, rfl⟩
      obtain ⟨y, hy⟩ : ∃ y, R[i].2.1 = y := ⟨_, rfl⟩
      obtain ⟨z, hz⟩ : ∃ z, R[i].2.2 = z := ⟨_, rfl⟩
      have hm : R[i] = (x, y, z) := by rw [← hx, ← hy, ← hz]
      have HM := Lib.hid (show (x, y, z) ∈ A from HIN.out _ (hm ▸ List.getElem_mem hil))
      obtain ⟨b1, o1, rfl, _, g1, g2, g3⟩ := ent_cells HE1.out.at_ hil hm
      clear hx hy hz hm
      go_wp2
      go_loopw [11, 12] (fun in_ j_ wr => ∃ (j : Nat) (b : Bool), j ≤ n3 ∧ j_ = .int .i64 j ∧ in_ = .bool b ∧ Hid (b = true ↔ (x, y, z) ∈ A.take j) ∧ ∃ q, wr = w4.drewN q) (fun _ j_ _ => n3 - (intOf j_).toNat)
      case atStart => exact ⟨0, false, Nat.zero_le _, rfl, rfl, Lib.hid (by simp), _, rfl⟩
      case round =>
        obtain ⟨j, b, hj, rfl, rfl, HB, q2, rfl⟩ := hrel
        by_cases hjl : j < n3
        · have z2 : (j : Int) < (n3 : Int) := by omega
          have hjA : j < A.length := by have := HE3.out.len; omega
          obtain ⟨x2, hx2⟩ : ∃ x, A[j].1 = x := ⟨_, rfl⟩
          obtain ⟨y2, hy2⟩ : ∃ y, A[j].2.1 = y := ⟨_, rfl⟩
          obtain ⟨z2', hz2⟩ : ∃ z, A[j].2.2 = z := ⟨_, rfl⟩
          have hm : A[j] = (x2, y2, z2') := by rw [← hx2, ← hy2, ← hz2]
          have HT := Lib.hid (show A.take (j + 1) = A.take j ++ [(x2, y2, z2')] by rw [List.take_succ_eq_append_getElem hjA, hm])
          obtain ⟨b2, o2, rfl, _, g4, g5, g6⟩ := ent_cells HE3.out.at_ hjA hm
          clear hx2 hy2 hz2 hm
          cases b with
          | true =>
            go_wp2
            go_quiet (fail)
            go_wp2
            go_roundw
            case rel => exact ⟨j + 1, true, by omega, by go_num, rfl, Lib.hid (by rw [HT.out, List.mem_append]; exact ⟨fun _ => .inl (HB.out.1 (by simp)), fun _ => rfl⟩), _, rfl⟩
            case measure => simp [intOf]; omega
          | false =>
            by_cases he : x2 = x ∧ y2 = y ∧ z2' = z
            · obtain ⟨rfl, rfl, rfl⟩ := he
              go_wp2
              go_quiet (fail)
              go_wp2
              go_roundw
              case rel => exact ⟨j + 1, true, by omega, by go_num, rfl, Lib.hid (by rw [HT.out, List.mem_append]; exact ⟨fun _ => .inr (by simp), fun _ => rfl⟩), _, rfl⟩
              case measure => simp [intOf]; omega
            · have HNE := Lib.hid he
              by_cases e1 : x2 = x
              · by_cases e2 : y2 = y
                · have e3 : ¬ z2' = z := fun e => he ⟨e1, e2, e⟩
                  clear he
                  subst e1 e2
                  have f3 : (z2' == z) = false := beq_eq_false_iff_ne.2 e3
                  go_wp2
                  go_quiet (fail)
                  go_wp2
                  go_roundw
                  case rel => exact ⟨j + 1, false, by omega, by go_num, rfl, Lib.hid (by rw [HT.out, List.mem_append]; exact ⟨fun h => absurd h (by decide), fun h => by rcases h with h | h; exact HB.out.2 h; have h9 := List.mem_singleton.1 h; exact absurd (by refine ⟨?_, ?_, ?_⟩ <;> first | trivial | exact (congrArg (fun u : En => u.1) h9).symm | exact (congrArg (fun u : En => u.2.1) h9).symm | exact (congrArg (fun u : En => u.2.2) h9).symm) HNE.out⟩), _, rfl⟩
                  case measure => simp [intOf]; omega
                · clear he
                  subst e1
                  have f3 : (y2 == y) = false := beq_eq_false_iff_ne.2 e2
                  go_wp2
                  go_quiet (fail)
                  go_wp2
                  go_roundw
                  case rel => exact ⟨j + 1, false, by omega, by go_num, rfl, Lib.hid (by rw [HT.out, List.mem_append]; exact ⟨fun h => absurd h (by decide), fun h => by rcases h with h | h; exact HB.out.2 h; have h9 := List.mem_singleton.1 h; exact absurd (by refine ⟨?_, ?_, ?_⟩ <;> first | trivial | exact (congrArg (fun u : En => u.1) h9).symm | exact (congrArg (fun u : En => u.2.1) h9).symm | exact (congrArg (fun u : En => u.2.2) h9).symm) HNE.out⟩), _, rfl⟩
                  case measure => simp [intOf]; omega
              · clear he
                have f3 : (x2 == x) = false := beq_eq_false_iff_ne.2 e1
                go_wp2
                go_quiet (fail)
                go_wp2
                go_roundw
                case rel => exact ⟨j + 1, false, by omega, by go_num, rfl, Lib.hid (by rw [HT.out, List.mem_append]; exact ⟨fun h => absurd h (by decide), fun h => by rcases h with h | h; exact HB.out.2 h; have h9 := List.mem_singleton.1 h; exact absurd (by refine ⟨?_, ?_, ?_⟩ <;> first | trivial | exact (congrArg (fun u : En => u.1) h9).symm | exact (congrArg (fun u : En => u.2.1) h9).symm | exact (congrArg (fun u : En => u.2.2) h9).symm) HNE.out⟩), _, rfl⟩
                case measure => simp [intOf]; omega
        · have z2 : ¬ (j : Int) < (n3 : Int) := by omega
          obtain rfl : b = true := HB.out.2 (by rw [List.take_of_length_le (by have := HE3.out.len; omega)]; exact HM.out)
          go_wp2
          go_roundw
          case rel => exact ⟨i + 1, by omega, by go_num, _, rfl⟩
          case measure => simp [intOf]; omega
    · have z1 : ¬ (i : Int) < (n1 : Int) := by omega
      have BB := below_drewN' HBB.out q
      clear HBB
      have E1 := HE1.out.later (below_drewN' (Below.refl _ _) q)
      have E3 := HE3.out.later (below_drewN' (Below.refl _ _) q)
      clear HE1 HE3
      obtain ⟨r, hr⟩ : ∃ r, sureI K V = r := ⟨_, rfl⟩
      have cs := fun w => implSure_w K V r w hr
      have hr2 : ¬ r = 0 → ¬ (N : Int) < r → R = A := fun h1 h2 => by
        rw [← HR.out, ← HA.out]
        unfold sureI at hr
        split at hr
        · exact foundL_all (by omega) (by omega) (by omega)
        · omega
      clear hr
      by_cases hr0 : r = 0
      · have f1 : (r == 0) = true := by simpa using hr0
        clear hr2 hr0
        go_wp2_with fail
        refine (cs _).mono ?_
        rintro e wq ⟨rfl, rfl⟩
        go_wp2_with fail
        refine (alive_any _).mono ?_
        rintro e wq ⟨rfl, rfl⟩
        go_wp2
        go_ret
        exact ⟨rfl, BB⟩
      · have f1 : (r == 0) = false := beq_eq_false_iff_ne.2 hr0
        by_cases hr1 : (N : Int) < r
        · clear hr2 hr0
          go_wp2_with fail
          refine (cs _).mono ?_
          rintro e wq ⟨rfl, rfl⟩
          go_wp2_with fail
          refine (cs _).mono ?_
          rintro e wq ⟨rfl, rfl⟩
          go_wp2_with fail
          refine (alive_any _).mono ?_
          rintro e wq ⟨rfl, rfl⟩
          go_wp2
          go_ret
          exact ⟨rfl, BB⟩
        · have hRA := hr2 hr0 hr1
          have E3 := hRA ▸ E3
          clear hr2 hr0
          go_wp2_with fail
          refine (cs _).mono ?_
          rintro e wq ⟨rfl, rfl⟩
          go_wp2_with fail
          refine (cs _).mono ?_
          rintro e wq ⟨rfl, rfl⟩
          go_wp2_with fail
          refine (samePcs_w _ _ _ _ _ _ _ _ E1 E3 (by have := E1.len; omega)).mono ?_
          rintro e w9 ⟨rfl, hb⟩
          replace BB := BB.trans (hb.mono BB.size)
          clear hb
          go_wp2_with fail
          refine (alive_any _).mono ?_
          rintro e wq ⟨rfl, rfl⟩
          go_wp2
          go_ret
          exact ⟨rfl, BB⟩
set_option maxRecDepth 4000 in
set_option maxHeartbeats 16000000 in
theorem walkFnAnyFoundBy (s t : ByteArray) (k v n : Int) (w : World) (_ws : s.size ≤ maxLen) (_wt : t.size ≤ maxLen) (wk : (Lit.int .i64 k).wf = true) (wv : (Lit.int .i64 v).wf = true) (wn : (Lit.int .i64 n).wf = true) :
    Calls Try.prog 14 #[.string s, .string t, .int .i64 k, .int .i64 v, .int .i64 n] w fun e w' => e = .returned (.bool true) ∧ Below w.heap.size w w' := by
  replace wk := (wf_bounds8 wk).2
  replace wv := (wf_bounds8 wv).2
  replace wn := (wf_bounds8 wn).2
  by_cases hs : 1000 < s.size
  · have cb := fun w => bigText_is true s 1000 w (decide_eq_true (by omega))
    have BB : Below w.heap.size w w := Below.refl _ _
    go_enter Try.func14, Try.ntmps14
    go_wp2_with fail
    refine (cb _).mono ?_
    rintro e wq ⟨rfl, rfl⟩
    go_wp2_with fail
    refine (alive_any _).mono ?_
    rintro e wq ⟨rfl, rfl⟩
    go_wp2
    go_ret
    exact ⟨rfl, BB⟩
  have cb := fun w => bigText_is false s 1000 w (decide_eq_false (by omega))
  by_cases ht : 1000 < t.size
  · have cb2 := fun w => bigText_is true t 1000 w (decide_eq_true (by omega))
    have BB : Below w.heap.size w w := Below.refl _ _
    go_enter Try.func14, Try.ntmps14
    go_wp2_with fail
    refine (cb _).mono ?_
    rintro e wq ⟨rfl, rfl⟩
    go_wp2_with fail
    refine (cb2 _).mono ?_
    rintro e wq ⟨rfl, rfl⟩
    go_wp2_with fail
    refine (alive_any _).mono ?_
    rintro e wq ⟨rfl, rfl⟩
    go_wp2
    go_ret
    exact ⟨rfl, BB⟩
  have cb2 := fun w => bigText_is false t 1000 w (decide_eq_false (by omega))
  have hs9 : s.size ≤ 1000 := by omega
  have ht9 : t.size ≤ 1000 := by omega
  clear hs ht
  go_enter Try.func14, Try.ntmps14
  go_wp2_with fail
  refine (cb _).mono ?_
  rintro e wq ⟨rfl, rfl⟩
  go_wp2_with fail
  refine (cb2 _).mono ?_
  rintro e wq ⟨rfl, rfl⟩
  clear cb cb2
  obtain ⟨w0, hw0⟩ : ∃ w0, w = w0 := ⟨_, rfl⟩
  have BB : Below w.heap.size w w0 := by rw [hw0]; exact Below.refl _ _
  have HW := Lib.hid hw0
  clear hw0
  rw [HW.out] at *
  clear HW
  have c1 := fun w => implFound_w s t k v n _ w rfl wk wv wn (by omega) (by omega)
  have c2 := fun w => specFound_w s t k v n _ w rfl wk wv wn (by omega) (by omega)
  obtain ⟨R, hR⟩ : ∃ R, foundL s t k v n = R := ⟨_, rfl⟩
  rw [hR] at c1 c2
  have hRl : R.length ≤ 1099511627776 := by rw [← hR]; exact foundL_room8 k v n (by omega) (by omega)
  go_wp2_with fail
  refine (c1 _).mono ?_
  rintro e w1 ⟨a1, n1, d1, rfl, E1, hb⟩
  replace BB := BB.trans (hb.mono BB.size)
  clear hb
  clear c1
  go_wp2_with fail
  refine (c2 _).mono ?_
  rintro e w2 ⟨a2, n2, d2, rfl, E2, hb⟩
  replace E1 := E1.later hb
  replace BB := BB.trans (hb.mono BB.size)
  clear hb
  clear c2
  go_wp2_with fail
  refine (samePcs_w R _ _ _ _ _ _ _ E1 E2 hRl).mono ?_
  rintro e w3 ⟨rfl, hb⟩
  replace E1 := E1.later hb
  replace BB := BB.trans (hb.mono BB.size)
  clear hb
  clear E2
  by_cases hk : k < 1 ∨ v < 1 ∨ n < 1
  · have hR0 : R = [] := by rw [← hR]; exact foundL_none hk
    obtain rfl : n1 = 0 := by have := E1.len; rw [hR0] at this; exact this
    clear hR hR0 hRl E1
    by_cases hk1 : k < 1
    · clear hk
      go_wp2_with fail
      refine (alive_any _).mono ?_
      rintro e wq ⟨rfl, rfl⟩
      go_wp2
      go_ret
      exact ⟨rfl, BB⟩
    · by_cases hk2 : v < 1
      · clear hk
        go_wp2_with fail
        refine (alive_any _).mono ?_
        rintro e wq ⟨rfl, rfl⟩
        go_wp2
        go_ret
        exact ⟨rfl, BB⟩
      · have hk3 : n < 1 := by omega
        clear hk
        go_wp2_with fail
        refine (alive_any _).mono ?_
        rintro e wq ⟨rfl, rfl⟩
        go_wp2
        go_ret
        exact ⟨rfl, BB⟩
  obtain ⟨K, rfl⟩ : ∃ K : Nat, k = K := ⟨k.toNat, by omega⟩
  obtain ⟨V, rfl⟩ : ∃ K : Nat, v = K := ⟨v.toNat, by omega⟩
  obtain ⟨N, rfl⟩ : ∃ K : Nat, n = K := ⟨n.toNat, by omega⟩
  have hk1 : ¬ (K : Int) < 1 := by omega
  have hk2 : ¬ (V : Int) < 1 := by omega
  have hk3 : ¬ (N : Int) < 1 := by omega
  clear hk
  have c4 := fun w => implPcs_w s t N _ w rfl wn (by omega) (by omega)
  obtain ⟨A, hA⟩ : ∃ A, piecesT s t N = A := ⟨_, rfl⟩
  rw [hA] at c4
  go_wp2_with fail
  refine (c4 _).mono ?_
  rintro e w4 ⟨a3, n3, d3, rfl, E3, hb⟩
  replace E1 := E1.later hb
  replace BB := BB.trans (hb.mono BB.size)
  clear hb
  clear c4
  have HR := Lib.hid hR
  have HA := Lib.hid hA
  have HIN := Lib.hid (show ∀ p ∈ R, p ∈ A by rw [← hR, ← hA]; exact fun p hp => foundL_piece hp)
  have HE1 := Lib.hid E1
  have HE3 := Lib.hid E3
  have hn1 : n1 ≤ 1099511627776 := by have := E1.len; omega
  have hn3 : n3 ≤ 1099511627776 := by have := E3.len; have h := pieces_room8 (s := s) (t := t) (N : Int) (by omega) (by omega); rw [hA] at h; omega
  have HBB := Lib.hid BB
  clear hR hA E1 E3 BB hRl
  go_wp2
  go_loopw [13] (fun i_ wr => ∃ i : Nat, i ≤ n1 ∧ i_ = .int .i64 i ∧ ∃ q, wr = w4.drewN q) (fun i_ _ => n1 - (intOf i_).toNat)
  case atStart => exact ⟨0, Nat.zero_le _, rfl, 0, rfl⟩
  case round =>
    obtain ⟨i, hi, rfl, q, rfl⟩ := hrel
    by_cases hlt : i < n1
    · have z1 : (i : Int) < (n1 : Int) := by omega
      have hil : i < R.length := by have := HE1.out.len; omega
      obtain ⟨x, hx⟩ : ∃ x, R[i].1 = x := ⟨_, rfl⟩
      obtain ⟨y, hy⟩ : ∃ y, R[i].2.1 = y := ⟨_, rfl⟩
      obtain ⟨z, hz⟩ : ∃ z, R[i].2.2 = z := ⟨_, rfl⟩
      have hm : R[i] = (x, y, z) := by rw [← hx, ← hy, ← hz]
      have HM := Lib.hid (show (x, y, z) ∈ A from HIN.out _ (hm ▸ List.getElem_mem hil))
      obtain ⟨b1, o1, rfl, _, g1, g2, g3⟩ := ent_cells HE1.out.at_ hil hm
      clear hx hy hz hm
      go_wp2
      go_loopw [14, 15] (fun in_ j_ wr => ∃ (j : Nat) (b : Bool), j ≤ n3 ∧ j_ = .int .i64 j ∧ in_ = .bool b ∧ Hid (b = true ↔ (x, y, z) ∈ A.take j) ∧ ∃ q, wr = w4.drewN q) (fun _ j_ _ => n3 - (intOf j_).toNat)
      case atStart => exact ⟨0, false, Nat.zero_le _, rfl, rfl, Lib.hid (by simp), _, rfl⟩
      case round =>
        obtain ⟨j, b, hj, rfl, rfl, HB, q2, rfl⟩ := hrel
        by_cases hjl : j < n3
        · have z2 : (j : Int) < (n3 : Int) := by omega
          have hjA : j < A.length := by have := HE3.out.len; omega
          obtain ⟨x2, hx2⟩ : ∃ x, A[j].1 = x := ⟨_, rfl⟩
          obtain ⟨y2, hy2⟩ : ∃ y, A[j].2.1 = y := ⟨_, rfl⟩
          obtain ⟨z2', hz2⟩ : ∃ z, A[j].2.2 = z := ⟨_, rfl⟩
          have hm : A[j] = (x2, y2, z2') := by rw [← hx2, ← hy2, ← hz2]
          have HT := Lib.hid (show A.take (j + 1) = A.take j ++ [(x2, y2, z2')] by rw [List.take_succ_eq_append_getElem hjA, hm])
          obtain ⟨b2, o2, rfl, _, g4, g5, g6⟩ := ent_cells HE3.out.at_ hjA hm
          clear hx2 hy2 hz2 hm
          cases b with
          | true =>
            go_wp2
            go_quiet (fail)
            go_wp2
            go_roundw
            case rel => exact ⟨j + 1, true, by omega, by go_num, rfl, Lib.hid (by rw [HT.out, List.mem_append]; exact ⟨fun _ => .inl (HB.out.1 (by simp)), fun _ => rfl⟩), _, rfl⟩
            case measure => simp [intOf]; omega
          | false =>
            by_cases he : x2 = x ∧ y2 = y ∧ z2' = z
            · obtain ⟨rfl, rfl, rfl⟩ := he
              go_wp2
              go_quiet (fail)
              go_wp2
              go_roundw
              case rel => exact ⟨j + 1, true, by omega, by go_num, rfl, Lib.hid (by rw [HT.out, List.mem_append]; exact ⟨fun _ => .inr (by simp), fun _ => rfl⟩), _, rfl⟩
              case measure => simp [intOf]; omega
            · have HNE := Lib.hid he
              by_cases e1 : x2 = x
              · by_cases e2 : y2 = y
                · have e3 : ¬ z2' = z := fun e => he ⟨e1, e2, e⟩
                  clear he
                  subst e1 e2
                  have f3 : (z2' == z) = false := beq_eq_false_iff_ne.2 e3
                  go_wp2
                  go_quiet (fail)
                  go_wp2
                  go_roundw
                  case rel => exact ⟨j + 1, false, by omega, by go_num, rfl, Lib.hid (by rw [HT.out, List.mem_append]; exact ⟨fun h => absurd h (by decide), fun h => by rcases h with h | h; exact HB.out.2 h; have h9 := List.mem_singleton.1 h; exact absurd (by refine ⟨?_, ?_, ?_⟩ <;> first | trivial | exact (congrArg (fun u : En => u.1) h9).symm | exact (congrArg (fun u : En => u.2.1) h9).symm | exact (congrArg (fun u : En => u.2.2) h9).symm) HNE.out⟩), _, rfl⟩
                  case measure => simp [intOf]; omega
                · clear he
                  subst e1
                  have f3 : (y2 == y) = false := beq_eq_false_iff_ne.2 e2
                  go_wp2
                  go_quiet (fail)
                  go_wp2
                  go_roundw
                  case rel => exact ⟨j + 1, false, by omega, by go_num, rfl, Lib.hid (by rw [HT.out, List.mem_append]; exact ⟨fun h => absurd h (by decide), fun h => by rcases h with h | h; exact HB.out.2 h; have h9 := List.mem_singleton.1 h; exact absurd (by refine ⟨?_, ?_, ?_⟩ <;> first | trivial | exact (congrArg (fun u : En => u.1) h9).symm | exact (congrArg (fun u : En => u.2.1) h9).symm | exact (congrArg (fun u : En => u.2.2) h9).symm) HNE.out⟩), _, rfl⟩
                  case measure => simp [intOf]; omega
              · clear he
                have f3 : (x2 == x) = false := beq_eq_false_iff_ne.2 e1
                go_wp2
                go_quiet (fail)
                go_wp2
                go_roundw
                case rel => exact ⟨j + 1, false, by omega, by go_num, rfl, Lib.hid (by rw [HT.out, List.mem_append]; exact ⟨fun h => absurd h (by decide), fun h => by rcases h with h | h; exact HB.out.2 h; have h9 := List.mem_singleton.1 h; exact absurd (by refine ⟨?_, ?_, ?_⟩ <;> first | trivial | exact (congrArg (fun u : En => u.1) h9).symm | exact (congrArg (fun u : En => u.2.1) h9).symm | exact (congrArg (fun u : En => u.2.2) h9).symm) HNE.out⟩), _, rfl⟩
                case measure => simp [intOf]; omega
        · have z2 : ¬ (j : Int) < (n3 : Int) := by omega
          obtain rfl : b = true := HB.out.2 (by rw [List.take_of_length_le (by have := HE3.out.len; omega)]; exact HM.out)
          go_wp2
          go_roundw
          case rel => exact ⟨i + 1, by omega, by go_num, _, rfl⟩
          case measure => simp [intOf]; omega
    · have z1 : ¬ (i : Int) < (n1 : Int) := by omega
      have BB := below_drewN' HBB.out q
      clear HBB
      have E1 := HE1.out.later (below_drewN' (Below.refl _ _) q)
      have E3 := HE3.out.later (below_drewN' (Below.refl _ _) q)
      clear HE1 HE3
      obtain ⟨r, hr⟩ : ∃ r, sureI K V = r := ⟨_, rfl⟩
      have cs := fun w => implSure_w K V r w hr
      have hr2 : ¬ r = 0 → ¬ (N : Int) < r → R = A := fun h1 h2 => by
        rw [← HR.out, ← HA.out]
        unfold sureI at hr
        split at hr
        · exact foundL_all (by omega) (by omega) (by omega)
        · omega
      clear hr
      by_cases hr0 : r = 0
      · have f1 : (r == 0) = true := by simpa using hr0
        clear hr2 hr0
        go_wp2_with fail
        refine (cs _).mono ?_
        rintro e wq ⟨rfl, rfl⟩
        go_wp2_with fail
        refine (alive_any _).mono ?_
        rintro e wq ⟨rfl, rfl⟩
        go_wp2
        go_ret
        exact ⟨rfl, BB⟩
      · have f1 : (r == 0) = false := beq_eq_false_iff_ne.2 hr0
        by_cases hr1 : (N : Int) < r
        · clear hr2 hr0
          go_wp2_with fail
          refine (cs _).mono ?_
          rintro e wq ⟨rfl, rfl⟩
          go_wp2_with fail
          refine (cs _).mono ?_
          rintro e wq ⟨rfl, rfl⟩
          go_wp2_with fail
          refine (alive_any _).mono ?_
          rintro e wq ⟨rfl, rfl⟩
          go_wp2
          go_ret
          exact ⟨rfl, BB⟩
        · have hRA := hr2 hr0 hr1
          have E3 := hRA ▸ E3
          clear hr2 hr0
          go_wp2_with fail
          refine (cs _).mono ?_
          rintro e wq ⟨rfl, rfl⟩
          go_wp2_with fail
          refine (cs _).mono ?_
          rintro e wq ⟨rfl, rfl⟩
          go_wp2_with fail
          refine (samePcs_w _ _ _ _ _ _ _ _ E1 E3 (by have := E1.len; omega)).mono ?_
          rintro e w9 ⟨rfl, hb⟩
          replace BB := BB.trans (hb.mono BB.size)
          clear hb
          go_wp2_with fail
          refine (alive_any _).mono ?_
          rintro e wq ⟨rfl, rfl⟩
          go_wp2
          go_ret
          exact ⟨rfl, BB⟩

end Go.Proofs.Ytclblnkeakkdeaa
