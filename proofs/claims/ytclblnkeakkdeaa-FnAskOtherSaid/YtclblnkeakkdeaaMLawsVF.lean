/-
  The walk of the law AskOther: it answers true, and nothing that was there is written. No conditions. (Written by wip/tools/ch8_laws.py.)
-/
import Derived.Test.YtclblnkeakkdeaaMLawsVE
import Derived.Test.YtclblnkeakkdeaaMg40
import Derived.Deep.RegionHeld3
namespace Go.Proofs.Ytclblnkeakkdeaa
open Go.RowKit

/-- Two records are not the same (a name of its own: what is walked does not look into it). -/
structure NotSame (a b : Fd) : Prop where
  ne : a ≠ b
theorem NotSame.no {a b : Fd} (h : NotSame a b) {P : Prop} (e : a = b) : P := absurd e h.ne
theorem other_in {S : List En} {D : List ByteArray} {s : ByteArray} : ∀ p ∈ ask8 S D s 2 2 2, p ∈ askAllL D s 2 := fun p hp => by
  by_cases h : shOk S ∧ (1 : Int) ≤ 2 ∧ (1 : Int) ≤ 2 ∧ (1 : Int) ≤ 2
  · rw [ask8_ok h] at hp
    exact ask_other (N := 2) h.1.1 (by omega) (by omega) hp
  · rw [ask8_not h] at hp
    cases hp

set_option maxRecDepth 4000 in
set_option maxHeartbeats 16000000 in
theorem walkFnAskOther (a : Option Addr) (len cap : Nat) (zs : List Int) (w : World) (h : IsRowK .u8 w a len cap zs) :
    Calls Try.prog 12 #[.slice a len cap] w fun e w' => e = .returned (.bool true) ∧ Below w.heap.size w w' := by
  by_cases hs : 1048576 < len
  · have h2 : (1048576 : Int) < (len : Int) := by omega
    go_enter Try.func12, Try.ntmps12
    go_wp2
    go_ret
    exact ⟨rfl, Below.refl _ _⟩
  have h2 : ¬ (1048576 : Int) < (len : Int) := by omega
  clear hs
  go_enter Try.func12, Try.ntmps12
  go_wp2_with fail
  refine (DrawAskOther_any _ _ _ _ _ h).mono ?_
  rintro e w0 ⟨S, a0, n0, d0, D, a1, n1, d1, s, hS, h63, hD, hDs, hs, E0, X1, rfl, BB⟩
  clear h h2
  have hT : totalS D ≤ 276 := by have h1 := totalS_le8 hDs; omega
  have c1 := fun w h g => implAsk8_w S D s 2 2 2 _ a0 n0 d0 a1 n1 d1 w rfl h g (by omega) h63 (by omega) (by omega) (by omega) (by omega) (by omega) (by omega)
  have c2 := fun w h g => specAsk8_w S D s 2 2 2 _ a0 n0 d0 a1 n1 d1 w rfl h g (by omega) (by omega) (by omega) (by omega) (by omega) (by omega) (by omega)
  have c4 := fun w h => implAskAll_w D s 2 _ a1 n1 d1 w rfl h (by omega) (by omega) (by omega) (by omega)
  have hin := other_in (S := S) (D := D) (s := s)
  have hRl := ask8_room (L := S) (D := D) (s := s) 2 2 2 (by omega) (by omega)
  have hAl : (askAllL D s 2).length ≤ 1099511627776 := askAll_room 2 (by omega) (by omega) (Nat.le_refl _)
  obtain ⟨R, hR⟩ : ∃ R, ask8 S D s 2 2 2 = R := ⟨_, rfl⟩
  obtain ⟨A, hA⟩ : ∃ A, askAllL D s 2 = A := ⟨_, rfl⟩
  rw [hR] at c1 c2 hin hRl
  rw [hA] at c4 hin hAl
  have HIN := Lib.hid hin
  clear hR hA hin h63
  go_wp2_with fail
  refine (c1 _ E0 X1).mono ?_
  rintro e w1 ⟨aR, nR, dR, rfl, E1, hb⟩
  replace E0 := E0.later hb
  replace X1 := X1.later hb
  replace BB := BB.trans (hb.mono BB.size)
  clear hb
  clear c1
  go_wp2_with fail
  refine (c2 _ E0 X1).mono ?_
  rintro e w2 ⟨a2, n2, d2, rfl, E2, hb⟩
  replace X1 := X1.later hb
  replace E1 := E1.later hb
  replace BB := BB.trans (hb.mono BB.size)
  clear hb
  clear c2 E0
  go_wp2_with fail
  refine (sameFds_w R _ _ _ _ _ _ _ E1 E2 hRl).mono ?_
  rintro e w3 ⟨rfl, hb⟩
  replace X1 := X1.later hb
  replace E1 := E1.later hb
  replace BB := BB.trans (hb.mono BB.size)
  clear hb
  clear E2
  go_wp2_with fail
  refine (c4 _ X1).mono ?_
  rintro e w4 ⟨aA, nA, dA, rfl, E3, hb⟩
  replace E1 := E1.later hb
  replace BB := BB.trans (hb.mono BB.size)
  clear hb
  clear c4 X1
  have HE1 := Lib.hid E1
  have HE3 := Lib.hid E3
  have hnR : nR ≤ 1099511627776 := by have := E1.len; omega
  have hnA : nA ≤ 1099511627776 := by have := E3.len; omega
  have HBB := Lib.hid BB
  clear E1 E3 BB hRl hAl
  go_wp2
  go_loopw [8] (fun i_ wr => ∃ i : Nat, i ≤ nR ∧ i_ = .int .i64 i ∧ ∃ q, wr = w4.drewN q) (fun i_ _ => nR - (intOf i_).toNat)
  case atStart => exact ⟨0, Nat.zero_le _, rfl, 0, rfl⟩
  case round =>
    obtain ⟨i, hi, rfl, q, rfl⟩ := hrel
    by_cases hlt : i < nR
    · have z1 : (i : Int) < (nR : Int) := by omega
      have hil : i < R.length := by have := HE1.out.len; omega
      obtain ⟨x, hx⟩ : ∃ x, R[i].1 = x := ⟨_, rfl⟩
      obtain ⟨y, hy⟩ : ∃ y, R[i].2.1 = y := ⟨_, rfl⟩
      obtain ⟨z, hz⟩ : ∃ z, R[i].2.2.1 = z := ⟨_, rfl⟩
      obtain ⟨u, hu⟩ : ∃ z, R[i].2.2.2 = z := ⟨_, rfl⟩
      have hm : R[i] = (x, y, z, u) := by rw [← hx, ← hy, ← hz, ← hu]
      have HM := Lib.hid (show (x, y, z, u) ∈ A from HIN.out _ (hm ▸ List.getElem_mem hil))
      obtain ⟨b1, o1, rfl, _, g1, g2, g3, g31⟩ := fd_cells HE1.out.at_ hil hm
      clear hx hy hz hu hm
      go_wp2
      go_loopw [9, 10] (fun in_ j_ wr => ∃ (j : Nat) (b : Bool), j ≤ nA ∧ j_ = .int .i64 j ∧ in_ = .bool b ∧ Hid (b = true ↔ (x, y, z, u) ∈ A.take j) ∧ ∃ q, wr = w4.drewN q) (fun _ j_ _ => nA - (intOf j_).toNat)
      case atStart => exact ⟨0, false, Nat.zero_le _, rfl, rfl, Lib.hid (by simp), _, rfl⟩
      case round =>
        obtain ⟨j, b, hj, rfl, rfl, HB, q2, rfl⟩ := hrel
        by_cases hjl : j < nA
        · have z2 : (j : Int) < (nA : Int) := by omega
          have hjA : j < A.length := by have := HE3.out.len; omega
          obtain ⟨x2, hx2⟩ : ∃ x, A[j].1 = x := ⟨_, rfl⟩
          obtain ⟨y2, hy2⟩ : ∃ y, A[j].2.1 = y := ⟨_, rfl⟩
          obtain ⟨z2', hz2⟩ : ∃ z, A[j].2.2.1 = z := ⟨_, rfl⟩
          obtain ⟨u2, hu2⟩ : ∃ z, A[j].2.2.2 = z := ⟨_, rfl⟩
          have hm : A[j] = (x2, y2, z2', u2) := by rw [← hx2, ← hy2, ← hz2, ← hu2]
          have HT := Lib.hid (show A.take (j + 1) = A.take j ++ [(x2, y2, z2', u2)] by rw [List.take_succ_eq_append_getElem hjA, hm])
          obtain ⟨b2, o2, rfl, _, g4, g5, g6, g61⟩ := fd_cells HE3.out.at_ hjA hm
          clear hx2 hy2 hz2 hu2 hm
          cases b with
          | true =>
            go_wp2
            go_quiet (fail)
            go_wp2
            go_roundw
            case rel => exact ⟨j + 1, true, by omega, by go_num, rfl, Lib.hid (by rw [HT.out, List.mem_append]; exact ⟨fun _ => .inl (HB.out.1 (by simp)), fun _ => rfl⟩), _, rfl⟩
            case measure => simp [intOf]; omega
          | false =>
            by_cases he : x2 = x ∧ y2 = y ∧ z2' = z ∧ u2 = u
            · obtain ⟨rfl, rfl, rfl, rfl⟩ := he
              go_wp2
              go_quiet (fail)
              go_wp2
              go_roundw
              case rel => exact ⟨j + 1, true, by omega, by go_num, rfl, Lib.hid (by rw [HT.out, List.mem_append]; exact ⟨fun _ => .inr (by simp), fun _ => rfl⟩), _, rfl⟩
              case measure => simp [intOf]; omega
            · have h1 : ((x, y, z, u) : Fd) ≠ (x2, y2, z2', u2) := fun e => he ⟨(congrArg (fun v : Fd => v.1) e).symm, (congrArg (fun v : Fd => v.2.1) e).symm, (congrArg (fun v : Fd => v.2.2.1) e).symm, (congrArg (fun v : Fd => v.2.2.2) e).symm⟩
              have HNQ := Lib.hid (NotSame.mk h1)
              have h2 : x2 = x → y2 = y → z2' = z → ¬ u2 = u := fun a b c d => he ⟨a, b, c, d⟩
              clear he h1
              by_cases e1 : x2 = x
              · by_cases e2 : y2 = y
                · by_cases e3 : z2' = z
                  · have f4 : (u2 == u) = false := beq_eq_false_iff_ne.2 (h2 e1 e2 e3)
                    clear h2
                    subst e1 e2 e3
                    go_wp2
                    go_quiet (fail)
                    go_wp2
                    go_roundw
                    case rel => exact ⟨j + 1, false, by omega, by go_num, rfl, Lib.hid (by rw [HT.out, List.mem_append]; exact ⟨fun h => absurd h (by decide), fun h => by rcases h with h | h; exact HB.out.2 h; exact HNQ.out.no (List.mem_singleton.1 h)⟩), _, rfl⟩
                    case measure => simp [intOf]; omega
                  · clear h2
                    subst e1 e2
                    have f3 : (z2' == z) = false := beq_eq_false_iff_ne.2 e3
                    go_wp2
                    go_quiet (fail)
                    go_wp2
                    go_roundw
                    case rel => exact ⟨j + 1, false, by omega, by go_num, rfl, Lib.hid (by rw [HT.out, List.mem_append]; exact ⟨fun h => absurd h (by decide), fun h => by rcases h with h | h; exact HB.out.2 h; exact HNQ.out.no (List.mem_singleton.1 h)⟩), _, rfl⟩
                    case measure => simp [intOf]; omega
                · clear h2
                  subst e1
                  have f3 : (y2 == y) = false := beq_eq_false_iff_ne.2 e2
                  go_wp2
                  go_quiet (fail)
                  go_wp2
                  go_roundw
                  case rel => exact ⟨j + 1, false, by omega, by go_num, rfl, Lib.hid (by rw [HT.out, List.mem_append]; exact ⟨fun h => absurd h (by decide), fun h => by rcases h with h | h; exact HB.out.2 h; exact HNQ.out.no (List.mem_singleton.1 h)⟩), _, rfl⟩
                  case measure => simp [intOf]; omega
              · clear h2
                have f3 : (x2 == x) = false := beq_eq_false_iff_ne.2 e1
                go_wp2
                go_quiet (fail)
                go_wp2
                go_roundw
                case rel => exact ⟨j + 1, false, by omega, by go_num, rfl, Lib.hid (by rw [HT.out, List.mem_append]; exact ⟨fun h => absurd h (by decide), fun h => by rcases h with h | h; exact HB.out.2 h; exact HNQ.out.no (List.mem_singleton.1 h)⟩), _, rfl⟩
                case measure => simp [intOf]; omega
        · have z2 : ¬ (j : Int) < (nA : Int) := by omega
          obtain rfl : b = true := HB.out.2 (by rw [List.take_of_length_le (by have := HE3.out.len; omega)]; exact HM.out)
          go_wp2
          go_roundw
          case rel => exact ⟨i + 1, by omega, by go_num, _, rfl⟩
          case measure => simp [intOf]; omega
    · have z1 : ¬ (i : Int) < (nR : Int) := by omega
      have BB := below_drewN' HBB.out q
      clear HBB
      clear HE1 HE3
      go_wp2_with fail
      refine (alive_any _).mono ?_
      rintro e wq ⟨rfl, rfl⟩
      go_wp2
      go_ret
      exact ⟨rfl, BB⟩

end Go.Proofs.Ytclblnkeakkdeaa
