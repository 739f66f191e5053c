/-
  The walk of chapter 3's law FindPrint over drawn texts: it returns true, and nothing that was there is written. No conditions.
-/
import Derived.Test.YtpheiapnhgllnaaLawsTP
import Derived.Test.YtpheiapnhgllnaaPrintF
namespace Go.Proofs.Ytpheiapnhgllnaa
open Go.RowKit

set_option maxHeartbeats 1000000 in
theorem hasInt_is (a : Option Addr) (n c : Nat) (l : List Int) (x : Int) (b : Bool) (w : World) (hn : n = l.length) (hl : n < 1099511627776) (h1 : CellsAt w a (intCells l)) (hb : b = true ↔ x ∈ l) :
    Calls Try.prog 30 #[.slice a n c, .int .i64 x] w fun e w' => e = .returned (.bool b) ∧ w = w' := by
  have HN := Lib.hid hn
  have HB := Lib.hid hb
  clear hn hb
  go_enter Try.func30, Try.ntmps30
  go_wp2
  go_loop [5] (fun i => ∃ k : Nat, k ≤ n ∧ i = .int .i64 k ∧ Hid (∀ j, j < k → l.getD j 0 ≠ x)) (fun i => n - (intOf i).toNat)
  case atStart => exact ⟨0, Nat.zero_le _, rfl, Lib.hid (fun j hj => by omega)⟩
  case round =>
    obtain ⟨k, hk, rfl, HK⟩ := hrel
    by_cases hlt : k < n
    · have hkl : k < l.length := by have := HN.out; omega
      obtain ⟨bb, o, rfl, hb0, hc⟩ := h1.spot (fun e => by have := congrArg List.length e; simp [intCells] at this; rw [this] at hkl; simp at hkl)
      obtain ⟨y, hy⟩ : ∃ y, l.getD k 0 = y := ⟨_, rfl⟩
      have hcell : w.cell? ⟨bb, o + k, none⟩ = some (.int .i64 y) := by
        refine hc k _ ?_
        subst hy
        simp [intCells, List.getD, List.getElem?_eq_getElem hkl]
      have HY := Lib.hid hy
      clear hc hy
      by_cases hyx : y = x
      · have t1 : (y == x) = true := by rw [hyx]; exact beq_self_eq_true _
        have hbt : b = true := HB.out.2 (by
          have h := HY.out
          rw [hyx, List.getD, List.getElem?_eq_getElem hkl] at h
          exact h ▸ List.getElem_mem hkl)
        subst hbt
        clear hyx
        go_wp2
        go_ret
        exact ⟨rfl, rfl⟩
      · have t1 : (y == x) = false := by simpa using hyx
        have HN' := Lib.hid (show ∀ j, j < k + 1 → l.getD j 0 ≠ x from fun j hj => by
          by_cases e : j = k
          · subst e; rw [HY.out]; exact hyx
          · exact HK.out j (by omega))
        clear hyx
        go_wp2
        go_round
        case rel => exact ⟨k + 1, by omega, by go_num, HN'⟩
        case measure => simp [intOf]; omega
    · have hbf : b = false := by
        rw [Bool.eq_false_iff]
        intro e
        obtain ⟨j, hj, he⟩ := List.mem_iff_getElem.1 (HB.out.1 e)
        refine HK.out j (by have := HN.out; omega) ?_
        rw [List.getD, List.getElem?_eq_getElem hj]
        exact he
      subst hbf
      go_wp2
      go_ret
      exact ⟨rfl, rfl⟩

theorem findTo_mem (s p : List UInt8) (m : Nat) (z : Int) : z ∈ findTo s p m ↔ ∃ k : Nat, k < m ∧ z = k ∧ pieceL s p.length k = p := by
  induction m with
  | zero => simp [findTo]
  | succ m ih =>
    have cut : (∃ k : Nat, k < m + 1 ∧ z = k ∧ pieceL s p.length k = p) ↔ (∃ k : Nat, k < m ∧ z = k ∧ pieceL s p.length k = p) ∨ (z = m ∧ pieceL s p.length m = p) := by
      constructor
      · rintro ⟨k, hk, h⟩
        by_cases e : k = m
        · subst e; exact .inr h
        · exact .inl ⟨k, by omega, h⟩
      · rintro (⟨k, hk, h⟩ | h)
        · exact ⟨k, by omega, h⟩
        · exact ⟨m, by omega, h⟩
    rw [cut, ← ih, findTo]
    split
    · rename_i h; simp [h]
    · rename_i h; simp [h]

theorem findTo_up (s p : List UInt8) (m : Nat) : (findTo s p m).Pairwise (· < ·) := by
  induction m with
  | zero => simp [findTo]
  | succ m ih =>
    rw [findTo]
    split
    · rw [List.pairwise_append]
      refine ⟨ih, by simp, fun x hx y hy => ?_⟩
      obtain ⟨k, hk, e, _⟩ := (findTo_mem s p m x).1 hx
      simp only [List.mem_singleton] at hy
      omega
    · exact ih

theorem up_getD {l : List Int} (h : l.Pairwise (· < ·)) (j : Nat) (hj : j + 1 < l.length) : l.getD j 0 < l.getD (j + 1) 0 := by
  rw [List.getD, List.getD, List.getElem?_eq_getElem hj, List.getElem?_eq_getElem (by omega : j < l.length)]
  exact List.pairwise_iff_getElem.1 h j (j + 1) (by omega) hj (by omega)

/-- What is known of the places of a piece. -/
structure FoundKnown (s p : ByteArray) (F : List Int) : Prop where
  len : F.length ≤ s.size
  up : ∀ j, j + 1 < F.length → F.getD j 0 < F.getD (j + 1) 0
  here : ∀ k : Nat, 0 < p.size → k + p.size ≤ s.size → ((k : Int) ∈ F ↔ s.extract k (k + p.size) = p)

theorem found_known (s p : ByteArray) (F : List Int) (hF : findL s.data.toList p.data.toList = F) : FoundKnown s p F := by
  subst hF
  have hsl : s.data.toList.length = s.size := rfl
  have hpl : p.data.toList.length = p.size := rfl
  unfold findL
  split
  · exact ⟨by simp, fun j hj => by simp at hj, fun k h1 h2 => by omega⟩
  · refine ⟨?_, fun j hj => up_getD (findTo_up _ _ _) j hj, fun k h1 h2 => ?_⟩
    · have := findTo_len s.data.toList p.data.toList (s.data.toList.length - p.data.toList.length + 1); omega
    · rw [findTo_mem, piece_iff]
      constructor
      · rintro ⟨j, _, e, h⟩
        obtain rfl : k = j := by omega
        exact h
      · intro h
        exact ⟨k, by omega, rfl, h⟩

theorem rising_b (a : Option Addr) (n c : Nat) (l : List Int) (w : World) (hn : n = l.length) (hl : n < 1099511627776) (h1 : CellsAt w a (intCells l)) (hr : ∀ j, j + 1 < l.length → l.getD j 0 < l.getD (j + 1) 0) :
    Calls Try.prog 29 #[.slice a n c] w fun e w' => e = .returned (.bool true) ∧ ∃ q, w' = w.drewN q := by
  subst hn
  exact rising_yes a c l w hl (intsT h1) hr

set_option maxHeartbeats 4000000 in
theorem walkFnFindPrint (a : Option Addr) (len cap : Nat) (zs : List Int) (w : World) (h : IsRowK .u8 w a len cap zs) :
    Calls Try.prog 8 #[.slice a len cap] w fun e w' => e = .returned (.bool true) ∧ Below w.heap.size w w' := by
  by_cases hs : 1048576 < len
  · have h2 : (1048576 : Int) < (len : Int) := by omega
    go_enter Try.func8, Try.ntmps8
    go_wp2
    go_ret
    exact ⟨rfl, Below.refl _ _⟩
  go_enter Try.func8, Try.ntmps8
  go_wp2_with fail
  refine (DrawFindPrint_any _ _ _ _ _ h).mono ?_
  rintro e w1 ⟨s, p, hs9, hp9, rfl, hb⟩
  clear h
  have c1 := fun w => implFindPrint_any s p w (by omega) (by omega)
  have c2 := fun w => specFindPrint_any s p w (by omega) (by omega)
  obtain ⟨F, hF⟩ : ∃ F, findL s.data.toList p.data.toList = F := ⟨_, rfl⟩
  rw [hF] at c1 c2
  have HF := Lib.hid (found_known s p F hF)
  clear hF
  go_wp2_with fail
  refine (c1 _).mono ?_
  rintro e w2 ⟨a2, n2, c2', rfl, o2⟩
  have HN := Lib.hid (ints_lenT o2.own)
  have hn9 : n2 ≤ 1000 := by have := HN.out; have := HF.out.len; omega
  have hb2 := hb.trans (o2.below.mono hb.size)
  go_wp2_with fail
  refine (c2 _).mono ?_
  rintro e w3 ⟨a3, n3, c3', rfl, o3⟩
  have HN3 := Lib.hid (ints_lenT o3.own)
  have o23 := o2.later o3.below
  have hb3 := hb2.trans (o3.below.mono hb2.size)
  clear o2 hb2
  go_wp2_with fail
  refine (sameInts_b _ _ _ _ _ _ F _ HN.out HN3.out (by omega) (cellsAt_own o23.own) (cellsAt_own o3.own)).mono ?_
  rintro e w4 ⟨rfl, q, rfl⟩
  have hat := (cellsAt_own o23.own).drewN q
  have hb4 := below_drewN' hb3 q
  obtain ⟨w4, HW⟩ : ∃ w4, Hid (w3.drewN q = w4) := ⟨_, Lib.hid rfl⟩
  rw [HW.out] at hat hb4 ⊢
  clear o23 o3 hb3 c1 c2 HW
  go_wp2_with fail
  refine (rising_b _ _ _ F _ HN.out (by omega) hat HF.out.up).mono ?_
  rintro e w5 ⟨rfl, q5, rfl⟩
  have hat5 := hat.drewN q5
  have hb5 := below_drewN' hb4 q5
  obtain ⟨w5, HW⟩ : ∃ w5, Hid (w4.drewN q5 = w5) := ⟨_, Lib.hid rfl⟩
  rw [HW.out] at hat5 hb5 ⊢
  clear hat hb4 HW
  by_cases hp0 : p.size = 0
  · obtain rfl : p = ({ data := #[] } : ByteArray) := ByteArray.ext (Array.eq_empty_of_size_eq_zero hp0)
    clear hp0
    go_wp2
    refine wp_loop_rounds 1 ?_
    rw [rounds_succ]
    go_wp2_with fail
    refine (alive_any _).mono ?_
    rintro e w6 ⟨rfl, rfl⟩
    go_wp2
    go_ret
    exact ⟨rfl, hb5⟩
  have hpn : ¬ p.toList = [] := fun e => hp0 (by
    have h : p.data.toList = [] := by rw [← ByteArray.toList_eq]; exact e
    have h2 : p.data.toList.length = p.size := rfl
    rw [h] at h2; exact h2.symm)
  have hpe : p.toList.isEmpty = false := by simpa using hpn
  have hp1 : 1 ≤ p.size := by omega
  clear hp0
  go_wp2
  go_loopw [6] (fun i wr => ∃ m : Nat, m ≤ s.size ∧ i = .int .i64 m ∧ Below w.heap.size w wr ∧ CellsAt wr a2 (intCells F)) (fun i _ => s.size + 1 - (intOf i).toNat)
  case atStart => exact ⟨0, Nat.zero_le _, rfl, hb5, hat5⟩
  case round =>
    clear hb5 hat5
    obtain ⟨m, hm, rfl, hbr, hatr⟩ := hrel
    by_cases hlt : m + p.size ≤ s.size
    · have hmem := HF.out.here m (by omega) hlt
      have sl1 : ∀ w, (Instr.slice 9 (.string s) (some (.int .i64 m)) (some (.int .i64 ((m : Int) + (p.size : Int)))) none).run Try.prog w = .ok (.string (s.extract m (m + p.size))) w := fun w => by
        have := run_slice_string (P := Try.prog) w 9 s .i64 .i64 m ((m : Int) + (p.size : Int)) Try.uls3 (by omega) (by omega) (by omega)
        rwa [Int.toNat_natCast, show ((m : Int) + (p.size : Int)).toNat = m + p.size by omega] at this
      obtain ⟨u, hu⟩ : ∃ u, s.extract m (m + p.size) = u := ⟨_, rfl⟩
      rw [hu] at hmem sl1
      obtain ⟨b, hb⟩ : ∃ b, (u.toList == p.toList) = b := ⟨_, rfl⟩
      have hbm : b = true ↔ (m : Int) ∈ F := by
        rw [hmem, ← hb, beq_iff_eq]
        exact ⟨fun e => toListP_inj e, fun e => by rw [e]⟩
      have c3 := fun q => hasInt_is a2 n2 c2' F (m : Int) b (wr.drewN q) HN.out (by omega) (hatr.drewN q) hbm
      have HR := Lib.hid hbr
      have HA := Lib.hid hatr
      clear hmem hbm hu hbr hatr
      go_wp2
      go_quiet ((go_at_call 30; exact Calls.quiet_of_same ((c3 _).mono (fun _ _ h => ⟨h.1, h.2.symm⟩))))
      go_wp2
      go_roundw
      case rel => exact ⟨m + 1, by omega, by go_num, below_drewN' HR.out _, HA.out.drewN _⟩
      case measure => simp [intOf]; omega
    · have HR := Lib.hid hbr
      clear hatr hbr
      go_wp2_with fail
      refine (alive_any _).mono ?_
      rintro e w6 ⟨rfl, rfl⟩
      go_wp2
      go_ret
      exact ⟨rfl, HR.out⟩

end Go.Proofs.Ytpheiapnhgllnaa
