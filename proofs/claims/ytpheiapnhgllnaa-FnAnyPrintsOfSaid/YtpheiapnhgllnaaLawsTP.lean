/-
  The walks of chapter 3's laws PrintsOf and AnyPrintsOf: each returns true, and nothing that was there is written. No conditions.
-/
import Derived.Test.YtpheiapnhgllnaaPrintK
import Derived.Test.YtpheiapnhgllnaaDrawC
import Derived.Test.YtpheiapnhgllnaaHelpA
import Derived.Test.YtpheiapnhgllnaaHelpS
namespace Go.Proofs.Ytpheiapnhgllnaa
open Go.RowKit

theorem ints_lenT {w : World} {B : Nat} {e : TypeId} {a : Option Addr} {n c : Nat} {l : List Int} (h : w.ownsRow B e 1 (.slice a n c) n (intCells l)) : n = l.length := by
  have := h.1
  simp only [intCells, List.length_map] at this; omega
theorem intsT {w : World} {a : Option Addr} {l : List Int} (h : CellsAt w a (intCells l)) : IntsAt w a l :=
  ⟨fun hne => by
    obtain ⟨b, o, ha, _, hc⟩ := h.spot (by simpa [intCells] using hne)
    refine ⟨b, o, ha, fun j hj => hc j _ ?_⟩
    simp [intCells, List.getD, List.getElem?_eq_getElem hj]⟩
theorem sameInts_b (a b : Option Addr) (n m c d : Nat) (l : List Int) (w : World) (hn : n = l.length) (hm : m = l.length) (hl : n < 1099511627776) (h1 : CellsAt w a (intCells l)) (h2 : CellsAt w b (intCells l)) :
    Calls Try.prog 19 #[.slice a n c, .slice b m d] w fun e w' => e = .returned (.bool true) ∧ ∃ q, w' = w.drewN q := by
  subst hm; subst hn
  exact sameInts_same a b c d l w hl (intsT h1) (intsT h2)

/-- What is known of the fingerprints of all pieces of j bytes. -/
structure PrintsKnown (s : ByteArray) (j : Nat) (L : List Int) : Prop where
  len : L.length = s.size - j + 1
  print : ∀ i, i < L.length → L.getD i 0 = (prN (s.extract i (i + j)).data.toList : Nat)
theorem prints_known (s : ByteArray) (j : Nat) (L : List Int) (h1 : 0 < j) (h2 : j ≤ s.size) (hL : printsL s.data.toList (j : Int) = L) : PrintsKnown s j L := by
  rw [printsL_ok h1 h2] at hL
  subst hL
  refine ⟨printsTo_len _ _ _, fun i hi => ?_⟩
  rw [printsTo_len] at hi
  rw [extract_piece]
  exact printsTo_get _ _ _ _ hi

theorem printsL_lenT (s : List UInt8) (k : Int) : (printsL s k).length ≤ s.length := by
  unfold printsL
  split
  · simp
  · rw [printsTo_len]; omega

set_option maxHeartbeats 4000000 in
theorem walkFnPrintsOf (a : Option Addr) (len cap : Nat) (zs : List Int) (w : World) (h : IsRowK .u8 w a len cap zs) :
    Calls Try.prog 5 #[.slice a len cap] w fun e w' => e = .returned (.bool true) ∧ Below w.heap.size w w' := by
  by_cases hs : 1048576 < len
  · have h2 : (1048576 : Int) < (len : Int) := by omega
    go_enter Try.func5, Try.ntmps5
    go_wp2
    go_ret
    exact ⟨rfl, Below.refl _ _⟩
  go_enter Try.func5, Try.ntmps5
  go_wp2_with fail
  refine (DrawPrintsOf_any _ _ _ _ _ h).mono ?_
  rintro e w1 ⟨t, k, ht, hk8, hk9, rfl, hb⟩
  clear h
  obtain ⟨L, hL⟩ : ∃ L, printsL t.data.toList k = L := ⟨_, rfl⟩
  have hLm : L.length ≤ 1000 := by have h := printsL_lenT t.data.toList k; rw [hL] at h; have : t.data.toList.length = t.size := rfl; omega
  have c1 := fun w => implPrintsOf_is t k L w (by omega) hL
  have c2 := fun w => specPrintsOf_is t k L w (by omega) hL
  have HL := Lib.hid hL
  clear hL
  go_wp2_with fail
  refine (c1 _).mono ?_
  rintro e w2 ⟨a2, n2, c2', rfl, o2⟩
  have hn2 := ints_lenT o2.own
  have HN := Lib.hid hn2
  have hn9 : n2 ≤ 1000 := by omega
  have hb2 := hb.trans (o2.below.mono hb.size)
  clear hn2 hLm
  go_wp2_with fail
  refine (c2 _).mono ?_
  rintro e w3 ⟨a3, n3, c3', rfl, o3⟩
  have HN3 := Lib.hid (ints_lenT o3.own)
  have o23 := o2.later o3.below
  have hb3 := hb2.trans (o3.below.mono hb2.size)
  clear o2 hb2
  go_wp2_with fail
  refine (sameInts_b _ _ _ _ _ _ L _ HN.out HN3.out (by omega) (cellsAt_own o23.own) (cellsAt_own o3.own)).mono ?_
  rintro e w4 ⟨rfl, q, rfl⟩
  have hat := (cellsAt_own o23.own).drewN q
  have hb4 := below_drewN' hb3 q
  obtain ⟨w4, HW⟩ : ∃ w4, Hid (w3.drewN q = w4) := ⟨_, Lib.hid rfl⟩
  rw [HW.out] at hat hb4 ⊢
  clear o23 o3 hb3 c1 c2 HW
  by_cases hk1 : k < 1
  · have h0 := HL.out
    rw [printsL_bad (.inl hk1)] at h0
    have hn0 : n2 = 0 := by have := HN.out; rw [← h0] at this; simpa using this
    subst hn0
    go_wp2_with fail
    refine (alive_any _).mono ?_
    rintro e w5 ⟨rfl, rfl⟩
    go_wp2
    go_ret
    exact ⟨rfl, hb4⟩
  by_cases hk2 : (t.size : Int) < k
  · have h0 := HL.out
    rw [printsL_bad (.inr hk2)] at h0
    have hn0 : n2 = 0 := by have := HN.out; rw [← h0] at this; simpa using this
    subst hn0
    go_wp2_with fail
    refine (alive_any _).mono ?_
    rintro e w5 ⟨rfl, rfl⟩
    go_wp2
    go_ret
    exact ⟨rfl, hb4⟩
  obtain ⟨j, rfl⟩ : ∃ j : Nat, k = j := ⟨k.toNat, by omega⟩
  have HP := Lib.hid (prints_known t j L (by omega) (by omega) HL.out)
  have hnj : n2 = t.size - j + 1 := HN.out.trans HP.out.len
  have hnI : (n2 : Int) = (t.size : Int) - (j : Int) + 1 := by omega
  have hj1 : 1 ≤ j := by omega
  have hj9 : j ≤ t.size := by omega
  have tn : ((n2 : Int) == (t.size : Int) - (j : Int) + 1) = true := by rw [hnI]; exact beq_self_eq_true _
  have HI := Lib.hid hnI
  clear hnI hnj hk1 hk2
  go_wp2
  go_loopw [6] (fun i wr => ∃ m : Nat, m ≤ n2 ∧ i = .int .i64 m ∧ Below w.heap.size w wr ∧ CellsAt wr a2 (intCells L)) (fun i _ => n2 - (intOf i).toNat)
  case atStart => exact ⟨0, Nat.zero_le _, rfl, hb4, hat⟩
  case round =>
    clear hb4 hat
    obtain ⟨m, hm, rfl, hbr, hatr⟩ := hrel
    by_cases hlt : m < n2
    · have hml : m < L.length := by have := HN.out; omega
      have hfit : m + j ≤ t.size := by have := HI.out; omega
      have hpr := HP.out.print m hml
      obtain ⟨x, hx⟩ : ∃ x, prN (t.extract m (m + j)).data.toList = x := ⟨_, rfl⟩
      rw [hx] at hpr
      obtain ⟨b, o, rfl, hb0', hc⟩ := hatr.spot (fun e => by have := congrArg List.length e; simp [intCells] at this; rw [this] at hml; simp at hml)
      have hcell := cells_int m (x : Int) hpr hml hc
      have sl1 : ∀ w, (Instr.slice 9 (.string t) (some (.int .i64 m)) (some (.int .i64 ((m : Int) + (j : Int)))) none).run Try.prog w = .ok (.string (t.extract m (m + j))) w := fun w => by
        have := run_slice_string (P := Try.prog) w 9 t .i64 .i64 m ((m : Int) + (j : Int)) Try.uls3 (by omega) (by omega) (by omega)
        rwa [Int.toNat_natCast, show ((m : Int) + (j : Int)).toNat = m + j by omega] at this
      have hsz : (t.extract m (m + j)).size ≤ 1048577 := by simp only [ByteArray.size_extract]; omega
      obtain ⟨p, hp⟩ : ∃ p, t.extract m (m + j) = p := ⟨_, rfl⟩
      rw [hp] at hx sl1 hsz
      have c3 := fun w => implPrintOf_is p x w hsz hx
      have HR := Lib.hid hbr
      have HA := Lib.hid hatr
      clear hpr hx hc hp hsz hbr hatr
      go_wp2
      go_quiet ((go_at_call 11; exact Calls.quiet_of_same ((c3 _).mono (fun _ _ h => ⟨h.1, h.2.symm⟩))))
      go_wp2
      go_roundw
      case rel => exact ⟨m + 1, by omega, by go_num, below_drewN' HR.out _, HA.out.drewN _⟩
      case measure => simp [intOf]; omega
    · have HR := Lib.hid hbr
      clear hatr hbr
      go_wp2_with fail
      refine (alive_any _).mono ?_
      rintro e w5 ⟨rfl, rfl⟩
      go_wp2
      go_ret
      exact ⟨rfl, HR.out⟩

set_option maxHeartbeats 4000000 in
theorem walkFnAnyPrintsOf (a0 : ByteArray) (a1 : Int) (_w0 : a0.size ≤ maxLen) (_w1 : (Lit.int .i64 a1).wf = true) (w : World) :
    Calls Try.prog 9 #[.string a0, .int .i64 a1] w fun e w' => e = .returned (.bool true) ∧ Below w.heap.size w w' := by
  by_cases hs : 1000 < a0.size
  · have hb0 : decide ((1000 : Int) < a0.size) = true := by simp; omega
    go_enter Try.func9, Try.ntmps9
    go_wp2_with fail
    refine (bigText_is true _ _ _ hb0).mono ?_
    rintro e w1 ⟨rfl, rfl⟩
    go_wp2_with fail
    refine (alive_any _).mono ?_
    rintro e w1 ⟨rfl, rfl⟩
    go_wp2
    go_ret
    exact ⟨rfl, Below.refl _ _⟩
  have hb0 : decide ((1000 : Int) < a0.size) = false := by simp; omega
  go_enter Try.func9, Try.ntmps9
  go_wp2_with fail
  refine (bigText_is false _ _ _ hb0).mono ?_
  rintro e w1 ⟨rfl, rfl⟩
  clear hb0
  have hb := Below.refl w.heap.size w
  obtain ⟨L, hL⟩ : ∃ L, printsL a0.data.toList a1 = L := ⟨_, rfl⟩
  have hLm : L.length ≤ 1000 := by have h := printsL_lenT a0.data.toList a1; rw [hL] at h; have : a0.data.toList.length = a0.size := rfl; omega
  have c1 := fun w => implPrintsOf_is a0 a1 L w (by omega) hL
  have c2 := fun w => specPrintsOf_is a0 a1 L w (by omega) hL
  have HL := Lib.hid hL
  clear hL
  go_wp2_with fail
  refine (c1 _).mono ?_
  rintro e w2 ⟨a2, n2, c2', rfl, o2⟩
  have hn2 := ints_lenT o2.own
  have HN := Lib.hid hn2
  have hn9 : n2 ≤ 1000 := by omega
  have hb2 := hb.trans (o2.below.mono hb.size)
  clear hn2 hLm
  go_wp2_with fail
  refine (c2 _).mono ?_
  rintro e w3 ⟨a3, n3, c3', rfl, o3⟩
  have HN3 := Lib.hid (ints_lenT o3.own)
  have o23 := o2.later o3.below
  have hb3 := hb2.trans (o3.below.mono hb2.size)
  clear o2 hb2
  go_wp2_with fail
  refine (sameInts_b _ _ _ _ _ _ L _ HN.out HN3.out (by omega) (cellsAt_own o23.own) (cellsAt_own o3.own)).mono ?_
  rintro e w4 ⟨rfl, q, rfl⟩
  have hat := (cellsAt_own o23.own).drewN q
  have hb4 := below_drewN' hb3 q
  obtain ⟨w4, HW⟩ : ∃ w4, Hid (w3.drewN q = w4) := ⟨_, Lib.hid rfl⟩
  rw [HW.out] at hat hb4 ⊢
  clear o23 o3 hb3 c1 c2 HW
  by_cases hk1 : a1 < 1
  · have h0 := HL.out
    rw [printsL_bad (.inl hk1)] at h0
    have hn0 : n2 = 0 := by have := HN.out; rw [← h0] at this; simpa using this
    subst hn0
    go_wp2_with fail
    refine (alive_any _).mono ?_
    rintro e w5 ⟨rfl, rfl⟩
    go_wp2
    go_ret
    exact ⟨rfl, hb4⟩
  by_cases hk2 : (a0.size : Int) < a1
  · have h0 := HL.out
    rw [printsL_bad (.inr hk2)] at h0
    have hn0 : n2 = 0 := by have := HN.out; rw [← h0] at this; simpa using this
    subst hn0
    go_wp2_with fail
    refine (alive_any _).mono ?_
    rintro e w5 ⟨rfl, rfl⟩
    go_wp2
    go_ret
    exact ⟨rfl, hb4⟩
  obtain ⟨j, rfl⟩ : ∃ j : Nat, a1 = j := ⟨a1.toNat, by omega⟩
  have HP := Lib.hid (prints_known a0 j L (by omega) (by omega) HL.out)
  have hnj : n2 = a0.size - j + 1 := HN.out.trans HP.out.len
  have hnI : (n2 : Int) = (a0.size : Int) - (j : Int) + 1 := by omega
  have hj1 : 1 ≤ j := by omega
  have hj9 : j ≤ a0.size := by omega
  have tn : ((n2 : Int) == (a0.size : Int) - (j : Int) + 1) = true := by rw [hnI]; exact beq_self_eq_true _
  have HI := Lib.hid hnI
  clear hnI hnj hk1 hk2
  go_wp2
  go_loopw [6] (fun i wr => ∃ m : Nat, m ≤ n2 ∧ i = .int .i64 m ∧ Below w.heap.size w wr ∧ CellsAt wr a2 (intCells L)) (fun i _ => n2 - (intOf i).toNat)
  case atStart => exact ⟨0, Nat.zero_le _, rfl, hb4, hat⟩
  case round =>
    clear hb4 hat
    obtain ⟨m, hm, rfl, hbr, hatr⟩ := hrel
    by_cases hlt : m < n2
    · have hml : m < L.length := by have := HN.out; omega
      have hfit : m + j ≤ a0.size := by have := HI.out; omega
      have hpr := HP.out.print m hml
      obtain ⟨x, hx⟩ : ∃ x, prN (a0.extract m (m + j)).data.toList = x := ⟨_, rfl⟩
      rw [hx] at hpr
      obtain ⟨b, o, rfl, hb0', hc⟩ := hatr.spot (fun e => by have := congrArg List.length e; simp [intCells] at this; rw [this] at hml; simp at hml)
      have hcell := cells_int m (x : Int) hpr hml hc
      have sl1 : ∀ w, (Instr.slice 9 (.string a0) (some (.int .i64 m)) (some (.int .i64 ((m : Int) + (j : Int)))) none).run Try.prog w = .ok (.string (a0.extract m (m + j))) w := fun w => by
        have := run_slice_string (P := Try.prog) w 9 a0 .i64 .i64 m ((m : Int) + (j : Int)) Try.uls3 (by omega) (by omega) (by omega)
        rwa [Int.toNat_natCast, show ((m : Int) + (j : Int)).toNat = m + j by omega] at this
      have hsz : (a0.extract m (m + j)).size ≤ 1048577 := by simp only [ByteArray.size_extract]; omega
      obtain ⟨p, hp⟩ : ∃ p, a0.extract m (m + j) = p := ⟨_, rfl⟩
      rw [hp] at hx sl1 hsz
      have c3 := fun w => implPrintOf_is p x w hsz hx
      have HR := Lib.hid hbr
      have HA := Lib.hid hatr
      clear hpr hx hc hp hsz hbr hatr
      go_wp2
      go_quiet ((go_at_call 11; exact Calls.quiet_of_same ((c3 _).mono (fun _ _ h => ⟨h.1, h.2.symm⟩))))
      go_wp2
      go_roundw
      case rel => exact ⟨m + 1, by omega, by go_num, below_drewN' HR.out _, HA.out.drewN _⟩
      case measure => simp [intOf]; omega
    · have HR := Lib.hid hbr
      clear hatr hbr
      go_wp2_with fail
      refine (alive_any _).mono ?_
      rintro e w5 ⟨rfl, rfl⟩
      go_wp2
      go_ret
      exact ⟨rfl, HR.out⟩

end Go.Proofs.Ytpheiapnhgllnaa
