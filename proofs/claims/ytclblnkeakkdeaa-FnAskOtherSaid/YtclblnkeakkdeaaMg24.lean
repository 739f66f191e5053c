/-
  The contracts of the program's functions PiecesOf and LongestPiece. Condition: texts have at most 2^20 bytes. (Written by wip/tools/ch7_pieces_impl.py.)
  The contracts of the model's functions PiecesOf, LongestPiece and TurnedPieces. Conditions: texts have at most 2^20 bytes; rows at most 2^20 pieces.
  The contracts of the model's functions EntryLess and ShelfOk. Condition: rows have at most 2^22 entries.
-/
import Derived.Test.YtclblnkeakkdeaaMg14
import Derived.Test.YtclblnkeakkdeaaMg15
import Derived.Test.YtclblnkeakkdeaaMg13
import Derived.Test.YtclblnkeakkdeaaMg11
import Derived.Test.YtclblnkeakkdeaaMg17
import Derived.Deep.QuietTactic
import Derived.Deep.RegionHeld3
import Derived.BigQuiet
import Derived.IntWalk
namespace Go.Proofs.Ytclblnkeakkdeaa
open Go.RowKit

set_option maxRecDepth 4000 in
set_option maxHeartbeats 8000000 in
theorem implPieces_any (s t : ByteArray) (n : Int) (R : List En) (w : World) (h : piecesT s t n = R) (hn9 : n ≤ 9223372036854775807) (hs : s.size ≤ 1048576) (ht : t.size ≤ 1048576) :
    Calls Try.prog 42 #[.string s, .string t, .int .i64 n] w fun e w' => ∃ a m c, e = .returned (.slice a m c) ∧ One w w.heap.size w' 61 3 a m c (entsC R) := by
  subst h
  by_cases hn : n < 1
  · have HE := Lib.hid (piecesT_bad (s := s) (t := t) hn)
    go_enter Try.func42, Try.ntmps42
    go_wp2
    go_ret
    exact ⟨_, _, _, rfl, by rw [HE.out]; exact One.nil w 61 3⟩
  · obtain ⟨N, rfl⟩ : ∃ N : Nat, n = N := ⟨n.toNat, by omega⟩
    have hN1 : 1 ≤ N := by omega
    have HR := Lib.hid (piecesT_nat (s := s) (t := t) (n := N) hN1)
    have e1 : IntKind.i64.wrap ((s.size : Int) - (N : Int)) = (s.size : Int) - (N : Int) := IntWalk.i64_in _ (by omega)
    have e2 : IntKind.i64.wrap ((t.size : Int) - (N : Int)) = (t.size : Int) - (N : Int) := IntWalk.i64_in _ (by omega)
    go_enter Try.func42, Try.ntmps42
    go_wp2
    go_loopw [7, 8] (fun v i_ wr => ∃ (i m c : Nat) (a : Option Addr), i ≤ s.size ∧ i_ = .int .i64 (i : Int) ∧ v = .slice a m c ∧ Hid (One w w.heap.size wr 61 3 a m c (entsC (piecesN s t N i)))) (fun _ i_ _ => s.size - (intOf i_).toNat)
    case atStart => exact ⟨0, _, _, _, Nat.zero_le _, rfl, rfl, Lib.hid (One.nil w 61 3)⟩
    case round =>
      obtain ⟨i, m, c, a, hi, rfl, rfl, HO⟩ := hrel
      by_cases hlt : i + N ≤ s.size
      · have z1 : (i : Int) ≤ (s.size : Int) - (N : Int) := by omega
        have hi2 : i < s.size := by omega
        obtain ⟨wo, rfl⟩ : ∃ wo, wo = wr := ⟨_, rfl⟩
        go_wp2
        go_loopw [7, 9] (fun v j_ wr => ∃ (j m c : Nat) (a : Option Addr), j ≤ t.size ∧ j_ = .int .i64 (j : Int) ∧ v = .slice a m c ∧ Hid (One w w.heap.size wr 61 3 a m c (entsC (piecesN s t N i ++ rowP s t N i j)))) (fun _ j_ _ => t.size - (intOf j_).toNat)
        case atStart => exact ⟨0, m, c, a, Nat.zero_le _, rfl, rfl, Lib.hid (by rw [rowP_zero, List.append_nil]; exact HO.out)⟩
        case round =>
          obtain ⟨j, m, c, a, hj, rfl, rfl, HO⟩ := hrel
          by_cases hltj : j + N ≤ t.size
          · have z2 : (j : Int) ≤ (t.size : Int) - (N : Int) := by omega
            have hm9 : m ≤ 1099511627776 := by rw [ents_len7 HO.out.own]; exact pieces_room N i j hs ht hi2 hj
            have hN2 : (0 : Int) < (N : Int) := by omega
            rcases from_ways s t N i j hN1 with ⟨hgr, hst⟩ | ⟨r, hgr, hst, hNr, hpc⟩ | ⟨r, hgr, hst, hNr⟩
            · have cg := fun w => implFrom_any s t i j 0 0 0 w hgr hi hj (by omega) (by omega)
              have HRW := Lib.hid (rowP_no (n := N) hst)
              have hNr2 : (0 : Int) < (N : Int) := by omega
              clear hgr hst
              go_wp2_with fail
              refine (cg _).mono ?_
              rintro e w5 ⟨rfl, b5⟩
              have HO := Lib.hid ((HO.out.later b5).later ((Below.refl _ _).alloc (Nat.le_refl _) (.cells #[.int .i64 0, .int .i64 0, .int .i64 0] 61)))
              clear b5 cg
              go_wp2
              go_roundw
              case rel => exact ⟨j + 1, m, c, a, by omega, by go_num, rfl, Lib.hid (by rw [HRW.out]; exact HO.out)⟩
              case measure => simp [intOf]; omega
            · have cg := fun w => implFrom_any s t i j i j r w hgr hi hj (by omega) (by omega)
              have HRW := Lib.hid (rowP_yes hst)
              have HPC := Lib.hid hpc
              have hNr2 : (N : Int) ≤ (r : Int) := by omega
              clear hgr hst hpc
              go_wp2_with fail
              refine (cg _).mono ?_
              rintro e w5 ⟨rfl, b5⟩
              have HO := Lib.hid ((HO.out.later b5).later ((Below.refl _ _).alloc (Nat.le_refl _) (.cells #[.int .i64 (i : Int), .int .i64 (j : Int), .int .i64 (r : Int)] 61)))
              clear b5 cg
              go_wp2_with (at_builtin; refine wpList_append_row rfl (.tmp 38) (.tmp 40) 56 rfl Try.ulP7 Try.infoP7 rfl (by decide) HO.out rfl #[.int .i64 (i : Int), .int .i64 (j : Int), .int .i64 (r : Int)] (by rw [alloc_size7]; rfl) rfl (by simp [Value.oneCell']) (by unfold maxLen; omega) (by omega) ?_; intro a6 c6 w6 o6)
              go_roundw
              case rel => exact ⟨j + 1, m + 1, c6, a6, by omega, by go_num, rfl, Lib.hid (by rw [HRW.out, HPC.out, ← List.append_assoc, entsC_snoc]; exact o6)⟩
              case measure => simp [intOf]; omega
            · have cg := fun w => implFrom_any s t i j i j r w hgr hi hj (by omega) (by omega)
              have HRW := Lib.hid (rowP_no (n := N) hst)
              have hNr2 : (r : Int) < (N : Int) := by omega
              clear hgr hst
              go_wp2_with fail
              refine (cg _).mono ?_
              rintro e w5 ⟨rfl, b5⟩
              have HO := Lib.hid ((HO.out.later b5).later ((Below.refl _ _).alloc (Nat.le_refl _) (.cells #[.int .i64 (i : Int), .int .i64 (j : Int), .int .i64 (r : Int)] 61)))
              clear b5 cg
              go_wp2
              go_roundw
              case rel => exact ⟨j + 1, m, c, a, by omega, by go_num, rfl, Lib.hid (by rw [HRW.out]; exact HO.out)⟩
              case measure => simp [intOf]; omega
          · have HO := Lib.hid (show One w w.heap.size wr 61 3 a m c (entsC (piecesN s t N (i + 1))) by rw [piecesN_next, rowP_rest hj (by omega)]; exact HO.out)
            have z2 : (t.size : Int) - (N : Int) < (j : Int) := by omega
            go_wp2
            go_roundw
            case rel => exact ⟨i + 1, m, c, a, by omega, by go_num, rfl, HO⟩
            case measure => simp [intOf]; omega
      · have HE := Lib.hid (piecesN_rest (s := s) (t := t) (n := N) hi (by omega))
        have z1 : (s.size : Int) - (N : Int) < (i : Int) := by omega
        go_wp2
        go_ret
        exact ⟨_, _, _, rfl, by rw [HR.out, HE.out]; exact HO.out⟩

theorem longL_nonneg7 {l : List En} {x y z : Int} (h : longL (0, 0, 0) l = (x, y, z)) : 0 ≤ z := by
  have h1 := (longL_ge (0, 0, 0) l).1
  rw [h] at h1
  exact h1
/-- What the longest one becomes by one more. -/
theorem longL_more {l : List En} {x y z : Int} {p : En} (h : longL (0, 0, 0) l = (x, y, z)) : longL (0, 0, 0) (l ++ [p]) = if z < p.2.2 then p else (x, y, z) := by
  rw [longL_snoc, h]


end Go.Proofs.Ytclblnkeakkdeaa

namespace Go.Proofs.Ytclblnkeakkdeaa
open Go.RowKit

set_option maxRecDepth 4000 in
set_option maxHeartbeats 8000000 in
theorem specPieces_any (s t : ByteArray) (n : Int) (R : List En) (w : World) (h : piecesT s t n = R) (hs : s.size ≤ 1048576) (ht : t.size ≤ 1048576) :
    Calls Try.prog 99 #[.string s, .string t, .int .i64 n] w fun e w' => ∃ g m c, e = .returned (.slice (some ⟨g, 0, none⟩) m c) ∧ One w w.heap.size w' 61 3 (some ⟨g, 0, none⟩) m c (entsC R) := by
  subst h
  by_cases hn : n < 1
  · have HE := Lib.hid (piecesT_bad (s := s) (t := t) hn)
    go_enter Try.func99, Try.ntmps99
    go_wp2
    go_ret
    exact ⟨_, _, _, rfl, by rw [HE.out]; exact One.empty w 61 3⟩
  · obtain ⟨N, rfl⟩ : ∃ N : Nat, n = N := ⟨n.toNat, by omega⟩
    have HR := Lib.hid (piecesT_nat (s := s) (t := t) (n := N) (by omega))
    go_enter Try.func99, Try.ntmps99
    go_wp2
    go_loopw [7, 8] (fun v i_ wr => ∃ (i g m c : Nat), i ≤ s.size ∧ i_ = .int .i64 (i : Int) ∧ v = .slice (some ⟨g, 0, none⟩) m c ∧ Hid (One w w.heap.size wr 61 3 (some ⟨g, 0, none⟩) m c (entsC (piecesN s t N i)))) (fun _ i_ _ => s.size - (intOf i_).toNat)
    case atStart => exact ⟨0, _, _, _, Nat.zero_le _, rfl, rfl, Lib.hid (One.empty w 61 3)⟩
    case round =>
      obtain ⟨i, g, m, c, hi, rfl, rfl, HO⟩ := hrel
      by_cases hlt : i < s.size
      · have z1 : (i : Int) < (s.size : Int) := by omega
        obtain ⟨wo, rfl⟩ : ∃ wo, wo = wr := ⟨_, rfl⟩
        go_wp2
        go_loopw [7, 9] (fun v j_ wr => ∃ (j g m c : Nat), j ≤ t.size ∧ j_ = .int .i64 (j : Int) ∧ v = .slice (some ⟨g, 0, none⟩) m c ∧ Hid (One w w.heap.size wr 61 3 (some ⟨g, 0, none⟩) m c (entsC (piecesN s t N i ++ rowP s t N i j)))) (fun _ j_ _ => t.size - (intOf j_).toNat)
        case atStart => exact ⟨0, g, m, c, Nat.zero_le _, rfl, rfl, Lib.hid (by rw [rowP_zero, List.append_nil]; exact HO.out)⟩
        case round =>
          obtain ⟨j, g, m, c, hj, rfl, rfl, HO⟩ := hrel
          by_cases hltj : j < t.size
          · have z2 : (j : Int) < (t.size : Int) := by omega
            have hm9 : m ≤ 1099511627776 := by rw [ents_len7 HO.out.own]; exact pieces_room N i j hs ht hlt hj
            rcases grow_ways s t N i j with ⟨hgr, hst⟩ | ⟨r, hgr, hst, hNr, hpc⟩ | ⟨r, hgr, hst, hNr⟩ | ⟨x, y, z, hgr, hst, hxi⟩
            · have cg := fun w => specGrow_any s t i j 0 0 0 false w hgr (by omega) (by omega)
              have HRW := Lib.hid (rowP_no (n := N) hst)
              clear hgr hst
              go_wp2_with fail
              refine (cg _).mono ?_
              rintro e w5 ⟨rfl, b5⟩
              have HO := Lib.hid ((HO.out.later b5).later ((Below.refl _ _).alloc (Nat.le_refl _) (.cells #[.int .i64 0, .int .i64 0, .int .i64 0] 61)))
              clear b5 cg
              go_wp2
              go_roundw
              case rel => exact ⟨j + 1, g, m, c, by omega, by go_num, rfl, Lib.hid (by rw [HRW.out]; exact HO.out)⟩
              case measure => simp [intOf]; omega
            · have cg := fun w => specGrow_any s t i j i j r true w hgr (by omega) (by omega)
              have HRW := Lib.hid (rowP_yes hst)
              have HPC := Lib.hid hpc
              have hNr2 : (N : Int) ≤ (r : Int) := by omega
              clear hgr hst hpc
              go_wp2_with fail
              refine (cg _).mono ?_
              rintro e w5 ⟨rfl, b5⟩
              have HO := Lib.hid ((HO.out.later b5).later ((Below.refl _ _).alloc (Nat.le_refl _) (.cells #[.int .i64 (i : Int), .int .i64 (j : Int), .int .i64 (r : Int)] 61)))
              clear b5 cg
              go_wp2_with (at_builtin; refine wpList_append_row rfl (.tmp 55) (.tmp 57) 56 rfl Try.ulP7 Try.infoP7 rfl (by decide) HO.out rfl #[.int .i64 (i : Int), .int .i64 (j : Int), .int .i64 (r : Int)] (by rw [alloc_size7]; rfl) rfl (by simp [Value.oneCell']) (by unfold maxLen; omega) (by omega) ?_; intro a6 c6 w6 o6)
              obtain ⟨g6, rfl⟩ := o6.addr (by omega)
              go_roundw
              case rel => exact ⟨j + 1, g6, m + 1, c6, by omega, by go_num, rfl, Lib.hid (by rw [HRW.out, HPC.out, ← List.append_assoc, entsC_snoc]; exact o6)⟩
              case measure => simp [intOf]; omega
            · have cg := fun w => specGrow_any s t i j i j r true w hgr (by omega) (by omega)
              have HRW := Lib.hid (rowP_no (n := N) hst)
              have hNr2 : (r : Int) < (N : Int) := by omega
              clear hgr hst
              go_wp2_with fail
              refine (cg _).mono ?_
              rintro e w5 ⟨rfl, b5⟩
              have HO := Lib.hid ((HO.out.later b5).later ((Below.refl _ _).alloc (Nat.le_refl _) (.cells #[.int .i64 (i : Int), .int .i64 (j : Int), .int .i64 (r : Int)] 61)))
              clear b5 cg
              go_wp2
              go_roundw
              case rel => exact ⟨j + 1, g, m, c, by omega, by go_num, rfl, Lib.hid (by rw [HRW.out]; exact HO.out)⟩
              case measure => simp [intOf]; omega
            · have cg := fun w => specGrow_any s t i j x y z true w hgr (by omega) (by omega)
              have HRW := Lib.hid (rowP_no (n := N) hst)
              have hx2 : ((x : Int) == (i : Int)) = false := beq_eq_false_iff_ne.2 (by omega)
              have hx3 : (x == i) = false := beq_eq_false_iff_ne.2 (by omega)
              clear hgr hst
              go_wp2_with fail
              refine (cg _).mono ?_
              rintro e w5 ⟨rfl, b5⟩
              have HO := Lib.hid ((HO.out.later b5).later ((Below.refl _ _).alloc (Nat.le_refl _) (.cells #[.int .i64 (x : Int), .int .i64 (y : Int), .int .i64 (z : Int)] 61)))
              clear b5 cg
              go_wp2
              go_roundw
              case rel => exact ⟨j + 1, g, m, c, by omega, by go_num, rfl, Lib.hid (by rw [HRW.out]; exact HO.out)⟩
              case measure => simp [intOf]; omega
          · obtain rfl : j = t.size := by omega
            have HO := Lib.hid (show One w w.heap.size wr 61 3 (some ⟨g, 0, none⟩) m c (entsC (piecesN s t N (i + 1))) by rw [piecesN_next]; exact HO.out)
            go_wp2
            go_roundw
            case rel => exact ⟨i + 1, g, m, c, by omega, by go_num, rfl, HO⟩
            case measure => simp [intOf]; omega
      · obtain rfl : i = s.size := by omega
        go_wp2
        go_ret
        exact ⟨_, _, _, rfl, by rw [HR.out]; exact HO.out⟩

end Go.Proofs.Ytclblnkeakkdeaa

namespace Go.Proofs.Ytclblnkeakkdeaa
open Go.RowKit

theorem Try.ulE5 : Try.prog.underlying 23 = some (.slice 31) := by kernel_rfl
theorem Try.infoE5 : (Try.prog.info? 31).map (fun i => (i.zero, i.size, i.bytes)) = some (some (.agg #[.int .i64 0, .int .i64 0, .int .i64 0]), 3, 24) := by kernel_rfl

theorem enLt_iff (a b c d e f : Int) : enLt (a, b, c) (d, e, f) ↔ a < d ∨ a = d ∧ (b < e ∨ b = e ∧ c < f) := Iff.rfl

theorem specLess_any (a b c d e f : Int) (w : World) :
    Calls Try.prog 101 #[.agg #[.int .i64 a, .int .i64 b, .int .i64 c], .agg #[.int .i64 d, .int .i64 e, .int .i64 f]] w fun r w' => r = .returned (.bool (decide (enLt (a, b, c) (d, e, f)))) ∧ Below w.heap.size w w' := by
  by_cases h1 : a = d
  · subst h1
    have t1 : (a == a) = true := beq_self_eq_true _
    have t1' : (a != a) = false := by rw [bne, t1]; rfl
    by_cases h2 : b = e
    · subst h2
      have t2 : (b == b) = true := beq_self_eq_true _
      have t2' : (b != b) = false := by rw [bne, t2]; rfl
      have HD := Lib.hid (show decide (enLt (a, b, c) (a, b, f)) = decide (c < f) from decide_eq_decide.2 (by rw [enLt_iff]; constructor <;> omega))
      go_enter Try.func101, Try.ntmps101
      go_wp2
      go_ret
      exact ⟨by rw [HD.out]; rfl, below_alloc2 _ _ _⟩
    · have t2 : (b == e) = false := by simpa using h2
      have t2' : (b != e) = true := by rw [bne, t2]; rfl
      have HD := Lib.hid (show decide (enLt (a, b, c) (a, e, f)) = decide (b < e) from decide_eq_decide.2 (by rw [enLt_iff]; constructor <;> omega))
      clear h2
      go_enter Try.func101, Try.ntmps101
      go_wp2
      go_ret
      exact ⟨by rw [HD.out]; rfl, below_alloc2 _ _ _⟩
  · have t1 : (a == d) = false := by simpa using h1
    have t1' : (a != d) = true := by rw [bne, t1]; rfl
    have HD := Lib.hid (show decide (enLt (a, b, c) (d, e, f)) = decide (a < d) from decide_eq_decide.2 (by rw [enLt_iff]; constructor <;> omega))
    clear h1
    go_enter Try.func101, Try.ntmps101
    go_wp2
    go_ret
    exact ⟨by rw [HD.out]; rfl, below_alloc2 _ _ _⟩
theorem specLess_is (r : Bool) (a b c d e f : Int) (w : World) (h : r = true ↔ enLt (a, b, c) (d, e, f)) :
    Calls Try.prog 101 #[.agg #[.int .i64 a, .int .i64 b, .int .i64 c], .agg #[.int .i64 d, .int .i64 e, .int .i64 f]] w fun x w' => x = .returned (.bool r) ∧ Below w.heap.size w w' := by
  have e1 : decide (enLt (a, b, c) (d, e, f)) = r := by rw [Bool.eq_iff_iff, decide_eq_true_iff]; exact h.symm
  rw [← e1]
  exact specLess_any a b c d e f w

theorem below_ents {w wr : World} {B : Nat} (h : Below B w wr) {b o : Nat} (hb : b < B) {v : Value} (k : w.cell? ⟨b, o, none⟩ = some v) : wr.cell? ⟨b, o, none⟩ = some v := (h.cell (p := ⟨b, o, none⟩) hb).trans k

set_option maxHeartbeats 4000000 in
theorem specShelfOk_is (r : Bool) (l : List En) (a : Option Addr) (n c : Nat) (w : World) (hr : r = true ↔ shOk l) (hn : n = l.length) (hl : n ≤ 4194304) (hat : CellsAt w a (entsC l)) :
    Calls Try.prog 67 #[.slice a n c] w fun e w' => e = .returned (.bool r) ∧ Below w.heap.size w w' := by
  have HN := Lib.hid hn
  have HRr := Lib.hid hr
  have HAT := Lib.hid hat
  clear hn hr hat
  go_enter Try.func67, Try.ntmps67
  go_wp2
  go_loopw [3] (fun i_ wr => ∃ k : Nat, k ≤ n ∧ i_ = .int .i64 k ∧ Hid (okTo l k) ∧ Below w.heap.size w wr) (fun i_ _ => n - (intOf i_).toNat)
  case atStart => exact ⟨0, Nat.zero_le _, rfl, Lib.hid (okTo_zero l), Below.refl _ _⟩
  case round =>
    obtain ⟨k, hk, rfl, HK, B⟩ := hrel
    by_cases hlt : k < n
    · have hkl : k < l.length := by have := HN.out; omega
      obtain ⟨x, hx⟩ : ∃ x, l[k].1 = x := ⟨_, rfl⟩
      obtain ⟨y, hy⟩ : ∃ y, l[k].2.1 = y := ⟨_, rfl⟩
      obtain ⟨z, hz⟩ : ∃ z, l[k].2.2 = z := ⟨_, rfl⟩
      have hm : l[k] = (x, y, z) := by rw [← hx, ← hy, ← hz]
      obtain ⟨b, o, rfl, hb9, g1, g2, g3⟩ := ent_cells (HAT.out.below B) hkl hm
      have HM := Lib.hid hm
      have z1 : (k : Int) < (n : Int) := by omega
      clear hx hy hz hm
      have hbad : (¬ (enOk (x, y, z) ∧ (0 < k → enLt (l[k - 1]'(by omega)) (x, y, z)))) → r = false := fun h => by
        rw [Bool.eq_false_iff]
        intro e
        refine shOk_not hkl (fun h2 => h ?_) (HRr.out.1 e)
        rw [HM.out] at h2
        exact h2
      by_cases hx0 : x < 0
      · have t1 : decide (x < 0) = true := decide_eq_true hx0
        have hf : r = false := hbad (fun h => by have h1 : 0 ≤ x ∧ x < 1000003 ∧ 0 ≤ y ∧ 0 ≤ z := h.1; omega)
        subst hf
        go_wp2
        go_quiet (fail)
        go_wp2
        go_ret
        exact ⟨rfl, below_drewN' (B.alloc B.size _) _⟩
      have t1 : decide (x < 0) = false := decide_eq_false hx0
      by_cases hx1 : 1000003 ≤ x
      · have t2 : decide (1000003 ≤ x) = true := decide_eq_true hx1
        have hf : r = false := hbad (fun h => by have h1 : 0 ≤ x ∧ x < 1000003 ∧ 0 ≤ y ∧ 0 ≤ z := h.1; omega)
        subst hf
        go_wp2
        go_quiet (fail)
        go_wp2
        go_ret
        exact ⟨rfl, below_drewN' (B.alloc B.size _) _⟩
      have t2 : decide (1000003 ≤ x) = false := decide_eq_false hx1
      by_cases hy0 : y < 0
      · have t3 : decide (y < 0) = true := decide_eq_true hy0
        have hf : r = false := hbad (fun h => by have h1 : 0 ≤ x ∧ x < 1000003 ∧ 0 ≤ y ∧ 0 ≤ z := h.1; omega)
        subst hf
        go_wp2
        go_quiet (fail)
        go_wp2
        go_ret
        exact ⟨rfl, below_drewN' (B.alloc B.size _) _⟩
      have t3 : decide (y < 0) = false := decide_eq_false hy0
      by_cases hz0 : z < 0
      · have t4 : decide (z < 0) = true := decide_eq_true hz0
        have hf : r = false := hbad (fun h => by have h1 : 0 ≤ x ∧ x < 1000003 ∧ 0 ≤ y ∧ 0 ≤ z := h.1; omega)
        subst hf
        go_wp2
        go_quiet (fail)
        go_wp2
        go_ret
        exact ⟨rfl, below_drewN' (B.alloc B.size _) _⟩
      have t4 : decide (z < 0) = false := decide_eq_false hz0
      have hok : enOk (x, y, z) := ⟨by show 0 ≤ x; omega, by show x < 1000003; omega, by show 0 ≤ y; omega, by show 0 ≤ z; omega⟩
      by_cases hk0 : k = 0
      · have HN2 := Lib.hid (okTo_next HK.out hkl (by rw [HM.out]; exact hok) (fun h => absurd h (by omega)))
        have t0 : decide ((0 : Int) < (k : Int)) = false := decide_eq_false (by omega)
        have t0' : decide (0 < k) = false := decide_eq_false (by omega)
        clear hbad hx0 hx1 hy0 hz0 hok hk0
        go_wp2
        go_quiet (fail)
        go_wp2
        go_roundw
        case rel => exact ⟨k + 1, by omega, by go_num, HN2, below_drewN' (B.alloc B.size _) _⟩
        case measure => simp [intOf]; omega
      · obtain ⟨p, rfl⟩ : ∃ p, k = p + 1 := ⟨k - 1, by omega⟩
        have hpl : p < l.length := by omega
        obtain ⟨x', hx'⟩ : ∃ x', l[p].1 = x' := ⟨_, rfl⟩
        obtain ⟨y', hy'⟩ : ∃ y', l[p].2.1 = y' := ⟨_, rfl⟩
        obtain ⟨z', hz'⟩ : ∃ z', l[p].2.2 = z' := ⟨_, rfl⟩
        have hmp : l[p] = (x', y', z') := by rw [← hx', ← hy', ← hz']
        have hlp : l[p + 1 - 1]'(by omega) = (x', y', z') := hmp
        obtain ⟨b', o', hbo, _, g4, g5, g6⟩ := ent_cells (HAT.out.below B) hpl hmp
        obtain ⟨rfl, rfl⟩ := (by simpa using hbo : b = b' ∧ o = o')
        have e1 : IntKind.i64.wrap ((p : Int) + 1 - 1) = (p : Int) := by rw [IntWalk.i64_in _ (by omega)]; omega
        have e2 : IntKind.i64.wrap (p : Int) = (p : Int) := IntWalk.i64_in _ (by omega)
        have e3 : IntKind.i64.wrap (((p + 1 : Nat) : Int) - 1) = (p : Int) := by rw [IntWalk.i64_in _ (by omega)]; omega
        have y5 : (0 : Int) ≤ (p : Int) := by omega
        have y6 : (p : Int) < (n : Int) := by omega
        have y7 : (0 : Int) < (p : Int) + 1 := by omega
        have y8 : (p : Int) + 1 < (n : Int) := by omega
        rw [hlp] at hbad
        have HKS := Lib.hid (show ∀ w', Below (wr.heap.size + 1) (wr.alloc (.cells #[.int .i64 x, .int .i64 y, .int .i64 z] 31)) w' → w'.cell? ⟨b, o + p * 3, none⟩ = some (.int .i64 x') ∧ w'.cell? ⟨b, o + p * 3 + 1, none⟩ = some (.int .i64 y') ∧ w'.cell? ⟨b, o + p * 3 + 2, none⟩ = some (.int .i64 z') ∧ w'.cell? ⟨wr.heap.size, 0, none⟩ = some (.int .i64 x) ∧ w'.cell? ⟨wr.heap.size, 1, none⟩ = some (.int .i64 y) ∧ w'.cell? ⟨wr.heap.size, 2, none⟩ = some (.int .i64 z) from fun w' h => by
          have hB1 := (Below.refl wr.heap.size wr).alloc (Nat.le_refl _) (.cells #[.int .i64 x, .int .i64 y, .int .i64 z] 31)
          have hB2 := hB1.trans (h.mono (Nat.le_succ _))
          have hw : wr.heap.size < wr.heap.size + 1 := Nat.lt_succ_self _
          refine ⟨below_ents hB2 hb9 g4, below_ents hB2 hb9 g5, below_ents hB2 hb9 g6, below_ents h hw ?_, below_ents h hw ?_, below_ents h hw ?_⟩
          · exact cell_of_row _ wr.heap.size 0 _ _ (0, 0) (heap_alloc_new wr _)
          · exact cell_of_row _ wr.heap.size 1 _ _ (0, 0) (heap_alloc_new wr _)
          · exact cell_of_row _ wr.heap.size 2 _ _ (0, 0) (heap_alloc_new wr _))
        have HBW := Lib.hid (show ∀ w', Below (wr.heap.size + 1) (wr.alloc (.cells #[.int .i64 x, .int .i64 y, .int .i64 z] 31)) w' → Below w.heap.size w w' from fun w' h => (B.alloc B.size _).trans (h.mono (Nat.le_trans B.size (Nat.le_succ _))))
        by_cases hless : enLt (x', y', z') (x, y, z)
        · have HN2 := Lib.hid (okTo_next HK.out hkl (by rw [HM.out]; exact hok) (fun h => by rw [hlp, HM.out]; exact hless))
          have c1 := fun w => specLess_is true x' y' z' x y z w ⟨fun _ => hless, fun _ => rfl⟩
          clear hbad hx0 hx1 hy0 hz0 hok hk0 hx' hy' hz' hmp hlp hbo hless
          go_wp2
          go_region_held3 (fun w' => w'.cell? ⟨b, o + p * 3, none⟩ = some (.int .i64 x') ∧ w'.cell? ⟨b, o + p * 3 + 1, none⟩ = some (.int .i64 y') ∧ w'.cell? ⟨b, o + p * 3 + 2, none⟩ = some (.int .i64 z') ∧ w'.cell? ⟨wr.heap.size, 0, none⟩ = some (.int .i64 x) ∧ w'.cell? ⟨wr.heap.size, 1, none⟩ = some (.int .i64 y) ∧ w'.cell? ⟨wr.heap.size, 2, none⟩ = some (.int .i64 z)) (first | go_keep | exact HKS.out _ (Below.trans (by repeat (first | exact Below.refl _ _ | refine Below.drew ?_ | refine below_drewN' ?_ _)) (hb5.mono (by simp))))
            ((go_at_call 101; refine (c1 _).mono ?_; rintro e w5 ⟨rfl, hb5⟩))
          go_wp2
          go_roundw
          case rel => exact ⟨p + 1 + 1, by omega, by go_num, HN2, HBW.out _ (Below.trans (by repeat (first | exact Below.refl _ _ | refine Below.drew ?_ | refine below_drewN' ?_ _)) (hb5.mono (by simp)))⟩
          case measure => simp [intOf]; omega
        · have hf : r = false := hbad (fun h => hless (h.2 (by omega)))
          subst hf
          have c1 := fun w => specLess_is false x' y' z' x y z w ⟨(fun h => absurd h (by decide)), (fun h => absurd h hless)⟩
          clear hbad hx0 hx1 hy0 hz0 hok hk0 hx' hy' hz' hmp hlp hbo hless
          go_wp2
          go_region_held3 (fun w' => w'.cell? ⟨b, o + p * 3, none⟩ = some (.int .i64 x') ∧ w'.cell? ⟨b, o + p * 3 + 1, none⟩ = some (.int .i64 y') ∧ w'.cell? ⟨b, o + p * 3 + 2, none⟩ = some (.int .i64 z') ∧ w'.cell? ⟨wr.heap.size, 0, none⟩ = some (.int .i64 x) ∧ w'.cell? ⟨wr.heap.size, 1, none⟩ = some (.int .i64 y) ∧ w'.cell? ⟨wr.heap.size, 2, none⟩ = some (.int .i64 z)) (first | go_keep | exact HKS.out _ (Below.trans (by repeat (first | exact Below.refl _ _ | refine Below.drew ?_ | refine below_drewN' ?_ _)) (hb5.mono (by simp))))
            ((go_at_call 101; refine (c1 _).mono ?_; rintro e w5 ⟨rfl, hb5⟩))
          go_wp2
          go_ret
          exact ⟨rfl, HBW.out _ (Below.trans (by repeat (first | exact Below.refl _ _ | refine Below.drew ?_ | refine below_drewN' ?_ _)) (hb5.mono (by simp)))⟩
    · have ht : r = true := HRr.out.2 (shOk_of (by have h := HK.out; rwa [show k = l.length by have := HN.out; omega] at h))
      subst ht
      go_wp2
      go_ret
      exact ⟨rfl, B⟩

end Go.Proofs.Ytclblnkeakkdeaa
