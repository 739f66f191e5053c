/-
  The contracts of the program's functions joinedNumbers, ascendingNumbers and firstNumber. Condition: rows have at most 2^40 elements.
  The contracts of the program's functions hasBytesFrom, PieceOk and PieceHas. Condition: texts have at most 2^22 bytes.
  The contracts of the program's functions equalAtBegin, equalAtEnd, GrowPiece and pieceFrom. Condition: texts have at most 2^22 bytes.
  The contracts of the program's functions pieceLess, joinedPieces and sortedPieces. Condition: rows have at most 2^40 pieces. (Written by wip/tools/ch7_join.py.)
  Plain mathematics of a row of places that can still be chosen: its numbers rise, so its first place is the last one of the least. No conditions.
  Laws for memory of no program: a slice of the call's own that may begin in the middle of its block (cells of one value each): cut short, moved on, appended to. No conditions.
-/
import Derived.Test.YtbnagmjhdnnheaaMg5
import Derived.Test.YtbnagmjhdnnheaaMg1
import Derived.Test.YtbnagmjhdnnheaaMg3
import Derived.Deep.RegionHeld3
import Derived.Maps.AppendAt
namespace Go.Proofs.Ytbnagmjhdnnheaa
open Go.RowKit

theorem half_of (lo hi g : Nat) (h : (hi - lo) / 2 = g) (hl : lo ≤ hi) : ((hi : Int) - (lo : Int)).tdiv 2 = (g : Int) := by
  have e : ((hi : Int) - (lo : Int)) = ((hi - lo : Nat) : Int) := by omega
  rw [e]
  have h2 := Int.ofNat_tdiv (hi - lo) 2
  rw [h] at h2
  rw [h2]; simp


theorem ints_lenN {w : World} {B : Nat} {e : TypeId} {a : Option Addr} {n c : Nat} {l : List Int} (h : w.ownsRow B e 1 (.slice a n c) n (intCells l)) : n = l.length := by
  have := h.1
  simp only [intCells, List.length_map] at this; omega

theorem Try.elI5 : Try.prog.underlying 30 = some (.slice (Try.prog.elem 30)) := by kernel_rfl
theorem Try.elemI5 : Try.prog.elem 30 = 3 := by kernel_rfl
theorem Try.sizeI5 (w : World) : (sizeOf (Try.prog.elem 30)).run Try.prog w = .ok 1 w := by
  obtain ⟨i, hi, hz, hsi, hby⟩ := info_parts Try.infoI3
  rw [Try.elemI5]
  simp [sizeOf, typeInfo, hi, hsi]

theorem intCells_len (l : List Int) : (intCells l).length = l.length := by simp [intCells]
theorem intCells_snoc (l : List Int) (x : Int) : intCells (l ++ [x]) = intCells l ++ [.int .i64 x] := by rw [intCells_append]; rfl
theorem int_cell {w : World} {a : Option Addr} {L : List Int} (h : CellsAt w a (intCells L)) {i : Nat} {x : Int} (hi : i < L.length) (hx : L[i] = x) : ∃ b o, a = some ⟨b, o, none⟩ ∧ b < w.heap.size ∧ w.cell? ⟨b, o + i, none⟩ = some (.int .i64 x) := by
  obtain ⟨b, o, ha, hb, hc⟩ := h.spot (fun e => by have := congrArg List.length e; rw [intCells_len] at this; simp at this; rw [this] at hi; simp at hi)
  exact ⟨b, o, ha, hb, hc i _ (by simp [intCells, hi, hx])⟩

/-- A slice of numbers from a place on, and up to one. -/
theorem ints_from (a : Option Addr) (n c i : Nat) (hi : i ≤ n) (hnc : n ≤ c) : ∃ a2 q f, q = n - i ∧ q ≤ f ∧ f ≤ c ∧ (∀ w, (Instr.slice 30 (.slice a n c) (some (.int .i64 i)) none none).run Try.prog w = .ok (.slice a2 q f) w) ∧
    ∀ (w : World) (l : List Int), n = l.length → CellsAt w a (intCells l) → CellsAt w a2 (intCells (l.drop i)) := by
  refine ⟨if c = i then a else a.map (·.add (i * 1)), n - i, c - i, rfl, by omega, by omega, fun w => ?_, fun w l hn h => ?_⟩
  · have h := run_slice_l (P := Try.prog) (w := w) 30 a n c Try.elI5 .i64 (i : Int) (by omega) (by omega)
    rw [h, Try.sizeI5]
    simp [Result.andThen, sliced]
  · have h2 := h.from_ n c i 1 (by decide) (by rw [intCells_len, hn, Nat.mul_one]) hnc
    simp only [Nat.mul_one] at h2 ⊢
    rwa [intCells_drop] at h2
theorem ints_upto (a : Option Addr) (n c i : Nat) (hi : i ≤ c) : ∃ a2, (∀ w, (Instr.slice 30 (.slice a n c) none (some (.int .i64 i)) none).run Try.prog w = .ok (.slice a2 i c) w) ∧
    ∀ (w : World) (l : List Int), CellsAt w a (intCells l) → CellsAt w a2 (intCells (l.take i)) := by
  refine ⟨if c = 0 then a else a.map (·.add (0 * 1)), fun w => ?_, fun w l h => ?_⟩
  · have h := run_slice_h (P := Try.prog) (w := w) 30 a n c Try.elI5 .i64 (i : Int) (by omega) (by omega)
    rw [h, Try.sizeI5]
    simp [Result.andThen, sliced]
  · have e : (if c = 0 then a else a.map (·.add (0 * 1))) = a := by
      split
      · rfl
      · cases a with
        | none => rfl
        | some p =>
          simp only [Option.map_some]
          congr 1
    rw [e, ← intCells_takeE]
    exact h.upTo i

/-- A new row of as many zeros as asked for. -/
theorem make_zeros (w : World) (n : Nat) (hn : n ≤ 1099511627776) :
    ∃ w', (Instr.makeSlice 30 (.int .i64 (n : Int)) (.int .i64 (n : Int))).run Try.prog w = .ok (.slice (some ⟨w.heap.size, 0, none⟩) n n) w' ∧
      One w w.heap.size w' 3 1 (some ⟨w.heap.size, 0, none⟩) n n (intCells (vecI n (fun _ => 0))) := by
  obtain ⟨i, hi, hz, hsi, hby⟩ := info_parts Try.infoI3
  obtain ⟨w', h1, h2, h3⟩ := run_make_full (P := Try.prog) w w.heap.size 30 3 i (.int .i64 0) 1 Try.ulI3 hi hz hsi .i64 .i64 n (by rw [hby]; omega) (by unfold maxLen; omega) (Nat.le_refl _)
  refine ⟨w', h1, ?_, h3.size, ⟨h3.os, h3.tape, h3.output, h3.size, fun k hk => h3.block k hk (by simp)⟩⟩
  have e : (madeCells (Value.cells (.int .i64 0)) (n * 1)).toList = intCells (vecI n (fun _ => 0)) := by
    rw [Nat.mul_one]
    apply List.ext_getElem
    · simp [madeCells, intCells_len, vecI_len]
    · intro k h1 h2
      have hk : k < n := by simpa [madeCells] using h1
      have hc : (Value.cells (.int .i64 0)) = #[.int .i64 0] := rfl
      simp [madeCells, intCells, vecI, hc, Nat.mod_one]
  rw [e] at h2
  exact h2

theorem vec_cell {W : World} {B : Nat} {w : World} {e : TypeId} {g n c : Nat} {f : Nat → Int} (h : One W B w e 1 (some ⟨g, 0, none⟩) n c (intCells (vecI n f))) {i : Nat} (hi : i < n) {v : Int} (hv : f i = v) : w.cell? ⟨g, i, none⟩ = some (.int .i64 v) := by
  rw [h.own.cellAt i (by omega)]
  have : i < (vecI n f).length := by rw [vecI_len]; exact hi
  simp [intCells, this, vecI_get n f i hi, hv]
theorem vec_stored {W : World} {B : Nat} {w : World} {e : TypeId} {g n c : Nat} {f f' : Nat → Int} (h : One W B w e 1 (some ⟨g, 0, none⟩) n c (intCells (vecI n f))) {i : Nat} {v : Int} (hv : f' i = v) (hs : ∀ j, j < n → j ≠ i → f' j = f j) :
    One W B (w.setCell ⟨g, i, none⟩ (.int .i64 v)) e 1 (some ⟨g, 0, none⟩) n c (intCells (vecI n f')) := by
  have h1 := h.stored i (.int .i64 v)
  have e1 : (intCells (vecI n f)).set i (.int .i64 v) = intCells (vecI n f') := by
    rw [← vecI_set hv hs, intCells, intCells, List.map_set]
  rwa [e1] at h1

/-- A new row without elements, with room for as many as asked for. -/
theorem make_room (w : World) (n : Nat) (hn : n ≤ 2199023255552) :
    ∃ w', (Instr.makeSlice 30 (.int .i64 0) (.int .i64 (n : Int))).run Try.prog w = .ok (.slice (some ⟨w.heap.size, 0, none⟩) 0 n) w' ∧
      One w w.heap.size w' 3 1 (some ⟨w.heap.size, 0, none⟩) 0 n (intCells []) := by
  obtain ⟨i, hi, hz, hsi, hby⟩ := info_parts Try.infoI3
  obtain ⟨w', h1, h2, h3⟩ := run_make_own (P := Try.prog) w w.heap.size 30 3 i (.int .i64 0) 1 Try.ulI3 hi hz hsi .i64 .i64 n (by rw [hby]; omega) (by unfold maxLen; omega) (Nat.le_refl _)
  exact ⟨w', h1, h2, h3.size, ⟨h3.os, h3.tape, h3.output, h3.size, fun k hk => h3.block k hk (by simp)⟩⟩

set_option maxRecDepth 4000 in
set_option maxHeartbeats 8000000 in
theorem implJoinN_any (A B : List Int) (a b : Option Addr) (n c m d : Nat) (R : List Int) (w : World) (hn : n = A.length) (hm : m = B.length) (hn9 : n ≤ 1099511627776) (hm9 : m ≤ 1099511627776) (hnc : n ≤ c) (hmd : m ≤ d)
    (hA : A.Pairwise ltI) (hB : B.Pairwise ltI) (hR : rowI (A ++ B) = R) (hatA : CellsAt w a (intCells A)) (hatB : CellsAt w b (intCells B)) :
    Calls Try.prog 87 #[.slice a n c, .slice b m d] w fun e w' => ∃ a' n' c', e = .returned (.slice a' n' c') ∧ One w w.heap.size w' 3 1 a' n' c' (intCells R) := by
  have HR := Lib.hid hR
  have HN := Lib.hid hn
  have HM := Lib.hid hm
  have HA := Lib.hid hatA
  have HB := Lib.hid hatB
  have HUA := Lib.hid hA
  have HUB := Lib.hid hB
  obtain ⟨w0, hmk, hone1⟩ := make_room w (n + m) (by omega)
  have vm : IntKind.i64.wrap ((n : Int) + (m : Int)) = (n : Int) + (m : Int) := IntWalk.i64_in _ (by omega)
  rw [show ((n + m : Nat) : Int) = (n : Int) + (m : Int) by omega] at hmk
  obtain ⟨g, hg⟩ : ∃ g, w.heap.size = g := ⟨_, rfl⟩
  have hone0 : One w w.heap.size w0 3 1 (some ⟨g, 0, none⟩) 0 (n + m) (intCells []) := by rw [← hg]; exact hone1
  rw [hg] at hmk
  have HG := Lib.hid hg
  clear hone1 hg
  clear hn hm hatA hatB hA hB hR
  go_enter Try.func87, Try.ntmps87
  go_wp2
  clear hmk
  go_loopw [5, 6, 7] (fun o_ i_ k_ wr => ∃ (i k : Nat) (S : List Int), i ≤ n ∧ k ≤ m ∧ i_ = .int .i64 i ∧ k_ = .int .i64 k ∧ ∃ a' n' c', o_ = .slice a' n' c' ∧ n' ≤ i + k ∧ Hid (GM ltI A B i k S) ∧ One w w.heap.size wr 3 1 a' n' c' (intCells S)) (fun _ i_ k_ _ => n + m - ((intOf i_).toNat + (intOf k_).toNat))
  case atStart => exact ⟨0, 0, [], Nat.zero_le _, Nat.zero_le _, rfl, rfl, _, _, _, rfl, Nat.zero_le _, Lib.hid (gm_start ltI A B), hone0⟩
  case round =>
    clear hone0
    obtain ⟨i, k, S, hi, hk, rfl, rfl, a', n', c', rfl, hn', HS, hone⟩ := hrel
    by_cases hik : i < n ∧ k < m
    · obtain ⟨hin, hkm⟩ := hik
      have hiA : i < A.length := by have := HN.out; omega
      have hkB : k < B.length := by have := HM.out; omega
      obtain ⟨x, hx⟩ : ∃ x, A[i] = x := ⟨_, rfl⟩
      obtain ⟨y, hy⟩ : ∃ y, B[k] = y := ⟨_, rfl⟩
      obtain ⟨ab, ao, rfl, hab, g1⟩ := int_cell (HA.out.below hone.below) hiA hx
      obtain ⟨bb, bo, rfl, hbb, g2⟩ := int_cell (HB.out.below hone.below) hkB hy
      have HX := Lib.hid hx
      have HY := Lib.hid hy
      have z1 : (i : Int) < (n : Int) := by omega
      have z2 : (0 : Int) ≤ (i : Int) := by omega
      have z3 : (k : Int) < (m : Int) := by omega
      have z4 : (0 : Int) ≤ (k : Int) := by omega
      have t5 : decide (i < n) = true := decide_eq_true hin
      have t6 : decide ((i : Int) < (n : Int)) = true := decide_eq_true (by omega)
      have t7 : decide (k < m) = true := decide_eq_true hkm
      have t8 : decide ((k : Int) < (m : Int)) = true := decide_eq_true (by omega)
      clear hx hy
      by_cases hlt : y < x
      · have HS2 := Lib.hid (GM.takeB (r := ltI) (fun _ _ _ => ltI_trans) HS.out HUB.out hkB (fun h => by rw [HX.out, HY.out]; exact hlt))
        have HE := Lib.hid (show intCells (S ++ [B[k]]) = intCells S ++ [.int .i64 y] by rw [HY.out, intCells_snoc])
        have t9 : decide (y < x) = true := decide_eq_true hlt
        clear hlt HS
        go_wp2
        go_quiet (fail)
        go_wp2_with (at_builtin; refine wpList_append_row rfl (.tmp 33) (.tmp 38) 30 rfl Try.ulI3 Try.infoI3 rfl (by decide) (hone.drewN _) rfl #[.int .i64 y] rfl rfl (by simp [Value.oneCell']) (by unfold maxLen; omega) (by omega) ?_; intro a7 c7 w7 h7)
        go_roundw
        case rel => exact ⟨i, k + 1, S ++ [B[k]], hi, by omega, rfl, by go_num, a7, n' + 1, c7, rfl, by omega, HS2, by rw [HE.out]; exact h7⟩
        case measure => simp [intOf]; omega
      · have HE := Lib.hid (show intCells (S ++ [A[i]]) = intCells S ++ [.int .i64 x] by rw [HX.out, intCells_snoc])
        have t9 : decide (y < x) = false := decide_eq_false hlt
        by_cases he : x = y
        · have HS2 := Lib.hid (GM.both (r := ltI) (fun _ _ _ => ltI_trans) HS.out HUA.out HUB.out hiA hkB (by rw [HX.out, HY.out]; exact he))
          have t10 : (x == y) = true := by rw [he]; exact beq_self_eq_true _
          clear hlt HS he
          go_wp2
          go_quiet (fail)
          go_wp2
          go_quiet (fail)
          go_wp2_with (at_builtin; refine wpList_append_row rfl (.tmp 53) (.tmp 58) 30 rfl Try.ulI3 Try.infoI3 rfl (by decide) (hone.drewN _) rfl #[.int .i64 x] rfl rfl (by simp [Value.oneCell']) (by unfold maxLen; omega) (by omega) ?_; intro a7 c7 w7 h7)
          go_roundw
          case rel => exact ⟨i + 1, k + 1, S ++ [A[i]], by omega, by omega, by go_num, by go_num, a7, n' + 1, c7, rfl, by omega, HS2, by rw [HE.out]; exact h7⟩
          case measure => simp [intOf]; omega
        · have HS2 := Lib.hid (GM.takeA (r := ltI) (fun _ _ _ => ltI_trans) HS.out HUA.out hiA (fun h => by rw [HX.out, HY.out]; unfold ltI; omega))
          have t10 : (x == y) = false := by simpa using he
          clear hlt HS he
          go_wp2
          go_quiet (fail)
          go_wp2
          go_quiet (fail)
          go_wp2_with (at_builtin; refine wpList_append_row rfl (.tmp 53) (.tmp 58) 30 rfl Try.ulI3 Try.infoI3 rfl (by decide) (hone.drewN _) rfl #[.int .i64 x] rfl rfl (by simp [Value.oneCell']) (by unfold maxLen; omega) (by omega) ?_; intro a7 c7 w7 h7)
          go_roundw
          case rel => exact ⟨i + 1, k, S ++ [A[i]], by omega, hk, by go_num, rfl, a7, n' + 1, c7, rfl, by omega, HS2, by rw [HE.out]; exact h7⟩
          case measure => simp [intOf]; omega
    · have HD := Lib.hid (HR.out.symm.trans (gmI_done HS.out HUA.out HUB.out (by have := HN.out; have := HM.out; omega)))
      obtain ⟨a2, q, f, hq, hqf, hfc, sl1, hc2⟩ := ints_from a n c i hi hnc
      obtain ⟨b2, q', f', hq', hqf', hfc', sl2, hd2⟩ := ints_from b m d k hk hmd
      have HC2 := Lib.hid (hc2 wr A HN.out (HA.out.below hone.below))
      have HD2 := Lib.hid (fun w' (h : Below w.heap.size w w') => hd2 w' B HM.out (HB.out.below h))
      have HL1 := Lib.hid (show (intCells (A.drop i)).length = q * 1 by rw [intCells_len, List.length_drop, hq, HN.out, Nat.mul_one])
      have HL2 := Lib.hid (show (intCells (B.drop k)).length = q' * 1 by rw [intCells_len, List.length_drop, hq', HM.out, Nat.mul_one])
      have q9 : q ≤ 1099511627776 := by omega
      have q9' : q' ≤ 1099511627776 := by omega
      have n9 : n' ≤ 2199023255552 := by omega
      have hcond : (decide (i < n) = true ∧ decide ((i : Int) < (n : Int)) = true ∧ decide (k < m) = false ∧ decide ((k : Int) < (m : Int)) = false) ∨ (decide (i < n) = false ∧ decide ((i : Int) < (n : Int)) = false) := by
        by_cases h : i < n
        · exact .inl ⟨decide_eq_true h, decide_eq_true (by omega), decide_eq_false (fun h2 => hik ⟨h, h2⟩), decide_eq_false (fun h2 => hik ⟨h, by omega⟩)⟩
        · exact .inr ⟨decide_eq_false h, decide_eq_false (by omega)⟩
      clear hik hc2 hd2 hq hq' hfc hfc' HS hn'
      rcases hcond with ⟨t1, t2, t3, t4⟩ | ⟨t1, t2⟩
      all_goals (
        go_wp2_with (at_builtin; first
          | (refine wpList_append_src rfl (.tmp 62) (.tmp 65) 30 rfl Try.ulI3 Try.infoI3 rfl (by decide) hone rfl a2 q f rfl (intCells (A.drop i)) HL1.out HC2.out (intCells_one _) (by unfold maxLen; omega) (by omega) ?_; intro a5 c5 w5 h5)
          | (refine wpList_append_src rfl (.tmp 67) (.tmp 70) 30 rfl Try.ulI3 Try.infoI3 rfl (by decide) h5 rfl b2 q' f' rfl (intCells (B.drop k)) HL2.out (HD2.out _ h5.below) (intCells_one _) (by unfold maxLen; omega) (by omega) ?_; intro a6 c6 w6 h6))
        go_ret
        exact ⟨_, _, _, rfl, by rw [HD.out, intCells_append, intCells_append]; exact h6⟩)

theorem implUp_short (l : List Int) (a : Option Addr) (n c : Nat) (w : World) (h2 : n < 2) (hn : n = l.length) (hat : CellsAt w a (intCells l)) :
    Calls Try.prog 57 #[.slice a n c] w fun e w' => ∃ a' n' c', e = .returned (.slice a' n' c') ∧ One w w.heap.size w' 3 1 a' n' c' (intCells (rowI l)) := by
  have HR := Lib.hid (rowI_short (l := l) (by omega))
  have HL := Lib.hid (show (intCells l).length = n * 1 by rw [intCells_len, hn, Nat.mul_one])
  have HAT := Lib.hid hat
  have z1 : (n : Int) < 2 := by omega
  clear hn hat
  go_enter Try.func57, Try.ntmps57
  go_wp2_with (at_builtin; refine wpList_append_src rfl (.tmp 9) (.tmp 10) 30 rfl Try.ulI3 Try.infoI3 rfl (by decide) (One.empty w 3 1) rfl a n c rfl (intCells l) HL.out (HAT.out.allocW _) (intCells_one _) (by unfold maxLen; omega) (by omega) ?_; intro a5 c5 w5 h5)
  go_ret
  exact ⟨_, _, _, rfl, by rw [HR.out]; simpa using h5⟩

theorem implUp_any (N : Nat) : ∀ (l : List Int) (a : Option Addr) (n c : Nat) (w : World), n ≤ N → n = l.length → n ≤ 1099511627776 → n ≤ c → CellsAt w a (intCells l) →
    Calls Try.prog 57 #[.slice a n c] w fun e w' => ∃ a' n' c', e = .returned (.slice a' n' c') ∧ One w w.heap.size w' 3 1 a' n' c' (intCells (rowI l)) := by
  induction N with
  | zero => exact fun l a n c w hN hn _ _ hat => implUp_short l a n c w (by omega) hn hat
  | succ N ih =>
    intro l a n c w hN hn hn9 hnc hat
    by_cases h2 : n < 2
    · exact implUp_short l a n c w h2 hn hat
    obtain ⟨h, hh⟩ : ∃ h, n / 2 = h := ⟨_, rfl⟩
    have em : ((n : Nat) : Int).tdiv 2 = (h : Int) := by
      have e := Int.ofNat_tdiv n 2
      rw [hh] at e
      rw [e]; simp
    have b1 : 1 ≤ h := by omega
    have b2 : h < n := by omega
    obtain ⟨a1, sl1, hc1⟩ := ints_upto a n c h (by omega)
    obtain ⟨a2, q, f, hq, hqf, hfc, sl2, hc2⟩ := ints_from a n c h (by omega) hnc
    have c1 := ih (l.take h) a1 h c w (by omega) (by rw [List.length_take]; omega) (by omega) (by omega) (hc1 w l hat)
    have c2 := fun w' (hb : Below w.heap.size w w') => ih (l.drop h) a2 q f w' (by omega) (by rw [List.length_drop, hq, hn]) (by omega) hqf (hc2 w' l hn (hat.below hb))
    have HR := Lib.hid (rowI_halves l h)
    have HU1 := Lib.hid (rowI_is (l.take h)).up
    have HU2 := Lib.hid (rowI_is (l.drop h)).up
    have HL1 := Lib.hid (show (rowI (l.take h)).length ≤ 1099511627776 by have e := rowI_len (l.take h); rw [List.length_take] at e; omega)
    have HL2 := Lib.hid (show (rowI (l.drop h)).length ≤ 1099511627776 by have e := rowI_len (l.drop h); rw [List.length_drop] at e; omega)
    have z1 : ¬ (n : Int) < 2 := by omega
    have z2 : (2 : Int) ≤ (n : Int) := by omega
    clear ih hat hn hh hc1 hc2 hq hN hfc
    obtain ⟨L1, hL1⟩ : ∃ L, rowI (l.take h) = L := ⟨_, rfl⟩
    obtain ⟨L2, hL2⟩ : ∃ L, rowI (l.drop h) = L := ⟨_, rfl⟩
    rw [hL1] at c1 HU1 HL1
    rw [hL2] at c2 HU2 HL2
    rw [hL1, hL2] at HR
    clear hL1 hL2
    go_enter Try.func57, Try.ntmps57
    go_wp2_with fail
    refine c1.mono ?_
    rintro e w2 ⟨ga, na, ca, rfl, o1⟩
    have d2 := c2 w2 o1.below
    clear c1 c2
    go_wp2_with fail
    refine d2.mono ?_
    rintro e w3 ⟨gb, nb, cb, rfl, o2⟩
    have e1 := ints_lenN o1.own
    have e2 := ints_lenN o2.own
    have k1 := o1.cap.1
    have k2 := o2.cap.1
    have c3 := implJoinN_any L1 L2 ga gb na ca nb cb (rowI l) w3 e1 e2 (by have := HL1.out; omega) (by have := HL2.out; omega) k1 k2 HU1.out HU2.out HR.out (o1.later o2.below).at_ o2.at_
    have HB := Lib.hid (show Below w.heap.size w w3 from o1.below.trans (o2.below.mono o1.below.size))
    clear d2 e1 e2 k1 k2 o1 o2
    go_wp2_with fail
    refine c3.mono ?_
    rintro e w4 ⟨gc, nc, cc, rfl, o3⟩
    go_wp2
    go_ret
    exact ⟨_, _, _, rfl, o3.under HB.out HB.out.size⟩

set_option maxHeartbeats 4000000 in
theorem implFirstN_any (l : List Int) (p : Int) (a : Option Addr) (n c : Nat) (w : World) (hn : n = l.length) (hl : n ≤ 1099511627776) (hu : UpI l) (hat : CellsAt w a (intCells l)) :
    Calls Try.prog 60 #[.slice a n c, .int .i64 p] w fun e w' => e = .returned (.int .i64 (posI l p : Nat)) ∧ w = w' := by
  have HS := Lib.hid hu
  have HN := Lib.hid hn
  have HAT := Lib.hid hat
  clear hn hu hat
  go_enter Try.func60, Try.ntmps60
  go_wp2
  go_loopw [5, 6] (fun lo_ hi_ wr => ∃ lo hi : Nat, lo ≤ hi ∧ hi ≤ n ∧ lo_ = .int .i64 lo ∧ hi_ = .int .i64 hi ∧ Hid (∀ i (h : i < l.length), i < lo → l[i] < p) ∧ Hid (∀ i (h : i < l.length), hi ≤ i → p ≤ l[i]) ∧ Hid (wr = w)) (fun lo_ hi_ _ => (intOf hi_).toNat - (intOf lo_).toNat)
  case atStart => exact ⟨0, n, Nat.zero_le _, Nat.le_refl _, rfl, rfl, Lib.hid (fun i h h2 => absurd h2 (Nat.not_lt_zero _)), Lib.hid (fun i h h2 => by have := HN.out; omega), Lib.hid rfl⟩
  case round =>
    obtain ⟨lo, hi, hlh, hhn, rfl, rfl, HLo, HHi, HW⟩ := hrel
    obtain rfl := HW.out
    by_cases hlt : lo < hi
    · obtain ⟨g, hg⟩ : ∃ g, (hi - lo) / 2 = g := ⟨_, rfl⟩
      have em := half_of lo hi g hg hlh
      have hm2 : lo + g < hi := by omega
      have hml : lo + g < l.length := by have := HN.out; omega
      obtain ⟨x, hx⟩ : ∃ x, (l[lo + g]'hml) = x := ⟨_, rfl⟩
      obtain ⟨b, o, rfl, hb9, g1⟩ := int_cell HAT.out hml hx
      have z0 : (0 : Int) ≤ (lo : Int) + (g : Int) := by omega
      have z1 : (lo : Int) + (g : Int) < (n : Int) := by omega
      have z2 : ((lo : Int) + (g : Int)).toNat = lo + g := by omega
      have HX := Lib.hid hx
      clear hg hx
      by_cases hxp : x < p
      · have HL2 := Lib.hid (show ∀ i (h : i < l.length), i < lo + g + 1 → l[i] < p from fun i h h2 => by
          have h3 := HS.out i (lo + g) (by omega) hml
          have := HX.out
          omega)
        clear HLo
        go_wp2
        go_roundw
        case rel => exact ⟨lo + g + 1, hi, by omega, hhn, by go_num, rfl, HL2, HHi, Lib.hid (by trivial)⟩
        case measure => simp [intOf]; omega
      · have HH2 := Lib.hid (show ∀ i (h : i < l.length), lo + g ≤ i → p ≤ l[i] from fun i h h2 => by
          have h3 := HS.out (lo + g) i h2 h
          have := HX.out
          omega)
        clear HHi
        go_wp2
        go_roundw
        case rel => exact ⟨lo, lo + g, by omega, by omega, rfl, by go_num, HLo, HH2, Lib.hid (by trivial)⟩
        case measure => simp [intOf]; omega
    · obtain rfl : lo = hi := by omega
      have HP := Lib.hid (posI_is (l := l) (p := p) (k := lo) (by have := HN.out; omega) (fun i h h2 => HLo.out i h h2) (fun h => HHi.out lo h (Nat.le_refl _)))
      go_wp2
      go_ret
      exact ⟨(congrArg (fun z : Nat => Ending.returned (Value.int .i64 (z : Int))) HP.out).symm, rfl⟩

end Go.Proofs.Ytbnagmjhdnnheaa

namespace Go.Proofs.Ytbnagmjhdnnheaa
open Go.RowKit

theorem implHasFrom_is (r : Bool) (s : ByteArray) (x z : Int) (w : World) (hr : r = true ↔ 0 ≤ x ∧ 1 ≤ z ∧ z ≤ (s.size : Int) - x) (hx : x ≤ 9223372036854775807) (hs : s.size ≤ 4194304) :
    Calls Try.prog 112 #[.string s, .int .i64 x, .int .i64 z] w fun e w' => e = .returned (.bool r) ∧ w' = w := by
  have hfalse : ¬ (0 ≤ x ∧ 1 ≤ z ∧ z ≤ (s.size : Int) - x) → r = false := fun h => by
    rw [Bool.eq_false_iff]
    exact fun e => h (hr.1 e)
  have htrue := hr.2
  clear hr
  by_cases c0 : 0 ≤ x
  · have d0 : decide (0 ≤ x) = true := decide_eq_true c0
    by_cases c1 : 1 ≤ z
    · have d1 : decide (1 ≤ z) = true := decide_eq_true c1
      have e1 : IntKind.i64.wrap ((s.size : Int) - x) = (s.size : Int) - x := IntWalk.i64_in _ (by omega)
      by_cases c2 : z ≤ (s.size : Int) - x
      · have d2 : decide (z ≤ (s.size : Int) - x) = true := decide_eq_true c2
        obtain rfl : r = true := htrue ⟨c0, c1, c2⟩
        clear htrue hfalse
        go_enter Try.func112, Try.ntmps112
        go_wp2
        go_ret
        exact ⟨rfl, rfl⟩
      · have d2 : decide (z ≤ (s.size : Int) - x) = false := decide_eq_false c2
        obtain rfl : r = false := hfalse (fun h => c2 h.2.2)
        clear htrue hfalse
        go_enter Try.func112, Try.ntmps112
        go_wp2
        go_ret
        exact ⟨rfl, rfl⟩
    · have d1 : decide (1 ≤ z) = false := decide_eq_false c1
      obtain rfl : r = false := hfalse (fun h => c1 h.2.1)
      clear htrue hfalse
      go_enter Try.func112, Try.ntmps112
      go_wp2
      go_ret
      exact ⟨rfl, rfl⟩
  · have d0 : decide (0 ≤ x) = false := decide_eq_false c0
    obtain rfl : r = false := hfalse (fun h => c0 h.1)
    clear htrue hfalse
    go_enter Try.func112, Try.ntmps112
    go_wp2
    go_ret
    exact ⟨rfl, rfl⟩

set_option maxRecDepth 4000 in
set_option maxHeartbeats 4000000 in
theorem implPieceOk_is (r : Bool) (s t : ByteArray) (x y z : Int) (w : World) (hr : r = true ↔ okP s t (x, y, z)) (hx : x ≤ 9223372036854775807) (hy : y ≤ 9223372036854775807) (hs : s.size ≤ 4194304) (ht : t.size ≤ 4194304) :
    Calls Try.prog 96 #[.string s, .string t, .agg #[.int .i64 x, .int .i64 y, .int .i64 z]] w fun e w' => e = .returned (.bool r) ∧ Below w.heap.size w w' := by
  have HRr := Lib.hid hr
  have hfalse : ¬ okP s t (x, y, z) → r = false := fun h => by
    rw [Bool.eq_false_iff]
    exact fun e => h (hr.1 e)
  clear hr
  by_cases cA : 0 ≤ x ∧ 1 ≤ z ∧ z ≤ (s.size : Int) - x
  · have k1 := fun w => implHasFrom_is true s x z w ⟨fun _ => cA, fun _ => rfl⟩ hx hs
    by_cases cB : 0 ≤ y ∧ 1 ≤ z ∧ z ≤ (t.size : Int) - y
    · have k2 := fun w => implHasFrom_is true t y z w ⟨fun _ => cB, fun _ => rfl⟩ hy ht
      obtain ⟨X, rfl⟩ : ∃ X : Nat, x = X := ⟨x.toNat, by omega⟩
      obtain ⟨Y, rfl⟩ : ∃ X : Nat, y = X := ⟨y.toNat, by omega⟩
      obtain ⟨Z, rfl⟩ : ∃ X : Nat, z = X := ⟨z.toNat, by omega⟩
      obtain ⟨P, hP⟩ : ∃ P, s.extract X (X + Z) = P := ⟨_, rfl⟩
      obtain ⟨Q, hQ⟩ : ∃ P, t.extract Y (Y + Z) = P := ⟨_, rfl⟩
      have hPQ : P = Q ↔ r = true := by
        rw [← hP, ← hQ, extract_same (by omega) (by omega), HRr.out, okP_iff, Int.toNat_natCast, Int.toNat_natCast, Int.toNat_natCast]
        omega
      have sl1 : ∀ w, (Instr.slice 9 (.string s) (some (.int .i64 (X : Int))) (some (.int .i64 ((X : Int) + (Z : Int)))) none).run Try.prog w = .ok (.string P) w := fun w => by
        have h1 := run_slice_string (P := Try.prog) w 9 s .i64 .i64 (X : Int) ((X : Int) + (Z : Int)) Try.uls7 (by omega) (by omega) (by omega)
        rwa [Int.toNat_natCast, show ((X : Int) + (Z : Int)).toNat = X + Z by omega, hP] at h1
      have sl2 : ∀ w, (Instr.slice 9 (.string t) (some (.int .i64 (Y : Int))) (some (.int .i64 ((Y : Int) + (Z : Int)))) none).run Try.prog w = .ok (.string Q) w := fun w => by
        have h1 := run_slice_string (P := Try.prog) w 9 t .i64 .i64 (Y : Int) ((Y : Int) + (Z : Int)) Try.uls7 (by omega) (by omega) (by omega)
        rwa [Int.toNat_natCast, show ((Y : Int) + (Z : Int)).toNat = Y + Z by omega, hQ] at h1
      have e1 : IntKind.i64.wrap ((X : Int) + (Z : Int)) = (X : Int) + (Z : Int) := IntWalk.i64_in _ (by omega)
      have e2 : IntKind.i64.wrap ((Y : Int) + (Z : Int)) = (Y : Int) + (Z : Int) := IntWalk.i64_in _ (by omega)
      clear hP hQ hfalse HRr cA cB
      cases r with
      | true =>
        obtain rfl : P = Q := hPQ.2 rfl
        clear hPQ
        go_enter Try.func96, Try.ntmps96
        go_wp2_with fail
        refine (k1 _).mono ?_
        rintro e w2 ⟨rfl, rfl⟩
        go_wp2_with fail
        refine (k2 _).mono ?_
        rintro e w2 ⟨rfl, rfl⟩
        go_wp2
        go_quiet (fail)
        go_wp2
        go_ret
        exact ⟨rfl, below_drewN' ((Below.refl _ _).alloc (Nat.le_refl _) _) _⟩
      | false =>
        have hne : ¬ P = Q := fun e => absurd (hPQ.1 e) (by decide)
        have hb : (P.toList == Q.toList) = false := eq7_no hne
        clear hPQ
        go_enter Try.func96, Try.ntmps96
        go_wp2_with fail
        refine (k1 _).mono ?_
        rintro e w2 ⟨rfl, rfl⟩
        go_wp2_with fail
        refine (k2 _).mono ?_
        rintro e w2 ⟨rfl, rfl⟩
        go_wp2
        go_quiet (fail)
        go_wp2
        go_ret
        exact ⟨rfl, below_drewN' ((Below.refl _ _).alloc (Nat.le_refl _) _) _⟩
    · have k2 := fun w => implHasFrom_is false t y z w ⟨(fun h => absurd h (by decide)), fun h => absurd h cB⟩ hy ht
      obtain rfl : r = false := hfalse (by rw [okP_iff]; omega)
      clear hfalse HRr cA cB
      go_enter Try.func96, Try.ntmps96
      go_wp2_with fail
      refine (k1 _).mono ?_
      rintro e w2 ⟨rfl, rfl⟩
      go_wp2_with fail
      refine (k2 _).mono ?_
      rintro e w2 ⟨rfl, rfl⟩
      go_wp2
      go_ret
      exact ⟨rfl, (Below.refl _ _).alloc (Nat.le_refl _) _⟩
  · have k1 := fun w => implHasFrom_is false s x z w ⟨(fun h => absurd h (by decide)), fun h => absurd h cA⟩ hx hs
    obtain rfl : r = false := hfalse (by rw [okP_iff]; omega)
    clear hfalse HRr cA
    go_enter Try.func96, Try.ntmps96
    go_wp2_with fail
    refine (k1 _).mono ?_
    rintro e w2 ⟨rfl, rfl⟩
    go_wp2
    go_ret
    exact ⟨rfl, (Below.refl _ _).alloc (Nat.le_refl _) _⟩


end Go.Proofs.Ytbnagmjhdnnheaa

namespace Go.Proofs.Ytbnagmjhdnnheaa
open Go.RowKit

set_option maxHeartbeats 4000000 in
theorem implBegin_any (s t : ByteArray) (w : World) (hs : s.size ≤ 4194304) :
    Calls Try.prog 105 #[.string s, .string t] w fun e w' => e = .returned (.int .i64 ((runP s t 0 0 : Nat) : Int)) ∧ ∃ q, w' = w.drewN q := by
  go_enter Try.func105, Try.ntmps105
  go_wp2
  go_loopw [5] (fun n_ wr => ∃ k : Nat, k ≤ runP s t 0 0 ∧ n_ = .int .i64 (k : Int) ∧ Hid (∃ q, wr = w.drewN q)) (fun n_ _ => s.size - (intOf n_).toNat)
  case atStart => exact ⟨0, Nat.zero_le _, rfl, Lib.hid ⟨0, rfl⟩⟩
  case round =>
    obtain ⟨k, hk, rfl, HQ⟩ := hrel
    have hroom := runP_room s t 0 0 (Nat.zero_le _) (Nat.zero_le _)
    have htest := run_test hk
    rw [Nat.zero_add] at htest
    have HNX := Lib.hid (show ∀ u, ∃ q, wr.drewN u = w.drewN q from fun u => by
      obtain ⟨q, rfl⟩ := HQ.out
      exact ⟨q + u, by rw [World.drewN_drewN]⟩)
    have z0 : (0 : Int) ≤ (k : Int) := by omega
    by_cases hlt : k < runP s t 0 0
    · have h3 := htest.2 hlt
      have hp := h3.1
      have hq := h3.2.1
      obtain ⟨_, tb, _⟩ := is_sm h3 hp hq
      have z1 : (k : Int) < (s.size : Int) := by omega
      have z2 : (k : Int) < (t.size : Int) := by omega
      have x1 : decide (k < s.size) = true := decide_eq_true hp
      have x2 : decide (k < t.size) = true := decide_eq_true hq
      have x3 : decide ((k : Int) < (s.size : Int)) = true := decide_eq_true z1
      have x4 : decide ((k : Int) < (t.size : Int)) = true := decide_eq_true z2
      have HLT := Lib.hid hlt
      clear h3 htest hroom hlt hk
      go_wp2
      go_quiet (fail)
      go_wp2
      go_roundw
      case rel => exact ⟨k + 1, HLT.out, by go_num, HNX.out _⟩
      case measure => simp [intOf]; omega
    · have hno : ¬ sm s t k k := fun e => hlt (htest.1 e)
      have HE := Lib.hid (show runP s t 0 0 = k by omega)
      clear htest
      by_cases hm : k < s.size
      · have z1 : (k : Int) < (s.size : Int) := by omega
        have x1 : decide (k < s.size) = true := decide_eq_true hm
        have x3 : decide ((k : Int) < (s.size : Int)) = true := decide_eq_true z1
        by_cases hn : k < t.size
        · obtain ⟨tb, _⟩ := not_sm hno hm hn
          have z2 : (k : Int) < (t.size : Int) := by omega
          have x2 : decide (k < t.size) = true := decide_eq_true hn
          have x4 : decide ((k : Int) < (t.size : Int)) = true := decide_eq_true z2
          clear hno hroom hlt hk
          go_wp2
          go_quiet (fail)
          go_wp2
          go_ret
          exact ⟨by rw [HE.out]; rfl, HNX.out _⟩
        · have z2 : ¬ (k : Int) < (t.size : Int) := by omega
          have x2 : decide (k < t.size) = false := decide_eq_false hn
          have x4 : decide ((k : Int) < (t.size : Int)) = false := decide_eq_false z2
          clear hno hroom hlt hk
          go_wp2
          go_quiet (fail)
          go_wp2
          go_ret
          exact ⟨by rw [HE.out]; rfl, HNX.out _⟩
      · have z1 : ¬ (k : Int) < (s.size : Int) := by omega
        have x1 : decide (k < s.size) = false := decide_eq_false hm
        have x3 : decide ((k : Int) < (s.size : Int)) = false := decide_eq_false z1
        clear hno hroom hlt hk
        go_wp2
        go_quiet (fail)
        go_wp2
        go_ret
        exact ⟨by rw [HE.out]; rfl, HNX.out _⟩

set_option maxHeartbeats 4000000 in
theorem implEnd_any (s t : ByteArray) (w : World) (hs : s.size ≤ 4194304) (ht : t.size ≤ 4194304) :
    Calls Try.prog 104 #[.string s, .string t] w fun e w' => e = .returned (.int .i64 ((backP s t s.size t.size : Nat) : Int)) ∧ ∃ q, w' = w.drewN q := by
  go_enter Try.func104, Try.ntmps104
  go_wp2
  go_loopw [5] (fun n_ wr => ∃ k : Nat, k ≤ backP s t s.size t.size ∧ n_ = .int .i64 (k : Int) ∧ Hid (∃ q, wr = w.drewN q)) (fun n_ _ => s.size - (intOf n_).toNat)
  case atStart => exact ⟨0, Nat.zero_le _, rfl, Lib.hid ⟨0, rfl⟩⟩
  case round =>
    obtain ⟨k, hk, rfl, HQ⟩ := hrel
    have hroom := backP_le s t s.size t.size
    have htest := back_test hk
    have HNX := Lib.hid (show ∀ u, ∃ q, wr.drewN u = w.drewN q from fun u => by
      obtain ⟨q, rfl⟩ := HQ.out
      exact ⟨q + u, by rw [World.drewN_drewN]⟩)
    have z0 : (0 : Int) ≤ (k : Int) := by omega
    by_cases hm : k < s.size
    · have z1 : (k : Int) < (s.size : Int) := by omega
      have x1 : decide (k < s.size) = true := decide_eq_true hm
      have x3 : decide ((k : Int) < (s.size : Int)) = true := decide_eq_true z1
      by_cases hn : k < t.size
      · have z2 : (k : Int) < (t.size : Int) := by omega
        have x2 : decide (k < t.size) = true := decide_eq_true hn
        have x4 : decide ((k : Int) < (t.size : Int)) = true := decide_eq_true z2
        obtain ⟨p, hp⟩ : ∃ p, s.size - k - 1 = p := ⟨_, rfl⟩
        obtain ⟨q, hq⟩ : ∃ p, t.size - k - 1 = p := ⟨_, rfl⟩
        rw [hp, hq] at htest
        have e1 : IntKind.i64.wrap ((s.size : Int) - 1) = (s.size : Int) - 1 := IntWalk.i64_in _ (by omega)
        have e2 : IntKind.i64.wrap ((t.size : Int) - 1) = (t.size : Int) - 1 := IntWalk.i64_in _ (by omega)
        have e3 : (s.size : Int) - 1 - (k : Int) = (p : Int) := by omega
        have e4 : (t.size : Int) - 1 - (k : Int) = (q : Int) := by omega
        have e5 : IntKind.i64.wrap (p : Int) = (p : Int) := IntWalk.i64_in _ (by omega)
        have e6 : IntKind.i64.wrap (q : Int) = (q : Int) := IntWalk.i64_in _ (by omega)
        have hps : p < s.size := by omega
        have hqs : q < t.size := by omega
        have y1 : (p : Int) < (s.size : Int) := by omega
        have y2 : (q : Int) < (t.size : Int) := by omega
        have y3 : (0 : Int) ≤ (p : Int) := by omega
        have y4 : (0 : Int) ≤ (q : Int) := by omega
        by_cases hlt : k < backP s t s.size t.size
        · obtain ⟨_, _, h3⟩ := htest.2 hlt
          obtain ⟨_, tb, _⟩ := is_sm h3 hps hqs
          have HLT := Lib.hid hlt
          clear h3 htest hroom hlt hk hp hq
          go_wp2
          go_quiet (fail)
          go_wp2
          go_roundw
          case rel => exact ⟨k + 1, HLT.out, by go_num, HNX.out _⟩
          case measure => simp [intOf]; omega
        · have hno : ¬ sm s t p q := fun e => hlt (htest.1 ⟨by omega, by omega, e⟩)
          have HE := Lib.hid (show backP s t s.size t.size = k by omega)
          obtain ⟨tb, _⟩ := not_sm hno hps hqs
          clear hno htest hroom hlt hk hp hq
          go_wp2
          go_quiet (fail)
          go_wp2
          go_ret
          exact ⟨by rw [HE.out]; rfl, HNX.out _⟩
      · have z2 : ¬ (k : Int) < (t.size : Int) := by omega
        have x2 : decide (k < t.size) = false := decide_eq_false hn
        have x4 : decide ((k : Int) < (t.size : Int)) = false := decide_eq_false z2
        have HE := Lib.hid (show backP s t s.size t.size = k by omega)
        clear htest hroom hk
        go_wp2
        go_quiet (fail)
        go_wp2
        go_ret
        exact ⟨by rw [HE.out]; rfl, HNX.out _⟩
    · have z1 : ¬ (k : Int) < (s.size : Int) := by omega
      have x1 : decide (k < s.size) = false := decide_eq_false hm
      have x3 : decide ((k : Int) < (s.size : Int)) = false := decide_eq_false z1
      have HE := Lib.hid (show backP s t s.size t.size = k by omega)
      clear htest hroom hk
      go_wp2
      go_quiet (fail)
      go_wp2
      go_ret
      exact ⟨by rw [HE.out]; rfl, HNX.out _⟩

set_option maxRecDepth 4000 in
set_option maxHeartbeats 8000000 in
theorem implGrow_any (s t : ByteArray) (i j x y z : Int) (b : Bool) (w : World) (h : growT s t i j = ((x, y, z), b)) (hi9 : i ≤ 9223372036854775807) (hj9 : j ≤ 9223372036854775807) (hs : s.size ≤ 4194304) (ht : t.size ≤ 4194304) :
    Calls Try.prog 92 #[.string s, .string t, .int .i64 i, .int .i64 j] w fun e w' => e = .returned (.tuple #[.agg #[.int .i64 x, .int .i64 y, .int .i64 z], .bool b]) ∧ Below w.heap.size w w' := by
  rcases growT_triple h with ⟨I, J, rfl, rfl, hsm, rfl, hx, hy, hz⟩ | ⟨hno, rfl, rfl, rfl, rfl⟩
  · have hI := hsm.1
    have hJ := hsm.2.1
    have hle := backP_le s t I J
    have hrm := runP_room s t I J (by omega) (by omega)
    rw [runP_back] at hz
    have c1 := fun w => implPieceOk_is true s t I J 1 w ⟨fun _ => by
      rw [okP_iff, Int.toNat_natCast, Int.toNat_natCast]
      exact ⟨by omega, by omega, by decide, by omega, by omega, runP_pos hsm⟩, fun _ => rfl⟩ (by omega) (by omega) hs ht
    obtain ⟨A, hA⟩ : ∃ A, backP s t I J = A := ⟨_, rfl⟩
    obtain ⟨R, hR⟩ : ∃ A, runP s t I J = A := ⟨_, rfl⟩
    obtain ⟨P1, hP1⟩ : ∃ P, s.extract 0 I = P := ⟨_, rfl⟩
    obtain ⟨Q1, hQ1⟩ : ∃ P, t.extract 0 J = P := ⟨_, rfl⟩
    obtain ⟨P2, hP2⟩ : ∃ P, s.extract I s.size = P := ⟨_, rfl⟩
    obtain ⟨Q2, hQ2⟩ : ∃ P, t.extract J t.size = P := ⟨_, rfl⟩
    have s1 : P1.size = I := by rw [← hP1, ByteArray.size_extract]; omega
    have s2 : Q1.size = J := by rw [← hQ1, ByteArray.size_extract]; omega
    have s3 : P2.size ≤ 4194304 := by rw [← hP2, ByteArray.size_extract]; omega
    have c2 := fun w => implEnd_any P1 Q1 w (by omega) (by omega)
    have c3 := fun w => implBegin_any P2 Q2 w s3
    rw [s1, s2, ← hP1, ← hQ1, backP_upto (by omega) (by omega) I J (Nat.le_refl _) (Nat.le_refl _), hA, hP1, hQ1] at c2
    rw [← hP2, ← hQ2, runP_from, hR, hP2, hQ2] at c3
    have sl1 : ∀ w, (Instr.slice 9 (.string s) none (some (.int .i64 (I : Int))) none).run Try.prog w = .ok (.string P1) w := fun w => by
      have h1 := run_slice_string_h (P := Try.prog) w 9 s Try.uls7 .i64 (I : Int) (by omega) (by omega)
      rwa [Int.toNat_natCast, hP1] at h1
    have sl2 : ∀ w, (Instr.slice 9 (.string t) none (some (.int .i64 (J : Int))) none).run Try.prog w = .ok (.string Q1) w := fun w => by
      have h1 := run_slice_string_h (P := Try.prog) w 9 t Try.uls7 .i64 (J : Int) (by omega) (by omega)
      rwa [Int.toNat_natCast, hQ1] at h1
    have sl3 : ∀ w, (Instr.slice 9 (.string s) (some (.int .i64 (I : Int))) none none).run Try.prog w = .ok (.string P2) w := fun w => by
      have h1 := run_slice_string_l (P := Try.prog) w 9 s Try.uls7 .i64 (I : Int) (by omega) (by omega)
      rwa [Int.toNat_natCast, hP2] at h1
    have sl4 : ∀ w, (Instr.slice 9 (.string t) (some (.int .i64 (J : Int))) none none).run Try.prog w = .ok (.string Q2) w := fun w => by
      have h1 := run_slice_string_l (P := Try.prog) w 9 t Try.uls7 .i64 (J : Int) (by omega) (by omega)
      rwa [Int.toNat_natCast, hQ2] at h1
    rw [hA] at hx hy hle hz
    rw [hR] at hz hrm
    have e1 : (I : Int) - (A : Int) = x := by omega
    have e2 : (J : Int) - (A : Int) = y := by omega
    have e3 : (A : Int) + (R : Int) = z := by omega
    have e4 : IntKind.i64.wrap x = x := IntWalk.i64_in _ (by omega)
    have e5 : IntKind.i64.wrap y = y := IntWalk.i64_in _ (by omega)
    have e6 : IntKind.i64.wrap z = z := IntWalk.i64_in _ (by omega)
    clear h hA hR hP1 hP2 hQ1 hQ2 s1 s2 s3 hx hy hz hle hrm hsm hI hJ
    go_enter Try.func92, Try.ntmps92
    go_wp2_with fail
    refine (c1 _).mono ?_
    rintro e w2 ⟨rfl, b2⟩
    have HS := Lib.hid ((Side.fresh (w := w) (B := w.heap.size) (v := .slice none 0 0) 88 [.int .i64 0, .int .i64 0, .int .i64 0] (Nat.le_refl _) (by intro k hk; simp [Value.ownBlock] at hk)).later b2)
    have B2 : Below w.heap.size w w2 := Below.trans ((Below.refl _ _).alloc (Nat.le_refl _) _) (b2.mono (by simp))
    clear b2 c1
    obtain ⟨h8, hh8⟩ : ∃ g, w.heap.size = g := ⟨_, rfl⟩
    have HB8 := Lib.hid hh8
    have HS := Lib.hid (show Side w2 w.heap.size (.slice none 0 0) 88 h8 [.int .i64 0, .int .i64 0, .int .i64 0] by rw [← hh8]; exact HS.out)
    rw [hh8]
    clear hh8
    go_wp2
    go_quiet ((go_at_call 104; exact Calls.quiet_of (c2 _)))
    have HS3 := Lib.hid (HS.out.drewN nq)
    have B3 := below_drewN' B2 nq
    clear HS B2
    generalize w2.drewN nq = w3 at HS3 B3 ⊢
    go_wp2
    go_quiet ((go_at_call 105; exact Calls.quiet_of (c3 _)))
    have HS4 := Lib.hid (HS3.out.drewN nq)
    have B4 := below_drewN' B3 nq
    clear HS3 B3
    generalize w3.drewN nq = w4 at HS4 B4 ⊢
    have k1 := HS4.out.cell 0 _ rfl
    have k2 := HS4.out.cell 1 _ rfl
    have k3 := HS4.out.cell 2 _ rfl
    have r1 := HS4.out.frozen 0
    have r2 := HS4.out.frozen 1
    have r3 := HS4.out.frozen 2
    have HSX := Lib.hid ((((HS4.out.set_self 0 (.int .i64 x)).set_self 1 (.int .i64 y)).set_self 2 (.int .i64 z)))
    have HHB := Lib.hid HS4.out.base
    go_wp2
    have q1 := HSX.out.cell 0 _ rfl
    have q2 := HSX.out.cell 1 _ rfl
    have q3 := HSX.out.cell 2 _ rfl
    refine bodyPost_ret (v := .tuple #[.agg #[.int .i64 x, .int .i64 y, .int .i64 z], .bool true]) (by simp [results, Try.results92, go_sem, q1, q2, q3]) rfl ⟨rfl, ?_⟩
    exact below_set7 (below_set7 (below_set7 B4 HHB.out _ _) HHB.out _ _) HHB.out _ _
  · have hno2 : ¬ okP s t (i, j, 1) := fun h9 => hno (by
      rw [okP_iff] at h9
      refine ⟨h9.1, h9.2.1, ?_⟩
      have h10 := runP_same s t i.toNat j.toNat 0 (by have := h9.2.2.2.2.2; omega)
      exact h10)
    have c1 := fun w => implPieceOk_is false s t i j 1 w ⟨(fun h => absurd h (by decide)), fun h => absurd h hno2⟩ hi9 hj9 hs ht
    clear hno hno2 h
    go_enter Try.func92, Try.ntmps92
    go_wp2_with fail
    refine (c1 _).mono ?_
    rintro e w2 ⟨rfl, b2⟩
    have HS := Lib.hid ((Side.fresh (w := w) (B := w.heap.size) (v := .slice none 0 0) 88 [.int .i64 0, .int .i64 0, .int .i64 0] (Nat.le_refl _) (by intro k hk; simp [Value.ownBlock] at hk)).later b2)
    have B2 : Below w.heap.size w w2 := Below.trans ((Below.refl _ _).alloc (Nat.le_refl _) _) (b2.mono (by simp))
    clear b2 c1
    obtain ⟨h8, hh8⟩ : ∃ g, w.heap.size = g := ⟨_, rfl⟩
    have HS4 := Lib.hid (show Side w2 w.heap.size (.slice none 0 0) 88 h8 [.int .i64 0, .int .i64 0, .int .i64 0] by rw [← hh8]; exact HS.out)
    rw [hh8]
    clear hh8 HS
    have k1 := HS4.out.cell 0 _ rfl
    have k2 := HS4.out.cell 1 _ rfl
    have k3 := HS4.out.cell 2 _ rfl
    have r1 := HS4.out.frozen 0
    have r2 := HS4.out.frozen 1
    have r3 := HS4.out.frozen 2
    have HSX := Lib.hid ((((HS4.out.set_self 0 (.int .i64 0)).set_self 1 (.int .i64 0)).set_self 2 (.int .i64 0)))
    have HHB := Lib.hid HS4.out.base
    go_wp2
    have q1 := HSX.out.cell 0 _ rfl
    have q2 := HSX.out.cell 1 _ rfl
    have q3 := HSX.out.cell 2 _ rfl
    refine bodyPost_ret (v := .tuple #[.agg #[.int .i64 0, .int .i64 0, .int .i64 0], .bool false]) (by simp [results, Try.results92, go_sem, q1, q2, q3]) rfl ⟨rfl, ?_⟩
    exact below_set7 (below_set7 (below_set7 B2 HHB.out _ _) HHB.out _ _) HHB.out _ _

set_option maxRecDepth 4000 in
set_option maxHeartbeats 8000000 in
theorem implFrom_any (s t : ByteArray) (i j : Nat) (x y z : Int) (w : World) (h : fromP s t i j = (x, y, z)) (hi : i ≤ s.size) (hj : j ≤ t.size) (hs : s.size ≤ 4194304) (ht : t.size ≤ 4194304) :
    Calls Try.prog 99 #[.string s, .string t, .int .i64 (i : Int), .int .i64 (j : Int)] w fun e w' => e = .returned (.agg #[.int .i64 x, .int .i64 y, .int .i64 z]) ∧ Below w.heap.size w w' := by
  by_cases hin : 0 < i ∧ 0 < j ∧ sm s t (i - 1) (j - 1)
  · rw [fromP_in hin] at h
    simp only [Prod.mk.injEq] at h
    obtain ⟨rfl, rfl, rfl⟩ := h
    obtain ⟨h1, h2, h3⟩ := hin
    obtain ⟨p, rfl⟩ : ∃ p, i = p + 1 := ⟨i - 1, by omega⟩
    obtain ⟨q, rfl⟩ : ∃ p, j = p + 1 := ⟨j - 1, by omega⟩
    rw [Nat.add_sub_cancel, Nat.add_sub_cancel] at h3
    have hp := h3.1
    have hq := h3.2.1
    obtain ⟨_, tb, _⟩ := is_sm h3 hp hq
    have e1 : IntKind.i64.wrap ((p : Int) + 1 - 1) = (p : Int) := by rw [IntWalk.i64_in _ (by omega)]; omega
    have e2 : IntKind.i64.wrap ((q : Int) + 1 - 1) = (q : Int) := by rw [IntWalk.i64_in _ (by omega)]; omega
    have e3 : (p : Int) + 1 - 1 = (p : Int) := by omega
    have e4 : (q : Int) + 1 - 1 = (q : Int) := by omega
    have e5 : IntKind.i64.wrap (p : Int) = (p : Int) := IntWalk.i64_in _ (by omega)
    have e6 : IntKind.i64.wrap (q : Int) = (q : Int) := IntWalk.i64_in _ (by omega)
    have y1 : (0 : Int) < (p : Int) + 1 := by omega
    have y2 : (0 : Int) < (q : Int) + 1 := by omega
    have y3 : (p : Int) < (s.size : Int) := by omega
    have y4 : (q : Int) < (t.size : Int) := by omega
    have y5 : (0 : Int) ≤ (p : Int) := by omega
    have y6 : (0 : Int) ≤ (q : Int) := by omega
    have x1 : decide ((0 : Int) < (p : Int) + 1) = true := decide_eq_true y1
    have x2 : decide ((0 : Int) < (q : Int) + 1) = true := decide_eq_true y2
    clear h3 h1 h2
    go_enter Try.func99, Try.ntmps99
    go_wp2
    go_quiet (fail)
    go_wp2
    refine bodyPost_ret (v := .agg #[.int .i64 0, .int .i64 0, .int .i64 0]) (by simp [results, Try.results99, go_sem]) rfl ⟨rfl, ?_⟩
    exact below_set7 (below_set7 (below_set7 (below_drewN' ((Below.refl _ _).alloc (Nat.le_refl _) _) _) (Nat.le_refl _) _ _) (Nat.le_refl _) _ _) (Nat.le_refl _) _ _
  · rw [fromP_out hin, pieceN] at h
    simp only [Prod.mk.injEq] at h
    obtain ⟨rfl, rfl, hz⟩ := h
    obtain ⟨P2, hP2⟩ : ∃ P, s.extract i s.size = P := ⟨_, rfl⟩
    obtain ⟨Q2, hQ2⟩ : ∃ P, t.extract j t.size = P := ⟨_, rfl⟩
    have s3 : P2.size ≤ 4194304 := by rw [← hP2, ByteArray.size_extract]; omega
    have c3 := fun w => implBegin_any P2 Q2 w s3
    rw [← hP2, ← hQ2, runP_from, hz, hP2, hQ2] at c3
    have sl3 : ∀ w, (Instr.slice 9 (.string s) (some (.int .i64 (i : Int))) none none).run Try.prog w = .ok (.string P2) w := fun w => by
      have h1 := run_slice_string_l (P := Try.prog) w 9 s Try.uls7 .i64 (i : Int) (by omega) (by omega)
      rwa [Int.toNat_natCast, hP2] at h1
    have sl4 : ∀ w, (Instr.slice 9 (.string t) (some (.int .i64 (j : Int))) none none).run Try.prog w = .ok (.string Q2) w := fun w => by
      have h1 := run_slice_string_l (P := Try.prog) w 9 t Try.uls7 .i64 (j : Int) (by omega) (by omega)
      rwa [Int.toNat_natCast, hQ2] at h1
    clear hz hP2 hQ2 s3
    by_cases hi0 : i = 0
    · have y1 : ¬ (0 : Int) < (i : Int) := by omega
      have x1 : decide (0 < i) = false := decide_eq_false (by omega)
      have x2 : decide ((0 : Int) < (i : Int)) = false := decide_eq_false y1
      clear hi0 hin
      go_enter Try.func99, Try.ntmps99
      go_wp2
      go_quiet (fail)
      go_wp2
      have HS := Lib.hid ((Side.fresh (w := w) (B := w.heap.size) (v := .slice none 0 0) 88 [.int .i64 0, .int .i64 0, .int .i64 0] (Nat.le_refl _) (by intro k hk; simp [Value.ownBlock] at hk)).drewN nq)
      have HB := Lib.hid (below_drewN' ((Below.refl w.heap.size w).alloc (Nat.le_refl _) (.cells #[.int .i64 0, .int .i64 0, .int .i64 0] 88)) nq)
      obtain ⟨h8, hh8⟩ : ∃ g, w.heap.size = g := ⟨_, rfl⟩
      have HS := Lib.hid (show Side ((w.alloc (.cells #[.int .i64 0, .int .i64 0, .int .i64 0] 88)).drewN nq) w.heap.size (.slice none 0 0) 88 h8 [.int .i64 0, .int .i64 0, .int .i64 0] from hh8 ▸ HS.out)
      rw [hh8]
      clear hh8
      generalize (w.alloc (.cells #[.int .i64 0, .int .i64 0, .int .i64 0] 88)).drewN nq = w1 at HS HB ⊢
      go_region_held3 (fun _ => True) (trivial)
        ((go_at_call 105; refine (c3 _).mono ?_; rintro e w6 ⟨rfl, q6, hq6⟩; have W6 : Below w1.heap.size w1 w6 := (by rw [hq6]; exact below_drewN' (by repeat (first | exact Below.refl _ _ | refine Below.drew ?_ | refine below_drewN' ?_ _)) _); clear hq6; have HS6 := Lib.hid (HS.out.later W6); have k1 := HS6.out.cell 0 _ rfl; have k2 := HS6.out.cell 1 _ rfl; have k3 := HS6.out.cell 2 _ rfl; have r1 := HS6.out.frozen 0; have r2 := HS6.out.frozen 1; have r3 := HS6.out.frozen 2))
      have HSX := Lib.hid (((HS6.out.set_self 0 (.int .i64 (i : Int))).set_self 1 (.int .i64 (j : Int))).set_self 2 (.int .i64 z))
      have HHB := Lib.hid HS6.out.base
      have B6 := HB.out.trans (W6.mono HB.out.size)
      go_wp2
      have q1 := HSX.out.cell 0 _ rfl
      have q2 := HSX.out.cell 1 _ rfl
      have q3 := HSX.out.cell 2 _ rfl
      refine bodyPost_ret (v := .agg #[.int .i64 (i : Int), .int .i64 (j : Int), .int .i64 z]) (by simp [results, Try.results99, go_sem, q1, q2, q3]) rfl ⟨rfl, ?_⟩
      exact below_set7 (below_set7 (below_set7 B6 HHB.out _ _) HHB.out _ _) HHB.out _ _
    · have y1 : (0 : Int) < (i : Int) := by omega
      have x1 : decide (0 < i) = true := decide_eq_true (by omega)
      have x2 : decide ((0 : Int) < (i : Int)) = true := decide_eq_true y1
      by_cases hj0 : j = 0
      · have y2 : ¬ (0 : Int) < (j : Int) := by omega
        have x3 : decide (0 < j) = false := decide_eq_false (by omega)
        have x4 : decide ((0 : Int) < (j : Int)) = false := decide_eq_false y2
        clear hi0 hj0 hin
        go_enter Try.func99, Try.ntmps99
        go_wp2
        go_quiet (fail)
        go_wp2
        have HS := Lib.hid ((Side.fresh (w := w) (B := w.heap.size) (v := .slice none 0 0) 88 [.int .i64 0, .int .i64 0, .int .i64 0] (Nat.le_refl _) (by intro k hk; simp [Value.ownBlock] at hk)).drewN nq)
        have HB := Lib.hid (below_drewN' ((Below.refl w.heap.size w).alloc (Nat.le_refl _) (.cells #[.int .i64 0, .int .i64 0, .int .i64 0] 88)) nq)
        obtain ⟨h8, hh8⟩ : ∃ g, w.heap.size = g := ⟨_, rfl⟩
        have HS := Lib.hid (show Side ((w.alloc (.cells #[.int .i64 0, .int .i64 0, .int .i64 0] 88)).drewN nq) w.heap.size (.slice none 0 0) 88 h8 [.int .i64 0, .int .i64 0, .int .i64 0] from hh8 ▸ HS.out)
        rw [hh8]
        clear hh8
        generalize (w.alloc (.cells #[.int .i64 0, .int .i64 0, .int .i64 0] 88)).drewN nq = w1 at HS HB ⊢
        go_region_held3 (fun _ => True) (trivial)
          ((go_at_call 105; refine (c3 _).mono ?_; rintro e w6 ⟨rfl, q6, hq6⟩; have W6 : Below w1.heap.size w1 w6 := (by rw [hq6]; exact below_drewN' (by repeat (first | exact Below.refl _ _ | refine Below.drew ?_ | refine below_drewN' ?_ _)) _); clear hq6; have HS6 := Lib.hid (HS.out.later W6); have k1 := HS6.out.cell 0 _ rfl; have k2 := HS6.out.cell 1 _ rfl; have k3 := HS6.out.cell 2 _ rfl; have r1 := HS6.out.frozen 0; have r2 := HS6.out.frozen 1; have r3 := HS6.out.frozen 2))
        have HSX := Lib.hid (((HS6.out.set_self 0 (.int .i64 (i : Int))).set_self 1 (.int .i64 (j : Int))).set_self 2 (.int .i64 z))
        have HHB := Lib.hid HS6.out.base
        have B6 := HB.out.trans (W6.mono HB.out.size)
        go_wp2
        have q1 := HSX.out.cell 0 _ rfl
        have q2 := HSX.out.cell 1 _ rfl
        have q3 := HSX.out.cell 2 _ rfl
        refine bodyPost_ret (v := .agg #[.int .i64 (i : Int), .int .i64 (j : Int), .int .i64 z]) (by simp [results, Try.results99, go_sem, q1, q2, q3]) rfl ⟨rfl, ?_⟩
        exact below_set7 (below_set7 (below_set7 B6 HHB.out _ _) HHB.out _ _) HHB.out _ _
      · have y2 : (0 : Int) < (j : Int) := by omega
        have x3 : decide (0 < j) = true := decide_eq_true (by omega)
        have x4 : decide ((0 : Int) < (j : Int)) = true := decide_eq_true y2
        have hno : ¬ sm s t (i - 1) (j - 1) := fun e => hin ⟨by omega, by omega, e⟩
        obtain ⟨p, hp⟩ : ∃ p, i - 1 = p := ⟨_, rfl⟩
        obtain ⟨q, hq⟩ : ∃ p, j - 1 = p := ⟨_, rfl⟩
        rw [hp, hq] at hno
        have hps : p < s.size := by omega
        have hqs : q < t.size := by omega
        obtain ⟨tb, _⟩ := not_sm hno hps hqs
        have e1 : IntKind.i64.wrap ((i : Int) - 1) = (p : Int) := by rw [IntWalk.i64_in _ (by omega)]; omega
        have e2 : IntKind.i64.wrap ((j : Int) - 1) = (q : Int) := by rw [IntWalk.i64_in _ (by omega)]; omega
        have e3 : (i : Int) - 1 = (p : Int) := by omega
        have e4 : (j : Int) - 1 = (q : Int) := by omega
        have e5 : IntKind.i64.wrap (p : Int) = (p : Int) := IntWalk.i64_in _ (by omega)
        have e6 : IntKind.i64.wrap (q : Int) = (q : Int) := IntWalk.i64_in _ (by omega)
        have y3 : (p : Int) < (s.size : Int) := by omega
        have y4 : (q : Int) < (t.size : Int) := by omega
        have y5 : (0 : Int) ≤ (p : Int) := by omega
        have y6 : (0 : Int) ≤ (q : Int) := by omega
        clear hi0 hj0 hin hno hp hq
        go_enter Try.func99, Try.ntmps99
        go_wp2
        go_quiet (fail)
        go_wp2
        have HS := Lib.hid ((Side.fresh (w := w) (B := w.heap.size) (v := .slice none 0 0) 88 [.int .i64 0, .int .i64 0, .int .i64 0] (Nat.le_refl _) (by intro k hk; simp [Value.ownBlock] at hk)).drewN nq)
        have HB := Lib.hid (below_drewN' ((Below.refl w.heap.size w).alloc (Nat.le_refl _) (.cells #[.int .i64 0, .int .i64 0, .int .i64 0] 88)) nq)
        obtain ⟨h8, hh8⟩ : ∃ g, w.heap.size = g := ⟨_, rfl⟩
        have HS := Lib.hid (show Side ((w.alloc (.cells #[.int .i64 0, .int .i64 0, .int .i64 0] 88)).drewN nq) w.heap.size (.slice none 0 0) 88 h8 [.int .i64 0, .int .i64 0, .int .i64 0] from hh8 ▸ HS.out)
        rw [hh8]
        clear hh8
        generalize (w.alloc (.cells #[.int .i64 0, .int .i64 0, .int .i64 0] 88)).drewN nq = w1 at HS HB ⊢
        go_region_held3 (fun _ => True) (trivial)
          ((go_at_call 105; refine (c3 _).mono ?_; rintro e w6 ⟨rfl, q6, hq6⟩; have W6 : Below w1.heap.size w1 w6 := (by rw [hq6]; exact below_drewN' (by repeat (first | exact Below.refl _ _ | refine Below.drew ?_ | refine below_drewN' ?_ _)) _); clear hq6; have HS6 := Lib.hid (HS.out.later W6); have k1 := HS6.out.cell 0 _ rfl; have k2 := HS6.out.cell 1 _ rfl; have k3 := HS6.out.cell 2 _ rfl; have r1 := HS6.out.frozen 0; have r2 := HS6.out.frozen 1; have r3 := HS6.out.frozen 2))
        have HSX := Lib.hid (((HS6.out.set_self 0 (.int .i64 (i : Int))).set_self 1 (.int .i64 (j : Int))).set_self 2 (.int .i64 z))
        have HHB := Lib.hid HS6.out.base
        have B6 := HB.out.trans (W6.mono HB.out.size)
        go_wp2
        have q1 := HSX.out.cell 0 _ rfl
        have q2 := HSX.out.cell 1 _ rfl
        have q3 := HSX.out.cell 2 _ rfl
        refine bodyPost_ret (v := .agg #[.int .i64 (i : Int), .int .i64 (j : Int), .int .i64 z]) (by simp [results, Try.results99, go_sem, q1, q2, q3]) rfl ⟨rfl, ?_⟩
        exact below_set7 (below_set7 (below_set7 B6 HHB.out _ _) HHB.out _ _) HHB.out _ _

end Go.Proofs.Ytbnagmjhdnnheaa

namespace Go.Proofs.Ytbnagmjhdnnheaa
open Go.RowKit

theorem implLess7_any (a b c d e f : Int) (w : World) :
    Calls Try.prog 114 #[.agg #[.int .i64 a, .int .i64 b, .int .i64 c], .agg #[.int .i64 d, .int .i64 e, .int .i64 f]] w fun r w' => r = .returned (.bool (decide (enLt (a, b, c) (d, e, f)))) ∧ Below w.heap.size w w' := by
  by_cases h1 : a = d
  · subst h1
    have t1 : (a == a) = true := beq_self_eq_true _
    have t1' : (a != a) = false := by rw [bne, t1]; rfl
    by_cases h2 : b = e
    · subst h2
      have t2 : (b == b) = true := beq_self_eq_true _
      have t2' : (b != b) = false := by rw [bne, t2]; rfl
      have HD := Lib.hid (show decide (enLt (a, b, c) (a, b, f)) = decide (c < f) from decide_eq_decide.2 (by rw [enLt_iff7]; constructor <;> omega))
      go_enter Try.func114, Try.ntmps114
      go_wp2
      go_ret
      exact ⟨by rw [HD.out]; rfl, below_alloc2 _ _ _⟩
    · have t2 : (b == e) = false := by simpa using h2
      have t2' : (b != e) = true := by rw [bne, t2]; rfl
      have HD := Lib.hid (show decide (enLt (a, b, c) (a, e, f)) = decide (b < e) from decide_eq_decide.2 (by rw [enLt_iff7]; constructor <;> omega))
      clear h2
      go_enter Try.func114, Try.ntmps114
      go_wp2
      go_ret
      exact ⟨by rw [HD.out]; rfl, below_alloc2 _ _ _⟩
  · have t1 : (a == d) = false := by simpa using h1
    have t1' : (a != d) = true := by rw [bne, t1]; rfl
    have HD := Lib.hid (show decide (enLt (a, b, c) (d, e, f)) = decide (a < d) from decide_eq_decide.2 (by rw [enLt_iff7]; constructor <;> omega))
    clear h1
    go_enter Try.func114, Try.ntmps114
    go_wp2
    go_ret
    exact ⟨by rw [HD.out]; rfl, below_alloc2 _ _ _⟩

theorem implLess7_is (r : Bool) (a b c d e f : Int) (w : World) (h : r = true ↔ enLt (a, b, c) (d, e, f)) :
    Calls Try.prog 114 #[.agg #[.int .i64 a, .int .i64 b, .int .i64 c], .agg #[.int .i64 d, .int .i64 e, .int .i64 f]] w fun x w' => x = .returned (.bool r) ∧ Below w.heap.size w w' := by
  have e1 : decide (enLt (a, b, c) (d, e, f)) = r := by rw [Bool.eq_iff_iff, decide_eq_true_iff]; exact h.symm
  rw [← e1]
  exact implLess7_any a b c d e f w

theorem Try.elP7 : Try.prog.underlying 46 = some (.slice (Try.prog.elem 46)) := by kernel_rfl
theorem Try.elemP7 : Try.prog.elem 46 = 88 := by kernel_rfl
theorem Try.sizeP7 (w : World) : (sizeOf (Try.prog.elem 46)).run Try.prog w = .ok 3 w := by
  obtain ⟨i, hi, hz, hsi, hby⟩ := info_parts Try.infoP7
  rw [Try.elemP7]
  simp [sizeOf, typeInfo, hi, hsi]

/-- A slice of entries from a place on, and up to one. -/
theorem pcs_from (a : Option Addr) (n c i : Nat) (hi : i ≤ n) (hnc : n ≤ c) : ∃ a2 q f, q = n - i ∧ q ≤ f ∧ f ≤ c ∧ (∀ w, (Instr.slice 46 (.slice a n c) (some (.int .i64 i)) none none).run Try.prog w = .ok (.slice a2 q f) w) ∧
    ∀ (w : World) (l : List En), n = l.length → CellsAt w a (entsC l) → CellsAt w a2 (entsC (l.drop i)) := by
  refine ⟨if c = i then a else a.map (·.add (i * 3)), n - i, c - i, rfl, by omega, by omega, fun w => ?_, fun w l hn h => ?_⟩
  · have h := run_slice_l (P := Try.prog) (w := w) 46 a n c Try.elP7 .i64 (i : Int) (by omega) (by omega)
    rw [h, Try.sizeP7]
    simp [Result.andThen, sliced]
  · have h2 := h.from_ n c i 3 (by decide) (by rw [entsC_len, hn]) hnc
    rwa [entsC_drop] at h2
theorem pcs_upto (a : Option Addr) (n c i : Nat) (hi : i ≤ c) : ∃ a2, (∀ w, (Instr.slice 46 (.slice a n c) none (some (.int .i64 i)) none).run Try.prog w = .ok (.slice a2 i c) w) ∧
    ∀ (w : World) (l : List En), CellsAt w a (entsC l) → CellsAt w a2 (entsC (l.take i)) := by
  refine ⟨if c = 0 then a else a.map (·.add (0 * 3)), fun w => ?_, fun w l h => ?_⟩
  · have h := run_slice_h (P := Try.prog) (w := w) 46 a n c Try.elP7 .i64 (i : Int) (by omega) (by omega)
    rw [h, Try.sizeP7]
    simp [Result.andThen, sliced]
  · have e : (if c = 0 then a else a.map (·.add (0 * 3))) = a := by
      split
      · rfl
      · cases a with
        | none => rfl
        | some p =>
          simp only [Option.map_some]
          congr 1
    rw [e, ← entsC_take]
    exact h.upTo (i * 3)

set_option maxRecDepth 4000 in
set_option maxHeartbeats 8000000 in
theorem implJoinP_any (A B : List En) (a b : Option Addr) (n c m d : Nat) (R : List En) (w : World) (hn : n = A.length) (hm : m = B.length) (hn9 : n ≤ 1099511627776) (hm9 : m ≤ 1099511627776) (hnc : n ≤ c) (hmd : m ≤ d)
    (hA : A.Pairwise enLt) (hB : B.Pairwise enLt) (hR : rowE (A ++ B) = R) (hatA : CellsAt w a (entsC A)) (hatB : CellsAt w b (entsC B)) :
    Calls Try.prog 106 #[.slice a n c, .slice b m d] w fun e w' => ∃ a' n' c', e = .returned (.slice a' n' c') ∧ One w w.heap.size w' 88 3 a' n' c' (entsC R) := by
  have HR := Lib.hid hR
  have HN := Lib.hid hn
  have HM := Lib.hid hm
  have HA := Lib.hid hatA
  have HB := Lib.hid hatB
  have HUA := Lib.hid hA
  have HUB := Lib.hid hB
  have hone0 : One w w.heap.size w 88 3 none 0 0 (entsC []) := One.nil w 88 3
  clear hn hm hatA hatB hA hB hR
  go_enter Try.func106, Try.ntmps106
  go_wp2
  go_loopw [5, 6, 7] (fun o_ i_ k_ wr => ∃ (i k : Nat) (S : List En), i ≤ n ∧ k ≤ m ∧ i_ = .int .i64 i ∧ k_ = .int .i64 k ∧ ∃ a' n' c', o_ = .slice a' n' c' ∧ n' ≤ i + k ∧ Hid (GM enLt A B i k S) ∧ One w w.heap.size wr 88 3 a' n' c' (entsC S)) (fun _ i_ k_ _ => n + m - ((intOf i_).toNat + (intOf k_).toNat))
  case atStart => exact ⟨0, 0, [], Nat.zero_le _, Nat.zero_le _, rfl, rfl, _, _, _, rfl, Nat.zero_le _, Lib.hid (gm_start enLt A B), hone0⟩
  case round =>
    clear hone0
    obtain ⟨i, k, S, hi, hk, rfl, rfl, a', n', c', rfl, hn', HS, hone⟩ := hrel
    by_cases hik : i < n ∧ k < m
    · obtain ⟨hin, hkm⟩ := hik
      have hiA : i < A.length := by have := HN.out; omega
      have hkB : k < B.length := by have := HM.out; omega
      obtain ⟨x, hx⟩ : ∃ x, A[i].1 = x := ⟨_, rfl⟩
      obtain ⟨y, hy⟩ : ∃ y, A[i].2.1 = y := ⟨_, rfl⟩
      obtain ⟨z, hz⟩ : ∃ z, A[i].2.2 = z := ⟨_, rfl⟩
      have hma : A[i] = (x, y, z) := by rw [← hx, ← hy, ← hz]
      obtain ⟨ab, ao, rfl, hab, g1, g2, g3⟩ := ent_cells (HA.out.below hone.below) hiA hma
      have HMA := Lib.hid hma
      have z1 : (i : Int) < (n : Int) := by omega
      have z2 : (0 : Int) ≤ (i : Int) := by omega
      clear hx hy hz hma
      obtain ⟨x', hx⟩ : ∃ x, B[k].1 = x := ⟨_, rfl⟩
      obtain ⟨y', hy⟩ : ∃ y, B[k].2.1 = y := ⟨_, rfl⟩
      obtain ⟨z', hz⟩ : ∃ z, B[k].2.2 = z := ⟨_, rfl⟩
      have hmb : B[k] = (x', y', z') := by rw [← hx, ← hy, ← hz]
      obtain ⟨bb, bo, rfl, hbb, g4, g5, g6⟩ := ent_cells (HB.out.below hone.below) hkB hmb
      have HKS := Lib.hid (show ∀ w', Below wr.heap.size wr w' → w'.cell? ⟨ab, ao + i * 3, none⟩ = some (.int .i64 x) ∧ w'.cell? ⟨ab, ao + i * 3 + 1, none⟩ = some (.int .i64 y) ∧ w'.cell? ⟨ab, ao + i * 3 + 2, none⟩ = some (.int .i64 z) ∧ w'.cell? ⟨bb, bo + k * 3, none⟩ = some (.int .i64 x') ∧ w'.cell? ⟨bb, bo + k * 3 + 1, none⟩ = some (.int .i64 y') ∧ w'.cell? ⟨bb, bo + k * 3 + 2, none⟩ = some (.int .i64 z') from fun w' h => ⟨below_ents7 h hab g1, below_ents7 h hab g2, below_ents7 h hab g3, below_ents7 h hbb g4, below_ents7 h hbb g5, below_ents7 h hbb g6⟩)
      have z3 : (k : Int) < (m : Int) := by omega
      have z4 : (0 : Int) ≤ (k : Int) := by omega
      have t5 : decide (i < n) = true := decide_eq_true hin
      have t6 : decide ((i : Int) < (n : Int)) = true := decide_eq_true (by omega)
      have t7 : decide (k < m) = true := decide_eq_true hkm
      have t8 : decide ((k : Int) < (m : Int)) = true := decide_eq_true (by omega)
      have HMB := Lib.hid hmb
      clear hx hy hz hmb
      by_cases hlt : enLt (x', y', z') (x, y, z)
      · have c4 := fun w => implLess7_is true x' y' z' x y z w ⟨fun _ => hlt, fun _ => rfl⟩
        have HS2 := Lib.hid (GM.takeB (r := enLt) (fun _ _ _ => enLt_trans) HS.out HUB.out hkB (fun h => by rw [HMA.out, HMB.out]; exact hlt))
        have HE := Lib.hid (show entsC (S ++ [B[k]]) = entsC S ++ [.int .i64 x', .int .i64 y', .int .i64 z'] by rw [HMB.out, entsC_snoc])
        clear hlt HS
        go_wp2
        go_region_held3 (fun w' => w'.cell? ⟨ab, ao + i * 3, none⟩ = some (.int .i64 x) ∧ w'.cell? ⟨ab, ao + i * 3 + 1, none⟩ = some (.int .i64 y) ∧ w'.cell? ⟨ab, ao + i * 3 + 2, none⟩ = some (.int .i64 z) ∧ w'.cell? ⟨bb, bo + k * 3, none⟩ = some (.int .i64 x') ∧ w'.cell? ⟨bb, bo + k * 3 + 1, none⟩ = some (.int .i64 y') ∧ w'.cell? ⟨bb, bo + k * 3 + 2, none⟩ = some (.int .i64 z')) (first | go_keep | exact HKS.out _ (Below.trans (by repeat (first | exact Below.refl _ _ | refine Below.drew ?_ | refine below_drewN' ?_ _)) (hb6.mono (by simp))))
          ((go_at_call 114; refine (c4 _).mono ?_; rintro e w6 ⟨rfl, hb6⟩))
        go_wp2_with (at_builtin; refine wpList_append_row rfl (.tmp 27) (.tmp 32) 46 rfl Try.ulP7 Try.infoP7 rfl (by decide) (hone.later (Below.trans (by repeat (first | exact Below.refl _ _ | refine Below.drew ?_ | refine below_drewN' ?_ _)) (hb6.mono (by simp)))) rfl #[.int .i64 x', .int .i64 y', .int .i64 z'] rfl rfl (by simp [Value.oneCell']) (by unfold maxLen; omega) (by omega) ?_; intro a7 c7 w7 h7)
        go_roundw
        case rel => exact ⟨i, k + 1, S ++ [B[k]], hi, by omega, rfl, by go_num, a7, n' + 1, c7, rfl, by omega, HS2, by rw [HE.out]; exact h7⟩
        case measure => simp [intOf]; omega
      · have c4 := fun w => implLess7_is false x' y' z' x y z w ⟨(fun h => absurd h (by decide)), (fun h => absurd h hlt)⟩
        have HE := Lib.hid (show entsC (S ++ [A[i]]) = entsC S ++ [.int .i64 x, .int .i64 y, .int .i64 z] by rw [HMA.out, entsC_snoc])
        by_cases he : (x, y, z) = (x', y', z')
        · have HS2 := Lib.hid (GM.both (r := enLt) (fun _ _ _ => enLt_trans) HS.out HUA.out HUB.out hiA hkB (by rw [HMA.out, HMB.out]; exact he))
          simp only [Prod.mk.injEq] at he
          obtain ⟨rfl, rfl, rfl⟩ := he
          have tx : (x == x) = true := beq_self_eq_true _
          have ty : (y == y) = true := beq_self_eq_true _
          have tz : (z == z) = true := beq_self_eq_true _
          clear hlt HS HMA HMB
          go_wp2
          go_region_held3 (fun w' => w'.cell? ⟨ab, ao + i * 3, none⟩ = some (.int .i64 x) ∧ w'.cell? ⟨ab, ao + i * 3 + 1, none⟩ = some (.int .i64 y) ∧ w'.cell? ⟨ab, ao + i * 3 + 2, none⟩ = some (.int .i64 z) ∧ w'.cell? ⟨bb, bo + k * 3, none⟩ = some (.int .i64 x) ∧ w'.cell? ⟨bb, bo + k * 3 + 1, none⟩ = some (.int .i64 y) ∧ w'.cell? ⟨bb, bo + k * 3 + 2, none⟩ = some (.int .i64 z)) (first | go_keep | exact HKS.out _ (Below.trans (by repeat (first | exact Below.refl _ _ | refine Below.drew ?_ | refine below_drewN' ?_ _)) (hb6.mono (by simp))))
            ((go_at_call 114; refine (c4 _).mono ?_; rintro e w6 ⟨rfl, hb6⟩))
          have W6 : Below wr.heap.size wr w6 := Below.trans (by repeat (first | exact Below.refl _ _ | refine Below.drew ?_ | refine below_drewN' ?_ _)) (hb6.mono (by simp))
          obtain ⟨g1, g2, g3, g4, g5, g6⟩ := HKS.out w6 W6
          have hone6 := hone.later W6
          clear hb6 W6 HKS c4 hone
          go_wp2
          go_quiet (fail)
          go_wp2_with (at_builtin; refine wpList_append_row rfl (.tmp 47) (.tmp 52) 46 rfl Try.ulP7 Try.infoP7 rfl (by decide) (hone6.drewN _) rfl #[.int .i64 x, .int .i64 y, .int .i64 z] rfl rfl (by simp [Value.oneCell']) (by unfold maxLen; omega) (by omega) ?_; intro a7 c7 w7 h7)
          go_roundw
          case rel => exact ⟨i + 1, k + 1, S ++ [A[i]], by omega, by omega, by go_num, by go_num, a7, n' + 1, c7, rfl, by omega, HS2, by rw [HE.out]; exact h7⟩
          case measure => simp [intOf]; omega
        · have HS2 := Lib.hid (GM.takeA (r := enLt) (fun _ _ _ => enLt_trans) HS.out HUA.out hiA (fun h => by
            rw [HMA.out, HMB.out]
            rcases enLt_three (x, y, z) (x', y', z') with h | h | h
            · exact h
            · exact absurd h he
            · exact absurd h hlt))
          have hcase : (x == x') = false ∨ (x == x') = true ∧ ((y == y') = false ∨ (y == y') = true ∧ (z == z') = false) := by
            by_cases h1 : x = x'
            · by_cases h2 : y = y'
              · by_cases h3 : z = z'
                · exact absurd (by rw [h1, h2, h3]) he
                · exact .inr ⟨by simpa using h1, .inr ⟨by simpa using h2, by simpa using h3⟩⟩
              · exact .inr ⟨by simpa using h1, .inl (by simpa using h2)⟩
            · exact .inl (by simpa using h1)
          clear hlt HS he
          go_wp2
          go_region_held3 (fun w' => w'.cell? ⟨ab, ao + i * 3, none⟩ = some (.int .i64 x) ∧ w'.cell? ⟨ab, ao + i * 3 + 1, none⟩ = some (.int .i64 y) ∧ w'.cell? ⟨ab, ao + i * 3 + 2, none⟩ = some (.int .i64 z) ∧ w'.cell? ⟨bb, bo + k * 3, none⟩ = some (.int .i64 x') ∧ w'.cell? ⟨bb, bo + k * 3 + 1, none⟩ = some (.int .i64 y') ∧ w'.cell? ⟨bb, bo + k * 3 + 2, none⟩ = some (.int .i64 z')) (first | go_keep | exact HKS.out _ (Below.trans (by repeat (first | exact Below.refl _ _ | refine Below.drew ?_ | refine below_drewN' ?_ _)) (hb6.mono (by simp))))
            ((go_at_call 114; refine (c4 _).mono ?_; rintro e w6 ⟨rfl, hb6⟩))
          have W6 : Below wr.heap.size wr w6 := Below.trans (by repeat (first | exact Below.refl _ _ | refine Below.drew ?_ | refine below_drewN' ?_ _)) (hb6.mono (by simp))
          obtain ⟨g1, g2, g3, g4, g5, g6⟩ := HKS.out w6 W6
          have hone6 := hone.later W6
          clear hb6 W6 HKS c4 hone
          rcases hcase with t1 | ⟨t1, t2 | ⟨t2, t3⟩⟩
          all_goals (
            go_wp2
            go_quiet (fail)
            go_wp2_with (at_builtin; refine wpList_append_row rfl (.tmp 47) (.tmp 52) 46 rfl Try.ulP7 Try.infoP7 rfl (by decide) (hone6.drewN _) rfl #[.int .i64 x, .int .i64 y, .int .i64 z] rfl rfl (by simp [Value.oneCell']) (by unfold maxLen; omega) (by omega) ?_; intro a7 c7 w7 h7)
            go_roundw
            case rel => exact ⟨i + 1, k, S ++ [A[i]], by omega, hk, by go_num, rfl, a7, n' + 1, c7, rfl, by omega, HS2, by rw [HE.out]; exact h7⟩
            case measure => simp [intOf]; omega)
    · have HD := Lib.hid (HR.out.symm.trans (gmE_done HS.out HUA.out HUB.out (by have := HN.out; have := HM.out; omega)))
      obtain ⟨a2, q, f, hq, hqf, hfc, sl1, hc2⟩ := pcs_from a n c i hi hnc
      obtain ⟨b2, q', f', hq', hqf', hfc', sl2, hd2⟩ := pcs_from b m d k hk hmd
      have HC2 := Lib.hid (hc2 wr A HN.out (HA.out.below hone.below))
      have HD2 := Lib.hid (fun w' (h : Below w.heap.size w w') => hd2 w' B HM.out (HB.out.below h))
      have HL1 := Lib.hid (show (entsC (A.drop i)).length = q * 3 by rw [entsC_len, List.length_drop, hq, HN.out])
      have HL2 := Lib.hid (show (entsC (B.drop k)).length = q' * 3 by rw [entsC_len, List.length_drop, hq', HM.out])
      have q9 : q ≤ 1099511627776 := by omega
      have q9' : q' ≤ 1099511627776 := by omega
      have n9 : n' ≤ 2199023255552 := by omega
      have hcond : (decide (i < n) = true ∧ decide ((i : Int) < (n : Int)) = true ∧ decide (k < m) = false ∧ decide ((k : Int) < (m : Int)) = false) ∨ (decide (i < n) = false ∧ decide ((i : Int) < (n : Int)) = false) := by
        by_cases h : i < n
        · exact .inl ⟨decide_eq_true h, decide_eq_true (by omega), decide_eq_false (fun h2 => hik ⟨h, h2⟩), decide_eq_false (fun h2 => hik ⟨h, by omega⟩)⟩
        · exact .inr ⟨decide_eq_false h, decide_eq_false (by omega)⟩
      clear hik hc2 hd2 hq hq' hfc hfc' HS hn'
      rcases hcond with ⟨t1, t2, t3, t4⟩ | ⟨t1, t2⟩
      all_goals (
        go_wp2_with (at_builtin; first
          | (refine wpList_append_src rfl (.tmp 56) (.tmp 59) 46 rfl Try.ulP7 Try.infoP7 rfl (by decide) hone rfl a2 q f rfl (entsC (A.drop i)) HL1.out HC2.out (entsC_one _) (by unfold maxLen; omega) (by omega) ?_; intro a5 c5 w5 h5)
          | (refine wpList_append_src rfl (.tmp 61) (.tmp 64) 46 rfl Try.ulP7 Try.infoP7 rfl (by decide) h5 rfl b2 q' f' rfl (entsC (B.drop k)) HL2.out (HD2.out _ h5.below) (entsC_one _) (by unfold maxLen; omega) (by omega) ?_; intro a6 c6 w6 h6))
        go_ret
        exact ⟨_, _, _, rfl, by rw [HD.out, entsC_append, entsC_append]; exact h6⟩)

theorem implSorted7_short (l : List En) (a : Option Addr) (n c : Nat) (w : World) (h2 : n < 2) (hn : n = l.length) (hat : CellsAt w a (entsC l)) :
    Calls Try.prog 93 #[.slice a n c] w fun e w' => ∃ a' n' c', e = .returned (.slice a' n' c') ∧ One w w.heap.size w' 88 3 a' n' c' (entsC (rowE l)) := by
  have HR := Lib.hid (rowE_short (l := l) (by omega))
  have HL := Lib.hid (show (entsC l).length = n * 3 by rw [entsC_len, hn])
  have HAT := Lib.hid hat
  have z1 : (n : Int) < 2 := by omega
  clear hn hat
  go_enter Try.func93, Try.ntmps93
  go_wp2_with (at_builtin; refine wpList_append_src rfl (.tmp 9) (.tmp 10) 46 rfl Try.ulP7 Try.infoP7 rfl (by decide) (One.empty w 88 3) rfl a n c rfl (entsC l) HL.out (HAT.out.allocW _) (entsC_one _) (by unfold maxLen; omega) (by omega) ?_; intro a5 c5 w5 h5)
  go_ret
  exact ⟨_, _, _, rfl, by rw [HR.out]; simpa using h5⟩

theorem implSorted7_any (N : Nat) : ∀ (l : List En) (a : Option Addr) (n c : Nat) (w : World), n ≤ N → n = l.length → n ≤ 1099511627776 → n ≤ c → CellsAt w a (entsC l) →
    Calls Try.prog 93 #[.slice a n c] w fun e w' => ∃ a' n' c', e = .returned (.slice a' n' c') ∧ One w w.heap.size w' 88 3 a' n' c' (entsC (rowE l)) := by
  induction N with
  | zero => exact fun l a n c w hN hn _ _ hat => implSorted7_short l a n c w (by omega) hn hat
  | succ N ih =>
    intro l a n c w hN hn hn9 hnc hat
    by_cases h2 : n < 2
    · exact implSorted7_short l a n c w h2 hn hat
    obtain ⟨h, hh⟩ : ∃ h, n / 2 = h := ⟨_, rfl⟩
    have em : ((n : Nat) : Int).tdiv 2 = (h : Int) := by
      have e := Int.ofNat_tdiv n 2
      rw [hh] at e
      rw [e]; simp
    have b1 : 1 ≤ h := by omega
    have b2 : h < n := by omega
    obtain ⟨a1, sl1, hc1⟩ := pcs_upto a n c h (by omega)
    obtain ⟨a2, q, f, hq, hqf, hfc, sl2, hc2⟩ := pcs_from a n c h (by omega) hnc
    have c1 := ih (l.take h) a1 h c w (by omega) (by rw [List.length_take]; omega) (by omega) (by omega) (hc1 w l hat)
    have c2 := fun w' (hb : Below w.heap.size w w') => ih (l.drop h) a2 q f w' (by omega) (by rw [List.length_drop, hq, hn]) (by omega) hqf (hc2 w' l hn (hat.below hb))
    have HR := Lib.hid (rowE_halves l h)
    have HU1 := Lib.hid (rowE_is (l.take h)).up
    have HU2 := Lib.hid (rowE_is (l.drop h)).up
    have HL1 := Lib.hid (show (rowE (l.take h)).length ≤ 1099511627776 by have e := rowE_len (l.take h); rw [List.length_take] at e; omega)
    have HL2 := Lib.hid (show (rowE (l.drop h)).length ≤ 1099511627776 by have e := rowE_len (l.drop h); rw [List.length_drop] at e; omega)
    have z1 : ¬ (n : Int) < 2 := by omega
    have z2 : (2 : Int) ≤ (n : Int) := by omega
    clear ih hat hn hh hc1 hc2 hq hN hfc
    obtain ⟨L1, hL1⟩ : ∃ L, rowE (l.take h) = L := ⟨_, rfl⟩
    obtain ⟨L2, hL2⟩ : ∃ L, rowE (l.drop h) = L := ⟨_, rfl⟩
    rw [hL1] at c1 HU1 HL1
    rw [hL2] at c2 HU2 HL2
    rw [hL1, hL2] at HR
    clear hL1 hL2
    go_enter Try.func93, Try.ntmps93
    go_wp2_with fail
    refine c1.mono ?_
    rintro e w2 ⟨ga, na, ca, rfl, o1⟩
    have d2 := c2 w2 o1.below
    clear c1 c2
    go_wp2_with fail
    refine d2.mono ?_
    rintro e w3 ⟨gb, nb, cb, rfl, o2⟩
    have e1 := ents_len o1.own
    have e2 := ents_len o2.own
    have k1 := o1.cap.1
    have k2 := o2.cap.1
    have c3 := implJoinP_any L1 L2 ga gb na ca nb cb (rowE l) w3 e1 e2 (by have := HL1.out; omega) (by have := HL2.out; omega) k1 k2 HU1.out HU2.out HR.out (o1.later o2.below).at_ o2.at_
    have HB := Lib.hid (show Below w.heap.size w w3 from o1.below.trans (o2.below.mono o1.below.size))
    clear d2 e1 e2 k1 k2 o1 o2
    go_wp2_with fail
    refine c3.mono ?_
    rintro e w4 ⟨gc, nc, cc, rfl, o3⟩
    go_wp2
    go_ret
    exact ⟨_, _, _, rfl, o3.under HB.out HB.out.size⟩


end Go.Proofs.Ytbnagmjhdnnheaa

namespace Go.Proofs.Ytbnagmjhdnnheaa

/-- How many places of a row are left when those with numbers not below x are taken from its end. -/
def cutN (L : List Int) (x : Int) (P : List Nat) : Nat → Nat
  | 0 => 0
  | m + 1 => if x ≤ L.getD (P.getD m 0) 0 then cutN L x P m else m + 1

theorem cutN_le (L : List Int) (x : Int) (P : List Nat) (m : Nat) : cutN L x P m ≤ m := by
  induction m with
  | zero => exact Nat.le_refl _
  | succ m ih =>
    unfold cutN
    split
    · omega
    · omega
theorem cutN_behind (L : List Int) (x : Int) (P : List Nat) (m i : Nat) (h1 : cutN L x P m ≤ i) (h2 : i < m) : x ≤ L.getD (P.getD i 0) 0 := by
  induction m with
  | zero => omega
  | succ m ih =>
    unfold cutN at h1
    split at h1
    · rename_i h
      by_cases e : i = m
      · subst e; exact h
      · exact ih h1 (by omega)
    · omega
theorem cutN_ahead (L : List Int) (x : Int) (P : List Nat) (m p : Nat) (h : cutN L x P m = p + 1) : L.getD (P.getD p 0) 0 < x := by
  induction m with
  | zero => simp [cutN] at h
  | succ m ih =>
    unfold cutN at h
    split at h
    · exact ih h
    · rename_i h2
      obtain rfl : m = p := by omega
      omega
theorem cutN_step {L : List Int} {x : Int} {P : List Nat} {m : Nat} (h : x ≤ L.getD (P.getD m 0) 0) : cutN L x P (m + 1) = cutN L x P m := by rw [cutN, if_pos h]
theorem cutN_stop {L : List Int} {x : Int} {P : List Nat} {m : Nat} (h : ¬ x ≤ L.getD (P.getD m 0) 0) : cutN L x P (m + 1) = m + 1 := by rw [cutN, if_neg h]

/-- The places, among the last w of the first k, behind which all numbers are greater. -/
structure IsQ (L : List Int) (w k : Nat) (P : List Nat) : Prop where
  up : P.Pairwise (· < ·)
  mem : ∀ p, p ∈ P ↔ p < k ∧ k ≤ p + w ∧ ∀ q, p < q → q < k → L.getD p 0 < L.getD q 0

theorem IsQ.nil (L : List Int) (w : Nat) : IsQ L w 0 [] := ⟨.nil, by intro p; simp⟩

theorem up_get {P : List Nat} (h : P.Pairwise (· < ·)) {i j : Nat} (hij : i < j) (hj : j < P.length) : P.getD i 0 < P.getD j 0 := by
  have hi : i < P.length := by omega
  have := List.pairwise_iff_getElem.1 h i j hi hj hij
  simpa [List.getD_eq_getElem?_getD, List.getElem?_eq_getElem hi, List.getElem?_eq_getElem hj] using this

theorem getD_mem {P : List Nat} {i : Nat} (h : i < P.length) : P.getD i 0 ∈ P := by
  rw [List.getD_eq_getElem?_getD, List.getElem?_eq_getElem h]
  simp

theorem IsQ.len {L : List Int} {w k : Nat} {P : List Nat} (h : IsQ L w k P) : P.length ≤ k := by
  have hi : ∀ i, i < P.length → i ≤ P.getD i 0 := by
    intro i
    induction i with
    | zero => intro _; omega
    | succ i ih =>
      intro hl
      have h1 := ih (by omega)
      have h2 := up_get h.up (show i < i + 1 by omega) hl
      omega
  by_cases h0 : P.length = 0
  · omega
  · have h1 := hi (P.length - 1) (by omega)
    have h2 := ((h.mem _).1 (getD_mem (i := P.length - 1) (by omega))).1
    omega

/-- Numbers rise along the row. -/
theorem IsQ.rise {L : List Int} {w k : Nat} {P : List Nat} (h : IsQ L w k P) {i j : Nat} (hij : i < j) (hj : j < P.length) : L.getD (P.getD i 0) 0 < L.getD (P.getD j 0) 0 :=
  ((h.mem _).1 (getD_mem (i := i) (by omega))).2.2 _ (up_get h.up hij hj) ((h.mem _).1 (getD_mem hj)).1

/-- The row with the next place, the first place not yet left out. -/
def pushQ (L : List Int) (k : Nat) (P : List Nat) : List Nat := P.take (cutN L (L.getD k 0) P P.length) ++ [k]

theorem pushQ_mem {L : List Int} {w k : Nat} {P : List Nat} (h : IsQ L w k P) (p : Nat) : p ∈ pushQ L k P ↔ p = k ∨ (p < k ∧ k ≤ p + w ∧ ∀ q, p < q → q < k + 1 → L.getD p 0 < L.getD q 0) := by
  have hP : p ∈ P.take (cutN L (L.getD k 0) P P.length) ↔ p ∈ P ∧ L.getD p 0 < L.getD k 0 := by
    constructor
    · intro hp
      refine ⟨List.mem_of_mem_take hp, ?_⟩
      obtain ⟨i, hi, rfl⟩ := List.getElem_of_mem hp
      simp only [List.length_take] at hi
      have hil : i < P.length := by omega
      rw [List.getElem_take]
      have hg : P[i] = P.getD i 0 := by simp [List.getD_eq_getElem?_getD, hil]
      rw [hg]
      obtain ⟨m, hm⟩ : ∃ m, cutN L (L.getD k 0) P P.length = m + 1 := ⟨cutN L (L.getD k 0) P P.length - 1, by omega⟩
      have h1 := cutN_ahead L _ P _ m hm
      have h2 := cutN_le L (L.getD k 0) P P.length
      by_cases e : i = m
      · subst e; exact h1
      · have h3 := h.rise (show i < m by omega) (by omega)
        omega
    · rintro ⟨hp, hlt⟩
      obtain ⟨i, hi, rfl⟩ := List.getElem_of_mem hp
      have hg : P[i] = P.getD i 0 := by simp [List.getD_eq_getElem?_getD, hi]
      by_cases e : cutN L (L.getD k 0) P P.length ≤ i
      · have h1 := cutN_behind L _ P P.length i e hi
        rw [hg] at hlt
        omega
      · rw [List.mem_iff_getElem]
        exact ⟨i, by rw [List.length_take]; omega, by rw [List.getElem_take]⟩
  unfold pushQ
  rw [List.mem_append, hP, h.mem, List.mem_singleton]
  constructor
  · rintro (⟨⟨h1, h2, h3⟩, h4⟩ | rfl)
    · refine .inr ⟨h1, h2, fun q hq hk => ?_⟩
      by_cases e : q = k
      · subst e; exact h4
      · exact h3 q hq (by omega)
    · exact .inl rfl
  · rintro (rfl | ⟨h1, h2, h3⟩)
    · exact .inr rfl
    · exact .inl ⟨⟨h1, h2, fun q hq hk => h3 q hq (by omega)⟩, h3 k h1 (by omega)⟩

theorem pushQ_up {L : List Int} {w k : Nat} {P : List Nat} (h : IsQ L w k P) : (pushQ L k P).Pairwise (· < ·) := by
  unfold pushQ
  rw [List.pairwise_append]
  refine ⟨h.up.take, List.pairwise_singleton _ _, fun a ha b hb => ?_⟩
  obtain rfl := List.mem_singleton.1 hb
  exact ((h.mem a).1 (List.mem_of_mem_take ha)).1

theorem pushQ_len {L : List Int} {k : Nat} {P : List Nat} : (pushQ L k P).length = cutN L (L.getD k 0) P P.length + 1 := by
  have h2 := cutN_le L (L.getD k 0) P P.length
  simp only [pushQ, List.length_append, List.length_take, List.length_singleton]
  omega
theorem pushQ_ne {L : List Int} {k : Nat} {P : List Nat} : pushQ L k P ≠ [] := by simp [pushQ]

/-- The first place is not too far back: all stay. -/
theorem IsQ.stay {L : List Int} {w k : Nat} {P : List Nat} (hw : 0 < w) (h : IsQ L w k P) (hd : k < (pushQ L k P).getD 0 0 + w) : IsQ L w (k + 1) (pushQ L k P) := by
  refine ⟨pushQ_up h, fun p => ?_⟩
  rw [pushQ_mem h]
  constructor
  · rintro (rfl | ⟨h1, h2, h3⟩)
    · exact ⟨by omega, by omega, fun q h4 h5 => by omega⟩
    · have hm : p ∈ pushQ L k P := (pushQ_mem h p).2 (.inr ⟨h1, h2, h3⟩)
      obtain ⟨i, hi, hpi⟩ := List.getElem_of_mem hm
      have hg : (pushQ L k P).getD i 0 = p := by simp [List.getD_eq_getElem?_getD, hi, hpi]
      refine ⟨by omega, ?_, h3⟩
      by_cases e : i = 0
      · subst e; omega
      · have := up_get (pushQ_up h) (show 0 < i by omega) hi
        omega
  · rintro ⟨h1, h2, h3⟩
    by_cases e : p = k
    · exact .inl e
    · exact .inr ⟨by omega, by omega, h3⟩

/-- The first place is too far back: it alone goes. -/
theorem IsQ.leave {L : List Int} {w k : Nat} {P : List Nat} (hw : 0 < w) (h : IsQ L w k P) (hd : (pushQ L k P).getD 0 0 + w ≤ k) : IsQ L w (k + 1) ((pushQ L k P).drop 1) ∧ 2 ≤ (pushQ L k P).length := by
  have hup := pushQ_up h
  have hm := pushQ_mem h
  revert hd hup hm
  generalize pushQ L k P = R
  intro hd hup hm
  cases R with
  | nil => exact absurd ((hm k).2 (.inl rfl)) (by simp)
  | cons a R =>
    simp only [List.getD_cons_zero] at hd
    rw [List.pairwise_cons] at hup
    have hk : k ∈ a :: R := (hm k).2 (.inl rfl)
    have ha := (hm a).1 (List.mem_cons_self ..)
    have hkR : k ∈ R := by
      rcases List.mem_cons.1 hk with e | e
      · subst e; omega
      · exact e
    refine ⟨⟨by simpa using hup.2, fun p => ?_⟩, by have := List.length_pos_of_mem hkR; simp only [List.length_cons]; omega⟩
    simp only [List.drop_succ_cons, List.drop_zero]
    constructor
    · intro hp
      have hap := hup.1 p hp
      rcases (hm p).1 (List.mem_cons_of_mem _ hp) with rfl | ⟨h1, h2, h3⟩
      · exact ⟨by omega, by omega, fun q h4 h5 => by omega⟩
      · refine ⟨by omega, ?_, h3⟩
        rcases ha with rfl | ⟨h4, h5, _⟩ <;> omega
    · rintro ⟨h1, h2, h3⟩
      have hp : p ∈ a :: R := (hm p).2 (by
        by_cases e : p = k
        · exact .inl e
        · exact .inr ⟨by omega, by omega, h3⟩)
      rcases List.mem_cons.1 hp with e | e
      · subst e; omega
      · exact e

/-- The first place is that of the least number of the window. -/
theorem IsQ.first {L : List Int} {w k : Nat} {P : List Nat} (hw : 0 < w) (hk : w ≤ k) (h : IsQ L w k P) : 0 < P.length ∧ P.getD 0 0 = leastTo L (k - w) w := by
  have hl := leastTo_is L (k - w) w hw
  have hx : leastTo L (k - w) w ∈ P := (h.mem _).2 ⟨by have := hl.hi; omega, by have := hl.lo; omega, fun q h1 h2 => hl.last q h1 (by omega)⟩
  have h0 := List.length_pos_of_mem hx
  refine ⟨h0, ?_⟩
  have hh := (h.mem _).1 (getD_mem (i := 0) h0)
  obtain ⟨i, hi, hpi⟩ := List.getElem_of_mem hx
  have hg : P.getD i 0 = leastTo L (k - w) w := by simp [List.getD_eq_getElem?_getD, hi, hpi]
  by_cases e : i = 0
  · subst e; exact hg
  · have h1 := h.rise (show 0 < i by omega) hi
    have h2 := hl.least (P.getD 0 0) (by omega) (by omega)
    rw [hg] at h1
    omega

end Go.Proofs.Ytbnagmjhdnnheaa

namespace Go.Proofs.Ytbnagmjhdnnheaa
open Go.RowKit

/-- A slice of the call's own, from wherever in its block on. -/
structure Seg (w : World) (B : Nat) (e : TypeId) (a : Option Addr) (n c : Nat) (xs : List Value) : Prop where
  len : xs.length = n
  room : n ≤ c
  most : c ≤ maxLen
  spot : (a = none ∧ c = 0) ∨ ∃ g o cur, a = some ⟨g, o, none⟩ ∧ B ≤ g ∧ w.heap[g]? = some (.cells cur e (0, 0)) ∧ o + c ≤ cur.size ∧ ∀ j u, xs[j]? = some u → cur[o + j]? = some u

theorem Seg.nil (w : World) (B : Nat) (e : TypeId) : Seg w B e none 0 0 [] := ⟨rfl, Nat.le_refl _, Nat.zero_le _, .inl ⟨rfl, rfl⟩⟩

theorem Seg.lt {w : World} {B : Nat} {e : TypeId} {a : Option Addr} {n c : Nat} {xs : List Value} (h : Seg w B e a n c xs) : ∀ k, Value.ownBlock (.slice a n c) = some k → B ≤ k ∧ k < w.heap.size := by
  intro k hk
  rcases h.spot with ⟨rfl, _⟩ | ⟨g, o, cur, rfl, hb, hg, _⟩
  · simp [Value.ownBlock] at hk
  · simp [Value.ownBlock] at hk
    subst hk
    exact ⟨hb, (Array.getElem?_eq_some_iff.1 hg).1⟩

theorem Seg.kept {w w' : World} {B : Nat} {e : TypeId} {a : Option Addr} {n c : Nat} {xs : List Value} {row : Option Nat} (h : Seg w B e a n c xs) (hg : w.grownBy w' row) (hne : ∀ k, Value.ownBlock (.slice a n c) = some k → row ≠ some k) : Seg w' B e a n c xs := by
  refine ⟨h.len, h.room, h.most, ?_⟩
  rcases h.spot with hn | ⟨g, o, cur, rfl, hb, hgg, rest⟩
  · exact .inl hn
  · refine .inr ⟨g, o, cur, rfl, hb, ?_, rest⟩
    rw [hg.block g (Array.getElem?_eq_some_iff.1 hgg).1 (fun e => hne g rfl e.symm)]
    exact hgg

theorem Seg.at_ {w : World} {B : Nat} {e : TypeId} {a : Option Addr} {n c : Nat} {xs : List Value} (h : Seg w B e a n c xs) : CellsAt w a xs := by
  refine ⟨fun hne => ?_⟩
  rcases h.spot with ⟨rfl, h0⟩ | ⟨g, o, cur, rfl, hb, hg, hs, hc⟩
  · exfalso
    apply hne
    apply List.length_eq_zero_iff.1
    have := h.len
    have := h.room
    omega
  · exact ⟨g, o, rfl, (Array.getElem?_eq_some_iff.1 hg).1, fun j v hj => by rw [cell_of_row w g (o + j) cur e (0, 0) hg]; exact hc j v hj⟩

theorem Seg.take {w : World} {B : Nat} {e : TypeId} {a : Option Addr} {n c : Nat} {xs : List Value} (h : Seg w B e a n c xs) (m : Nat) (hm : m ≤ n) : Seg w B e a m c (xs.take m) := by
  refine ⟨by rw [List.length_take, h.len]; omega, Nat.le_trans hm h.room, h.most, ?_⟩
  rcases h.spot with hn | ⟨g, o, cur, rfl, hb, hg, hs, hc⟩
  · exact .inl hn
  · refine .inr ⟨g, o, cur, rfl, hb, hg, hs, fun j u hj => hc j u ?_⟩
    rw [List.getElem?_take] at hj
    split at hj
    · exact hj
    · cases hj

theorem Seg.next {w : World} {B g o n c : Nat} {e : TypeId} {xs : List Value} (h : Seg w B e (some ⟨g, o, none⟩) n c xs) (hn : 1 ≤ n) : Seg w B e (some ⟨g, o + 1, none⟩) (n - 1) (c - 1) (xs.drop 1) := by
  have h1 := h.room
  have h2 := h.most
  refine ⟨by rw [List.length_drop, h.len], by omega, by omega, ?_⟩
  rcases h.spot with ⟨hn, _⟩ | ⟨g', o', cur, ha, hb, hg, hs, hc⟩
  · cases hn
  · obtain ⟨rfl, rfl⟩ := (by simpa using ha : g = g' ∧ o = o')
    refine .inr ⟨g, o + 1, cur, rfl, hb, hg, by omega, fun j u hj => ?_⟩
    rw [List.getElem?_drop] at hj
    have := hc (1 + j) u hj
    rw [← this]
    congr 1
    omega

/-- Where a slice lies after an append: in its old block, or in one that was not there. -/
def Stayed (w : World) (v v' : Value) : Prop := v'.ownBlock = v.ownBlock ∨ ∃ k, v'.ownBlock = some k ∧ w.heap.size ≤ k

/-- One cell more in such a slice. -/
theorem run_append_seg {P : Program} (w : World) (B : Nat) (t ty e : TypeId) (i : TypeInfo) (z : Value) (bytes : Nat) (ht : P.underlying t = some (.slice e)) (hi : P.info? e = some i) (hz : i.zero = some z)
    (hsize : i.size = 1) (hby : i.bytes = bytes) (hzs : z.cells.size = 1)
    (a : Option Addr) (n c : Nat) (xs : List Value) (h : Seg w B e a n c xs)
    (A : Addr) (cA : Nat) (u : Value) (hu : w.cell? A = some u) (h1 : u.oneCell' = true)
    (h63 : n + 1 ≤ maxLen) (hbytes : (n + 1) * bytes ≤ 140737488355328) (hB : B ≤ w.heap.size) :
    ∃ a' c' w', (Builtin.append_ #[t, t] ty #[.slice a n c, .slice (some A) 1 cA]).run P w = .ok (.slice a' (n + 1) c') w' ∧ Seg w' B e a' (n + 1) c' (xs ++ [u]) ∧ w.grownBy w' (Value.ownBlock (.slice a n c)) ∧
      Stayed w (.slice a n c) (.slice a' (n + 1) c') := by
  subst hby
  have hcell : ∀ j v, [u][j]? = some v → w.cell? (A.add j) = some v := by
    intro j v hj
    cases j with
    | zero =>
      have e0 : A.add 0 = A := by cases A; unfold Addr.add; split <;> simp_all
      rw [e0, hu]
      simpa using hj
    | succ j => simp at hj
  have hlen : (xs ++ [u]).length = n + 1 := by rw [List.length_append, h.len]; rfl
  have hone : ∀ x ∈ [u], x.oneCell' = true := by intro x hx; obtain rfl := List.mem_singleton.1 hx; exact h1
  have hsmall : n + 1 ≤ 9223372036854775807 := by simp only [maxLen] at h63; omega
  have grown : ∀ (old : Nat) (row : Option Nat),
      Seg (w.drew.alloc (.cells (xs.toArray ++ [u].toArray ++ Builtin.zeroCells z.cells (grownCap w (n + 1) old e - (n + 1))) e)) B e (some ⟨w.heap.size, 0, none⟩) (n + 1) (grownCap w (n + 1) old e) (xs ++ [u]) ∧
      w.grownBy (w.drew.alloc (.cells (xs.toArray ++ [u].toArray ++ Builtin.zeroCells z.cells (grownCap w (n + 1) old e - (n + 1))) e)) row := by
    intro old row
    have hge := grownCap_ge w (n + 1) old e
    refine ⟨⟨hlen, hge, grownCap_le_maxLen w (n + 1) old e h63, .inr ⟨w.heap.size, 0, _, rfl, hB, heap_alloc_new w.drew _, ?_, fun j v hj => ?_⟩⟩, ⟨rfl, rfl, rfl, by simp, fun k hk _ => heap_alloc_old w.drew _ hk⟩⟩
    · simp only [Array.size_append, List.size_toArray, size_zeroCells, hzs, h.len, List.length_singleton]
      omega
    · have hj2 : j < (xs ++ [u]).length := (List.getElem?_eq_some_iff.1 hj).1
      rw [Nat.zero_add, ← Array.getElem?_toList]
      simp only [Array.toList_append]
      rw [List.getElem?_append_left hj2]
      exact hj
  rcases h.spot with ⟨rfl, rfl⟩ | ⟨g, o, cur, rfl, hb, hg, hs, hc⟩
  · have hn0 : n = 0 := by have := h.room; omega
    subst hn0
    have hx : xs = [] := List.length_eq_zero_iff.1 h.len
    subst hx
    have hr := run_append_nil (P := P) w t ty e i z ht hi hz A 1 cA [u] (by simp [hsize]) hcell (by omega) (by omega) (by omega)
    have hgr := grown 0 (Value.ownBlock (.slice none 0 0))
    simp only [Nat.zero_add, List.nil_append, Array.empty_append] at hgr ⊢
    exact ⟨_, _, _, hr, hgr.1, hgr.2, .inr ⟨w.heap.size, rfl, Nat.le_refl _⟩⟩
  · by_cases hroom : n + 1 ≤ c
    · have hfit : o + n + 0 + [u].length ≤ cur.size := by simp; omega
      have hf := run_firstCells_some (P := P) w i.size 1 A 1 cA [u] (by simp [hsize]) hcell
      have hst := run_storeCells_at P g (o + n) e [u] 0 cur w hg hfit hone
      simp only [Nat.add_zero] at hst
      have hr : (Builtin.append_ #[t, t] ty #[.slice (some ⟨g, o, none⟩) n c, .slice (some A) 1 cA]).run P w = .ok (.slice (some ⟨g, o, none⟩) (n + 1) c) (w.setRow g (cur.toList.take (o + n) ++ [u] ++ cur.toList.drop (o + n + [u].length)).toArray) := by
        rw [hsize] at hf
        simp [Builtin.append_, run_underlying ht, sizeOf, typeInfo, hi, Builtin.lenOf, hroom, hf, Addr.add_lit, hsize, hst]
      refine ⟨_, _, _, hr, ?_, ⟨rfl, rfl, rfl, by simp, fun k _ hk => setRow_other w g k _ (fun e => hk (by simp [Value.ownBlock, e]))⟩, .inl rfl⟩
      refine ⟨hlen, hroom, h.most, .inr ⟨g, o, _, rfl, hb, setRow_heap w g cur _ e _ hg, ?_, fun j v hj => ?_⟩⟩
      · simp only [List.size_toArray, List.length_append, List.length_take, List.length_drop, Array.length_toList, List.length_singleton]
        simp at hfit
        omega
      · have hj2 : j < (xs ++ [u]).length := (List.getElem?_eq_some_iff.1 hj).1
        rw [hlen] at hj2
        simp at hfit
        simp only [List.getElem?_toArray]
        by_cases e : j = n
        · subst e
          rw [List.append_assoc, List.getElem?_append_right (by simp; omega)]
          rw [List.getElem?_append_right (by rw [h.len]; exact Nat.le_refl _), h.len] at hj
          have e2 : o + j - (cur.toList.take (o + j)).length = 0 := by simp; omega
          rw [e2]
          simpa using hj
        · rw [List.getElem?_append_left (by rw [h.len]; omega)] at hj
          rw [List.append_assoc, List.getElem?_append_left (by simp; omega), List.getElem?_take_of_lt (by omega), Array.getElem?_toList]
          exact hc j v hj
    · have holds : ∀ j v, xs[j]? = some v → w.cell? ((⟨g, o, none⟩ : Addr).add j) = some v := by
        intro j v hj
        rw [Addr.add_lit, cell_of_row w g (o + j) cur e (0, 0) hg]
        exact hc j v hj
      have hr := run_append_grow (P := P) w t ty e i z ht hi hz ⟨g, o, none⟩ n c xs (by rw [h.len, hsize]; omega) holds A 1 cA [u] (by simp [hsize]) hcell (by omega) (by omega) (growslice_fits (by omega) hbytes)
      have hgr := grown c (Value.ownBlock (.slice (some ⟨g, o, none⟩) n c))
      exact ⟨_, _, _, hr, hgr.1, hgr.2, .inr ⟨w.heap.size, rfl, Nat.le_refl _⟩⟩

theorem wpList_append_seg {P : Program} {w0 : World} {ops : Array Oper} {rest : List Oper} {o : Oper} {act : Act} {Q : Exit → Act → World → Prop} (B : Nat) {e1 : TypeId} {a1 : Option Addr} {n1 c1 : Nat} {xs1 : List Value}
    (hgd : o.guard = none) (s x : Operand) (t : TypeId)
    (ho : o.op = .call { callee := .builtin .append, args := #[s, x], argTypes := #[t, t] })
    {z : Value} {bytes : Nat} (ht : P.underlying t = some (.slice e1)) (hinfo : (P.info? e1).map (fun i => (i.zero, i.size, i.bytes)) = some (some z, 1, bytes)) (hzs : z.cells.size = 1)
    (h2 : Seg w0 B e1 a1 n1 c1 xs1) (hB : B ≤ w0.heap.size) (hs : act.eval s = .slice a1 n1 c1)
    (u : Value) (hx : act.eval x = .slice (some ⟨w0.heap.size, 0, none⟩) 1 1) (h1 : u.oneCell' = true)
    (h63 : n1 + 1 ≤ maxLen) (hbytes : (n1 + 1) * bytes ≤ 140737488355328)
    (h : ∀ ad' cap' w', Seg w' B e1 ad' (n1 + 1) cap' (xs1 ++ [u]) → w0.grownBy w' (Value.ownBlock (.slice a1 n1 c1)) → Stayed w0 (.slice a1 n1 c1) (.slice ad' (n1 + 1) cap') → wpList P ops Q rest (act.put o.dst (.slice ad' (n1 + 1) cap')) w') :
    wpList P ops Q (o :: rest) act (w0.alloc (.cells #[u] e1)) := by
  obtain ⟨i, hi, hz, hsi, hby⟩ := info_parts hinfo
  have hcell : (w0.alloc (.cells #[u] e1)).cell? ⟨w0.heap.size, 0, none⟩ = some u := by
    rw [cell_of_row _ w0.heap.size 0 #[u] e1 (0, 0) (heap_alloc_new w0 _)]; rfl
  have h3 : Seg (w0.alloc (.cells #[u] e1)) B e1 a1 n1 c1 xs1 := h2.kept (World.grownBy_alloc w0 _ none) (fun _ _ => by simp)
  obtain ⟨a', c', w', hr, hseg, hg, hst⟩ := run_append_seg (P := P) (w0.alloc (.cells #[u] e1)) B t o.type e1 i z bytes ht hi hz hsi hby hzs a1 n1 c1 xs1 h3 ⟨w0.heap.size, 0, none⟩ 1 u hcell h1 h63 hbytes (Nat.le_trans hB (heap_le_alloc _ _))
  refine wpList_plain hgd fun K hK => ?_
  unfold Oper.wp execOp
  simp only [ho, resolve, invoke, builtin, Sem.run_bind, Sem.run_pure, Result.andThen_ok, List.map_toArray, List.map_cons, List.map_nil, hs, hx, hr]
  refine hK _ _ (h a' c' w' hseg (grownBy_trans (World.grownBy_alloc w0 _ _) hg) ?_)
  rcases hst with h | ⟨k, h4, h5⟩
  · exact .inl h
  · exact .inr ⟨k, h4, Nat.le_trans (heap_le_alloc _ _) h5⟩

/-- One element more in a row of the call's own, and where it lies. -/
theorem wpList_append_own1 {P : Program} {w0 : World} {ops : Array Oper} {rest : List Oper} {o : Oper} {act : Act} {Q : Exit → Act → World → Prop} {B : Nat} {e1 : TypeId} {s1 : Nat} {a1 : Option Addr} {n1 c1 : Nat} {xs1 : List Value}
    (hgd : o.guard = none) (s x : Operand) (t : TypeId)
    (ho : o.op = .call { callee := .builtin .append, args := #[s, x], argTypes := #[t, t] })
    {z : Value} {bytes : Nat} (ht : P.underlying t = some (.slice e1)) (hinfo : (P.info? e1).map (fun i => (i.zero, i.size, i.bytes)) = some (some z, s1, bytes)) (hzs : z.cells.size = s1) (hsz : 0 < s1)
    (h2 : w0.ownsRow B e1 s1 (.slice a1 n1 c1) n1 xs1) (hB : B ≤ w0.heap.size) (hs : act.eval s = .slice a1 n1 c1)
    (us : Array Value) (hx : act.eval x = .slice (some ⟨w0.heap.size, 0, none⟩) 1 1) (hl : us.size = s1) (h1 : ∀ u ∈ us.toList, u.oneCell' = true)
    (h63 : n1 + 1 ≤ maxLen) (hbytes : (n1 + 1) * bytes ≤ 140737488355328)
    (h : ∀ ad' cap' w', w'.ownsRow B e1 s1 (.slice ad' (n1 + 1) cap') (n1 + 1) (xs1 ++ us.toList) → w0.grownBy w' (Value.ownBlock (.slice a1 n1 c1)) → Stayed w0 (.slice a1 n1 c1) (.slice ad' (n1 + 1) cap') → wpList P ops Q rest (act.put o.dst (.slice ad' (n1 + 1) cap')) w') :
    wpList P ops Q (o :: rest) act (w0.alloc (.cells us e1)) := by
  obtain ⟨i, hi, hz, hsi, hby⟩ := info_parts hinfo
  refine wpList_append_own_at (w0.alloc (.cells us e1)) hgd s x t ho B e1 i z s1 bytes ht hi hz hsi hby hzs hsz _ n1 xs1 hs (h2.alloc _) ⟨w0.heap.size, 0, none⟩ 1 1 us.toList hx (by simp [hl]) ?_ h1 h63 hbytes (Nat.le_trans hB (heap_le_alloc _ _)) ?_
  · intro j u hj
    rw [Addr.add_lit, cell_of_row _ w0.heap.size (0 + j) us e1 (0, 0) (heap_alloc_new w0 _)]
    simpa using hj
  · intro v' w' hown' hg' _ hat'
    obtain ⟨a', c', rfl⟩ := ownsRow_shape hown'
    refine h a' c' w' hown' (grownBy_trans (World.grownBy_alloc w0 _ _) hg') ?_
    rcases hat' with e | e
    · exact .inl e
    · exact .inr ⟨_, e, heap_le_alloc _ _⟩

/-- Two slices of the call's own in different blocks. -/
def Parted (v v' : Value) : Prop := ∀ k, v.ownBlock = some k → v'.ownBlock ≠ some k

theorem Parted.symm {v v' : Value} (h : Parted v v') : Parted v' v := fun k h1 h2 => h k h2 h1
/-- One of the two is appended to. -/
theorem Parted.stayed {w : World} {v u u' : Value} (h : Parted v u) (hv : ∀ k, v.ownBlock = some k → k < w.heap.size) (hs : Stayed w u u') : Parted v u' := by
  intro k h1 h2
  rcases hs with e | ⟨j, e, hj⟩
  · exact h k h1 (e ▸ h2)
  · have := hv k h1
    rw [e] at h2
    injection h2 with h2
    omega

end Go.Proofs.Ytbnagmjhdnnheaa
