/-
  The contracts of the model's functions PrintsOf and FindPrint. Condition: texts have at most 2^22 bytes.
  The contracts of the program's functions joinedNumbers, ascendingNumbers and firstNumber. Condition: rows have at most 2^40 elements.
-/
import Derived.Test.YtclblnkeakkdeaaMg7
import Derived.Test.YtclblnkeakkdeaaMg9
import Derived.Deep.QuietTactic
import Derived.BigQuiet
import Derived.IntWalk
import Derived.Outline
import Derived.Test.YtclblnkeakkdeaaMg6
namespace Go.Proofs.Ytclblnkeakkdeaa
open Go.RowKit

theorem Try.ulI3 : Try.prog.underlying 33 = some (.slice 3) := by kernel_rfl
theorem Try.infoI3 : (Try.prog.info? 3).map (fun i => (i.zero, i.size, i.bytes)) = some (some (.int .i64 0), 1, 8) := by kernel_rfl

theorem pieces_roll (s : ByteArray) (k i q : Nat) (hk : 0 < k) (hq : q = i + k) (h : q < s.size) :
    rollN (prN (pieceL s.data.toList k i)) k (s[i]'(by omega)).toNat s[q].toNat = prN (pieceL s.data.toList k (i + 1)) := by
  subst hq
  exact roll_piece s.data.toList k i 256 hk h (by decide)

theorem extract_first (s : ByteArray) (k : Nat) : (s.extract 0 k).data.toList = pieceL s.data.toList k 0 := by
  rw [ByteArray.data_extract, Array.toList_extract, List.extract_eq_take_drop, pieceL]
  simp

theorem printsK (s : List UInt8) (k i : Nat) {y : Nat} (hy : prN (pieceL s k i) = y) : intCells (printsTo s k (i + 1)) = intCells (printsTo s k i) ++ [.int .i64 y] := by
  rw [printsTo, intCells_append, hy]; rfl

theorem specPrintOf_is (s : ByteArray) (x : Nat) (w : World) (hs : s.size ≤ 4194304) (hx : prN s.data.toList = x) :
    Calls Try.prog 72 #[.string s] w fun e w' => e = .returned (.int .i64 x) ∧ w = w' := by
  subst hx; exact specPrintOf_any s w hs

theorem specPrintsOf_bad (s : ByteArray) (k : Int) (w : World) (h : k < 1 ∨ (s.size : Int) < k) :
    Calls Try.prog 108 #[.string s, .int .i64 k] w fun e w' => ∃ a n c, e = .returned (.slice a n c) ∧ One w w.heap.size w' 3 1 a n c (intCells []) := by
  by_cases hk : k < 1
  · clear h
    go_enter Try.func108, Try.ntmps108
    go_wp2
    go_ret
    exact ⟨_, _, _, rfl, One.empty _ _ _⟩
  · by_cases hk2 : (s.size : Int) < k
    · clear h
      go_enter Try.func108, Try.ntmps108
      go_wp2
      go_ret
      exact ⟨_, _, _, rfl, One.empty _ _ _⟩
    · omega

set_option maxHeartbeats 2000000 in
theorem specPrintsOf_ok (s : ByteArray) (k : Nat) (w : World) (hs : s.size ≤ 4194304) (h1 : 0 < k) (h2 : k ≤ s.size) :
    Calls Try.prog 108 #[.string s, .int .i64 k] w fun e w' => ∃ a n c, e = .returned (.slice a n c) ∧ One w w.heap.size w' 3 1 a n c (intCells (printsTo s.data.toList k (s.size - k + 1))) := by
  have hp := prN_lt (pieceL s.data.toList k 0)
  obtain ⟨x, hx⟩ : ∃ x, prN (pieceL s.data.toList k 0) = x := ⟨_, rfl⟩
  have HX := Lib.hid (show prN (s.extract 0 k).data.toList = x by rw [extract_first]; exact hx)
  have HX2 := Lib.hid hx
  have HR := Lib.hid (show intCells (printsTo s.data.toList k 1) = [] ++ [.int .i64 x] by rw [printsK s.data.toList k 0 hx]; rfl)
  have hxs : (s.extract 0 k).size ≤ 4194304 := by simp only [ByteArray.size_extract]; omega
  rw [hx] at hp
  clear hx
  go_enter Try.func108, Try.ntmps108
  go_wp2_with fail
  refine (specPrintOf_is _ _ _ hxs HX.out).mono ?_
  rintro e w1 ⟨rfl, hw⟩
  have h0 : One w w.heap.size w1 3 1 (some ⟨w.heap.size, 0, none⟩) 0 0 [] := by rw [← hw]; exact One.empty _ _ _
  clear hw
  go_wp2_with (at_builtin; refine wpList_append_row rfl (.tmp 22) (.tmp 24) 33 rfl Try.ulI3 Try.infoI3 rfl (by decide) h0 rfl #[.int .i64 x] rfl rfl (by simp [Value.oneCell']) (by unfold maxLen; omega) (by omega) ?_; intro a3 c3 w3 h3)
  have HS := Lib.hid (show s.data.toList.length = s.size from rfl)
  go_loopw [5, 6, 7] (fun v n q_ wr => ∃ i x q : Nat, q ≤ s.size ∧ q_ = .int .i64 q ∧ n = .int .i64 x ∧ x < 1000003 ∧ Hid (q = i + k ∧ prN (pieceL s.data.toList k i) = x) ∧ i ≤ s.size ∧ ∃ a c, v = .slice a (i + 1) c ∧ One w w.heap.size wr 3 1 a (i + 1) c (intCells (printsTo s.data.toList k (q - k + 1))))
    (fun _ _ q_ _ => s.size - (intOf q_).toNat)
  case atStart => exact ⟨0, x, k, h2, rfl, rfl, hp, Lib.hid ⟨by omega, HX2.out⟩, by omega, a3, c3, rfl, by rw [Nat.sub_self, HR.out]; exact h3⟩
  case round =>
    obtain ⟨i, x, q, hq, rfl, rfl, hx9, HQ, hi, a, c, rfl, hone⟩ := hrel
    by_cases hlt : q < s.size
    · have hqi := HQ.out.1
      have hii : i < s.size := by omega
      have hy : rollN (prN (pieceL s.data.toList k i)) k s[i].toNat s[q].toNat = prN (pieceL s.data.toList k (i + 1)) := pieces_roll s k i q h1 hqi hlt
      rw [HQ.out.2] at hy
      have hy9 := prN_lt (pieceL s.data.toList k (i + 1))
      obtain ⟨y, hyy⟩ : ∃ y, prN (pieceL s.data.toList k (i + 1)) = y := ⟨_, rfl⟩
      rw [hyy] at hy hy9
      have hki : q - k + 1 = i + 1 := by omega
      have hki2 : q + 1 - k = i + 1 := by omega
      rw [hki] at hone
      have HK := Lib.hid (show intCells (printsTo s.data.toList k (q + 1 - k + 1)) = intCells (printsTo s.data.toList k (i + 1)) ++ [.int .i64 y] by rw [hki2]; exact printsK s.data.toList k (i + 1) hyy)
      have HN := Lib.hid (show q + 1 = (i + 1) + k ∧ prN (pieceL s.data.toList k (i + 1)) = y from ⟨by omega, hyy⟩)
      have HY := Lib.hid hy
      have e1 : IntKind.i64.wrap ((q : Int) - (k : Int)) = (i : Int) := by rw [IntWalk.i64_in _ (by omega)]; omega
      have b1 : s[i].toNat ≤ 255 := by have := s[i].toNat_lt; omega
      have b2 : s[q].toNat ≤ 255 := by have := s[q].toNat_lt; omega
      have k9 : (k : Int) ≤ 9223372036854775807 := by omega
      have K9 := Lib.hid k9
      clear hqi hy hyy HQ k9 hki hki2
      go_wp2
      go_quiet ((go_at_call 121; exact Calls.quiet_of_same ((specRollPrint_ok _ _ _ _ y _ hx9 (by omega) K9.out b1 b2 HY.out).mono (fun _ _ h => ⟨h.1, h.2.symm⟩))))
      go_wp2_with (at_builtin; refine wpList_append_row rfl (.tmp 46) (.tmp 48) 33 rfl Try.ulI3 Try.infoI3 rfl (by decide) (hone.drewN _) rfl #[.int .i64 y] rfl rfl (by simp [Value.oneCell']) (by unfold maxLen; omega) (by omega) ?_; intro a5 c5 w5 h5)
      go_roundw
      case rel => exact ⟨i + 1, y, q + 1, by omega, by go_num, rfl, hy9, HN, by omega, a5, c5, rfl, by rw [HK.out]; exact h5⟩
      case measure => simp [intOf]; omega
    · obtain rfl : q = s.size := by omega
      have HO := Lib.hid hone
      clear hone
      go_wp2
      go_ret
      exact ⟨_, _, _, rfl, HO.out⟩

end Go.Proofs.Ytclblnkeakkdeaa

namespace Go.Proofs.Ytclblnkeakkdeaa
open Go.RowKit

theorem half_of (lo hi g : Nat) (h : (hi - lo) / 2 = g) (hl : lo ≤ hi) : ((hi : Int) - (lo : Int)).tdiv 2 = (g : Int) := by
  have e : ((hi : Int) - (lo : Int)) = ((hi - lo : Nat) : Int) := by omega
  rw [e]
  have h2 := Int.ofNat_tdiv (hi - lo) 2
  rw [h] at h2
  rw [h2]; simp


theorem ints_lenN {w : World} {B : Nat} {e : TypeId} {a : Option Addr} {n c : Nat} {l : List Int} (h : w.ownsRow B e 1 (.slice a n c) n (intCells l)) : n = l.length := by
  have := h.1
  simp only [intCells, List.length_map] at this; omega

theorem Try.elI5 : Try.prog.underlying 33 = some (.slice (Try.prog.elem 33)) := by kernel_rfl
theorem Try.elemI5 : Try.prog.elem 33 = 3 := by kernel_rfl
theorem Try.sizeI5 (w : World) : (sizeOf (Try.prog.elem 33)).run Try.prog w = .ok 1 w := by
  obtain ⟨i, hi, hz, hsi, hby⟩ := info_parts Try.infoI3
  rw [Try.elemI5]
  simp [sizeOf, typeInfo, hi, hsi]

theorem intCells_len (l : List Int) : (intCells l).length = l.length := by simp [intCells]
theorem intCells_snoc (l : List Int) (x : Int) : intCells (l ++ [x]) = intCells l ++ [.int .i64 x] := by rw [intCells_append]; rfl
theorem int_cell {w : World} {a : Option Addr} {L : List Int} (h : CellsAt w a (intCells L)) {i : Nat} {x : Int} (hi : i < L.length) (hx : L[i] = x) : ∃ b o, a = some ⟨b, o, none⟩ ∧ b < w.heap.size ∧ w.cell? ⟨b, o + i, none⟩ = some (.int .i64 x) := by
  obtain ⟨b, o, ha, hb, hc⟩ := h.spot (fun e => by have := congrArg List.length e; rw [intCells_len] at this; simp at this; rw [this] at hi; simp at hi)
  exact ⟨b, o, ha, hb, hc i _ (by simp [intCells, hi, hx])⟩

/-- A slice of numbers from a place on, and up to one. -/
theorem ints_from (a : Option Addr) (n c i : Nat) (hi : i ≤ n) (hnc : n ≤ c) : ∃ a2 q f, q = n - i ∧ q ≤ f ∧ f ≤ c ∧ (∀ w, (Instr.slice 33 (.slice a n c) (some (.int .i64 i)) none none).run Try.prog w = .ok (.slice a2 q f) w) ∧
    ∀ (w : World) (l : List Int), n = l.length → CellsAt w a (intCells l) → CellsAt w a2 (intCells (l.drop i)) := by
  refine ⟨if c = i then a else a.map (·.add (i * 1)), n - i, c - i, rfl, by omega, by omega, fun w => ?_, fun w l hn h => ?_⟩
  · have h := run_slice_l (P := Try.prog) (w := w) 33 a n c Try.elI5 .i64 (i : Int) (by omega) (by omega)
    rw [h, Try.sizeI5]
    simp [Result.andThen, sliced]
  · have h2 := h.from_ n c i 1 (by decide) (by rw [intCells_len, hn, Nat.mul_one]) hnc
    simp only [Nat.mul_one] at h2 ⊢
    rwa [intCells_drop] at h2
theorem ints_upto (a : Option Addr) (n c i : Nat) (hi : i ≤ c) : ∃ a2, (∀ w, (Instr.slice 33 (.slice a n c) none (some (.int .i64 i)) none).run Try.prog w = .ok (.slice a2 i c) w) ∧
    ∀ (w : World) (l : List Int), CellsAt w a (intCells l) → CellsAt w a2 (intCells (l.take i)) := by
  refine ⟨if c = 0 then a else a.map (·.add (0 * 1)), fun w => ?_, fun w l h => ?_⟩
  · have h := run_slice_h (P := Try.prog) (w := w) 33 a n c Try.elI5 .i64 (i : Int) (by omega) (by omega)
    rw [h, Try.sizeI5]
    simp [Result.andThen, sliced]
  · have e : (if c = 0 then a else a.map (·.add (0 * 1))) = a := by
      split
      · rfl
      · cases a with
        | none => rfl
        | some p =>
          simp only [Option.map_some]
          congr 1
    rw [e, ← intCells_takeE]
    exact h.upTo i

/-- A new row of as many zeros as asked for. -/
theorem make_zeros (w : World) (n : Nat) (hn : n ≤ 1099511627776) :
    ∃ w', (Instr.makeSlice 33 (.int .i64 (n : Int)) (.int .i64 (n : Int))).run Try.prog w = .ok (.slice (some ⟨w.heap.size, 0, none⟩) n n) w' ∧
      One w w.heap.size w' 3 1 (some ⟨w.heap.size, 0, none⟩) n n (intCells (vecI n (fun _ => 0))) := by
  obtain ⟨i, hi, hz, hsi, hby⟩ := info_parts Try.infoI3
  obtain ⟨w', h1, h2, h3⟩ := run_make_full (P := Try.prog) w w.heap.size 33 3 i (.int .i64 0) 1 Try.ulI3 hi hz hsi .i64 .i64 n (by rw [hby]; omega) (by unfold maxLen; omega) (Nat.le_refl _)
  refine ⟨w', h1, ?_, h3.size, ⟨h3.os, h3.tape, h3.output, h3.size, fun k hk => h3.block k hk (by simp)⟩⟩
  have e : (madeCells (Value.cells (.int .i64 0)) (n * 1)).toList = intCells (vecI n (fun _ => 0)) := by
    rw [Nat.mul_one]
    apply List.ext_getElem
    · simp [madeCells, intCells_len, vecI_len]
    · intro k h1 h2
      have hk : k < n := by simpa [madeCells] using h1
      have hc : (Value.cells (.int .i64 0)) = #[.int .i64 0] := rfl
      simp [madeCells, intCells, vecI, hc, Nat.mod_one]
  rw [e] at h2
  exact h2

theorem vec_cell {W : World} {B : Nat} {w : World} {e : TypeId} {g n c : Nat} {f : Nat → Int} (h : One W B w e 1 (some ⟨g, 0, none⟩) n c (intCells (vecI n f))) {i : Nat} (hi : i < n) {v : Int} (hv : f i = v) : w.cell? ⟨g, i, none⟩ = some (.int .i64 v) := by
  rw [h.own.cellAt i (by omega)]
  have : i < (vecI n f).length := by rw [vecI_len]; exact hi
  simp [intCells, this, vecI_get n f i hi, hv]
theorem vec_stored {W : World} {B : Nat} {w : World} {e : TypeId} {g n c : Nat} {f f' : Nat → Int} (h : One W B w e 1 (some ⟨g, 0, none⟩) n c (intCells (vecI n f))) {i : Nat} {v : Int} (hv : f' i = v) (hs : ∀ j, j < n → j ≠ i → f' j = f j) :
    One W B (w.setCell ⟨g, i, none⟩ (.int .i64 v)) e 1 (some ⟨g, 0, none⟩) n c (intCells (vecI n f')) := by
  have h1 := h.stored i (.int .i64 v)
  have e1 : (intCells (vecI n f)).set i (.int .i64 v) = intCells (vecI n f') := by
    rw [← vecI_set hv hs, intCells, intCells, List.map_set]
  rwa [e1] at h1

/-- A new row without elements, with room for as many as asked for. -/
theorem make_room (w : World) (n : Nat) (hn : n ≤ 2199023255552) :
    ∃ w', (Instr.makeSlice 33 (.int .i64 0) (.int .i64 (n : Int))).run Try.prog w = .ok (.slice (some ⟨w.heap.size, 0, none⟩) 0 n) w' ∧
      One w w.heap.size w' 3 1 (some ⟨w.heap.size, 0, none⟩) 0 n (intCells []) := by
  obtain ⟨i, hi, hz, hsi, hby⟩ := info_parts Try.infoI3
  obtain ⟨w', h1, h2, h3⟩ := run_make_own (P := Try.prog) w w.heap.size 33 3 i (.int .i64 0) 1 Try.ulI3 hi hz hsi .i64 .i64 n (by rw [hby]; omega) (by unfold maxLen; omega) (Nat.le_refl _)
  exact ⟨w', h1, h2, h3.size, ⟨h3.os, h3.tape, h3.output, h3.size, fun k hk => h3.block k hk (by simp)⟩⟩

set_option maxRecDepth 4000 in
set_option maxHeartbeats 8000000 in
theorem implJoinN_any (A B : List Int) (a b : Option Addr) (n c m d : Nat) (R : List Int) (w : World) (hn : n = A.length) (hm : m = B.length) (hn9 : n ≤ 1099511627776) (hm9 : m ≤ 1099511627776) (hnc : n ≤ c) (hmd : m ≤ d)
    (hA : A.Pairwise ltI) (hB : B.Pairwise ltI) (hR : rowI (A ++ B) = R) (hatA : CellsAt w a (intCells A)) (hatB : CellsAt w b (intCells B)) :
    Calls Try.prog 106 #[.slice a n c, .slice b m d] w fun e w' => ∃ a' n' c', e = .returned (.slice a' n' c') ∧ One w w.heap.size w' 3 1 a' n' c' (intCells R) := by
  have HR := Lib.hid hR
  have HN := Lib.hid hn
  have HM := Lib.hid hm
  have HA := Lib.hid hatA
  have HB := Lib.hid hatB
  have HUA := Lib.hid hA
  have HUB := Lib.hid hB
  obtain ⟨w0, hmk, hone1⟩ := make_room w (n + m) (by omega)
  have vm : IntKind.i64.wrap ((n : Int) + (m : Int)) = (n : Int) + (m : Int) := IntWalk.i64_in _ (by omega)
  rw [show ((n + m : Nat) : Int) = (n : Int) + (m : Int) by omega] at hmk
  obtain ⟨g, hg⟩ : ∃ g, w.heap.size = g := ⟨_, rfl⟩
  have hone0 : One w w.heap.size w0 3 1 (some ⟨g, 0, none⟩) 0 (n + m) (intCells []) := by rw [← hg]; exact hone1
  rw [hg] at hmk
  have HG := Lib.hid hg
  clear hone1 hg
  clear hn hm hatA hatB hA hB hR
  go_enter Try.func106, Try.ntmps106
  go_wp2
  clear hmk
  go_loopw [5, 6, 7] (fun o_ i_ k_ wr => ∃ (i k : Nat) (S : List Int), i ≤ n ∧ k ≤ m ∧ i_ = .int .i64 i ∧ k_ = .int .i64 k ∧ ∃ a' n' c', o_ = .slice a' n' c' ∧ n' ≤ i + k ∧ Hid (GM ltI A B i k S) ∧ One w w.heap.size wr 3 1 a' n' c' (intCells S)) (fun _ i_ k_ _ => n + m - ((intOf i_).toNat + (intOf k_).toNat))
  case atStart => exact ⟨0, 0, [], Nat.zero_le _, Nat.zero_le _, rfl, rfl, _, _, _, rfl, Nat.zero_le _, Lib.hid (gm_start ltI A B), hone0⟩
  case round =>
    clear hone0
    obtain ⟨i, k, S, hi, hk, rfl, rfl, a', n', c', rfl, hn', HS, hone⟩ := hrel
    by_cases hik : i < n ∧ k < m
    · obtain ⟨hin, hkm⟩ := hik
      have hiA : i < A.length := by have := HN.out; omega
      have hkB : k < B.length := by have := HM.out; omega
      obtain ⟨x, hx⟩ : ∃ x, A[i] = x := ⟨_, rfl⟩
      obtain ⟨y, hy⟩ : ∃ y, B[k] = y := ⟨_, rfl⟩
      obtain ⟨ab, ao, rfl, hab, g1⟩ := int_cell (HA.out.below hone.below) hiA hx
      obtain ⟨bb, bo, rfl, hbb, g2⟩ := int_cell (HB.out.below hone.below) hkB hy
      have HX := Lib.hid hx
      have HY := Lib.hid hy
      have z1 : (i : Int) < (n : Int) := by omega
      have z2 : (0 : Int) ≤ (i : Int) := by omega
      have z3 : (k : Int) < (m : Int) := by omega
      have z4 : (0 : Int) ≤ (k : Int) := by omega
      have t5 : decide (i < n) = true := decide_eq_true hin
      have t6 : decide ((i : Int) < (n : Int)) = true := decide_eq_true (by omega)
      have t7 : decide (k < m) = true := decide_eq_true hkm
      have t8 : decide ((k : Int) < (m : Int)) = true := decide_eq_true (by omega)
      clear hx hy
      by_cases hlt : y < x
      · have HS2 := Lib.hid (GM.takeB (r := ltI) (fun _ _ _ => ltI_trans) HS.out HUB.out hkB (fun h => by rw [HX.out, HY.out]; exact hlt))
        have HE := Lib.hid (show intCells (S ++ [B[k]]) = intCells S ++ [.int .i64 y] by rw [HY.out, intCells_snoc])
        have t9 : decide (y < x) = true := decide_eq_true hlt
        clear hlt HS
        go_wp2
        go_quiet (fail)
        go_wp2_with (at_builtin; refine wpList_append_row rfl (.tmp 33) (.tmp 38) 33 rfl Try.ulI3 Try.infoI3 rfl (by decide) (hone.drewN _) rfl #[.int .i64 y] rfl rfl (by simp [Value.oneCell']) (by unfold maxLen; omega) (by omega) ?_; intro a7 c7 w7 h7)
        go_roundw
        case rel => exact ⟨i, k + 1, S ++ [B[k]], hi, by omega, rfl, by go_num, a7, n' + 1, c7, rfl, by omega, HS2, by rw [HE.out]; exact h7⟩
        case measure => simp [intOf]; omega
      · have HE := Lib.hid (show intCells (S ++ [A[i]]) = intCells S ++ [.int .i64 x] by rw [HX.out, intCells_snoc])
        have t9 : decide (y < x) = false := decide_eq_false hlt
        by_cases he : x = y
        · have HS2 := Lib.hid (GM.both (r := ltI) (fun _ _ _ => ltI_trans) HS.out HUA.out HUB.out hiA hkB (by rw [HX.out, HY.out]; exact he))
          have t10 : (x == y) = true := by rw [he]; exact beq_self_eq_true _
          clear hlt HS he
          go_wp2
          go_quiet (fail)
          go_wp2
          go_quiet (fail)
          go_wp2_with (at_builtin; refine wpList_append_row rfl (.tmp 53) (.tmp 58) 33 rfl Try.ulI3 Try.infoI3 rfl (by decide) (hone.drewN _) rfl #[.int .i64 x] rfl rfl (by simp [Value.oneCell']) (by unfold maxLen; omega) (by omega) ?_; intro a7 c7 w7 h7)
          go_roundw
          case rel => exact ⟨i + 1, k + 1, S ++ [A[i]], by omega, by omega, by go_num, by go_num, a7, n' + 1, c7, rfl, by omega, HS2, by rw [HE.out]; exact h7⟩
          case measure => simp [intOf]; omega
        · have HS2 := Lib.hid (GM.takeA (r := ltI) (fun _ _ _ => ltI_trans) HS.out HUA.out hiA (fun h => by rw [HX.out, HY.out]; unfold ltI; omega))
          have t10 : (x == y) = false := by simpa using he
          clear hlt HS he
          go_wp2
          go_quiet (fail)
          go_wp2
          go_quiet (fail)
          go_wp2_with (at_builtin; refine wpList_append_row rfl (.tmp 53) (.tmp 58) 33 rfl Try.ulI3 Try.infoI3 rfl (by decide) (hone.drewN _) rfl #[.int .i64 x] rfl rfl (by simp [Value.oneCell']) (by unfold maxLen; omega) (by omega) ?_; intro a7 c7 w7 h7)
          go_roundw
          case rel => exact ⟨i + 1, k, S ++ [A[i]], by omega, hk, by go_num, rfl, a7, n' + 1, c7, rfl, by omega, HS2, by rw [HE.out]; exact h7⟩
          case measure => simp [intOf]; omega
    · have HD := Lib.hid (HR.out.symm.trans (gmI_done HS.out HUA.out HUB.out (by have := HN.out; have := HM.out; omega)))
      obtain ⟨a2, q, f, hq, hqf, hfc, sl1, hc2⟩ := ints_from a n c i hi hnc
      obtain ⟨b2, q', f', hq', hqf', hfc', sl2, hd2⟩ := ints_from b m d k hk hmd
      have HC2 := Lib.hid (hc2 wr A HN.out (HA.out.below hone.below))
      have HD2 := Lib.hid (fun w' (h : Below w.heap.size w w') => hd2 w' B HM.out (HB.out.below h))
      have HL1 := Lib.hid (show (intCells (A.drop i)).length = q * 1 by rw [intCells_len, List.length_drop, hq, HN.out, Nat.mul_one])
      have HL2 := Lib.hid (show (intCells (B.drop k)).length = q' * 1 by rw [intCells_len, List.length_drop, hq', HM.out, Nat.mul_one])
      have q9 : q ≤ 1099511627776 := by omega
      have q9' : q' ≤ 1099511627776 := by omega
      have n9 : n' ≤ 2199023255552 := by omega
      have hcond : (decide (i < n) = true ∧ decide ((i : Int) < (n : Int)) = true ∧ decide (k < m) = false ∧ decide ((k : Int) < (m : Int)) = false) ∨ (decide (i < n) = false ∧ decide ((i : Int) < (n : Int)) = false) := by
        by_cases h : i < n
        · exact .inl ⟨decide_eq_true h, decide_eq_true (by omega), decide_eq_false (fun h2 => hik ⟨h, h2⟩), decide_eq_false (fun h2 => hik ⟨h, by omega⟩)⟩
        · exact .inr ⟨decide_eq_false h, decide_eq_false (by omega)⟩
      clear hik hc2 hd2 hq hq' hfc hfc' HS hn'
      rcases hcond with ⟨t1, t2, t3, t4⟩ | ⟨t1, t2⟩
      all_goals (
        go_wp2_with (at_builtin; first
          | (refine wpList_append_src rfl (.tmp 62) (.tmp 65) 33 rfl Try.ulI3 Try.infoI3 rfl (by decide) hone rfl a2 q f rfl (intCells (A.drop i)) HL1.out HC2.out (intCells_one _) (by unfold maxLen; omega) (by omega) ?_; intro a5 c5 w5 h5)
          | (refine wpList_append_src rfl (.tmp 67) (.tmp 70) 33 rfl Try.ulI3 Try.infoI3 rfl (by decide) h5 rfl b2 q' f' rfl (intCells (B.drop k)) HL2.out (HD2.out _ h5.below) (intCells_one _) (by unfold maxLen; omega) (by omega) ?_; intro a6 c6 w6 h6))
        go_ret
        exact ⟨_, _, _, rfl, by rw [HD.out, intCells_append, intCells_append]; exact h6⟩)

theorem implUp_short (l : List Int) (a : Option Addr) (n c : Nat) (w : World) (h2 : n < 2) (hn : n = l.length) (hat : CellsAt w a (intCells l)) :
    Calls Try.prog 71 #[.slice a n c] w fun e w' => ∃ a' n' c', e = .returned (.slice a' n' c') ∧ One w w.heap.size w' 3 1 a' n' c' (intCells (rowI l)) := by
  have HR := Lib.hid (rowI_short (l := l) (by omega))
  have HL := Lib.hid (show (intCells l).length = n * 1 by rw [intCells_len, hn, Nat.mul_one])
  have HAT := Lib.hid hat
  have z1 : (n : Int) < 2 := by omega
  clear hn hat
  go_enter Try.func71, Try.ntmps71
  go_wp2_with (at_builtin; refine wpList_append_src rfl (.tmp 9) (.tmp 10) 33 rfl Try.ulI3 Try.infoI3 rfl (by decide) (One.empty w 3 1) rfl a n c rfl (intCells l) HL.out (HAT.out.allocW _) (intCells_one _) (by unfold maxLen; omega) (by omega) ?_; intro a5 c5 w5 h5)
  go_ret
  exact ⟨_, _, _, rfl, by rw [HR.out]; simpa using h5⟩

theorem implUp_any (N : Nat) : ∀ (l : List Int) (a : Option Addr) (n c : Nat) (w : World), n ≤ N → n = l.length → n ≤ 1099511627776 → n ≤ c → CellsAt w a (intCells l) →
    Calls Try.prog 71 #[.slice a n c] w fun e w' => ∃ a' n' c', e = .returned (.slice a' n' c') ∧ One w w.heap.size w' 3 1 a' n' c' (intCells (rowI l)) := by
  induction N with
  | zero => exact fun l a n c w hN hn _ _ hat => implUp_short l a n c w (by omega) hn hat
  | succ N ih =>
    intro l a n c w hN hn hn9 hnc hat
    by_cases h2 : n < 2
    · exact implUp_short l a n c w h2 hn hat
    obtain ⟨h, hh⟩ : ∃ h, n / 2 = h := ⟨_, rfl⟩
    have em : ((n : Nat) : Int).tdiv 2 = (h : Int) := by
      have e := Int.ofNat_tdiv n 2
      rw [hh] at e
      rw [e]; simp
    have b1 : 1 ≤ h := by omega
    have b2 : h < n := by omega
    obtain ⟨a1, sl1, hc1⟩ := ints_upto a n c h (by omega)
    obtain ⟨a2, q, f, hq, hqf, hfc, sl2, hc2⟩ := ints_from a n c h (by omega) hnc
    have c1 := ih (l.take h) a1 h c w (by omega) (by rw [List.length_take]; omega) (by omega) (by omega) (hc1 w l hat)
    have c2 := fun w' (hb : Below w.heap.size w w') => ih (l.drop h) a2 q f w' (by omega) (by rw [List.length_drop, hq, hn]) (by omega) hqf (hc2 w' l hn (hat.below hb))
    have HR := Lib.hid (rowI_halves l h)
    have HU1 := Lib.hid (rowI_is (l.take h)).up
    have HU2 := Lib.hid (rowI_is (l.drop h)).up
    have HL1 := Lib.hid (show (rowI (l.take h)).length ≤ 1099511627776 by have e := rowI_len (l.take h); rw [List.length_take] at e; omega)
    have HL2 := Lib.hid (show (rowI (l.drop h)).length ≤ 1099511627776 by have e := rowI_len (l.drop h); rw [List.length_drop] at e; omega)
    have z1 : ¬ (n : Int) < 2 := by omega
    have z2 : (2 : Int) ≤ (n : Int) := by omega
    clear ih hat hn hh hc1 hc2 hq hN hfc
    obtain ⟨L1, hL1⟩ : ∃ L, rowI (l.take h) = L := ⟨_, rfl⟩
    obtain ⟨L2, hL2⟩ : ∃ L, rowI (l.drop h) = L := ⟨_, rfl⟩
    rw [hL1] at c1 HU1 HL1
    rw [hL2] at c2 HU2 HL2
    rw [hL1, hL2] at HR
    clear hL1 hL2
    go_enter Try.func71, Try.ntmps71
    go_wp2_with fail
    refine c1.mono ?_
    rintro e w2 ⟨ga, na, ca, rfl, o1⟩
    have d2 := c2 w2 o1.below
    clear c1 c2
    go_wp2_with fail
    refine d2.mono ?_
    rintro e w3 ⟨gb, nb, cb, rfl, o2⟩
    have e1 := ints_lenN o1.own
    have e2 := ints_lenN o2.own
    have k1 := o1.cap.1
    have k2 := o2.cap.1
    have c3 := implJoinN_any L1 L2 ga gb na ca nb cb (rowI l) w3 e1 e2 (by have := HL1.out; omega) (by have := HL2.out; omega) k1 k2 HU1.out HU2.out HR.out (o1.later o2.below).at_ o2.at_
    have HB := Lib.hid (show Below w.heap.size w w3 from o1.below.trans (o2.below.mono o1.below.size))
    clear d2 e1 e2 k1 k2 o1 o2
    go_wp2_with fail
    refine c3.mono ?_
    rintro e w4 ⟨gc, nc, cc, rfl, o3⟩
    go_wp2
    go_ret
    exact ⟨_, _, _, rfl, o3.under HB.out HB.out.size⟩

set_option maxHeartbeats 4000000 in
theorem implFirstN_any (l : List Int) (p : Int) (a : Option Addr) (n c : Nat) (w : World) (hn : n = l.length) (hl : n ≤ 1099511627776) (hu : UpI l) (hat : CellsAt w a (intCells l)) :
    Calls Try.prog 77 #[.slice a n c, .int .i64 p] w fun e w' => e = .returned (.int .i64 (posI l p : Nat)) ∧ w = w' := by
  have HS := Lib.hid hu
  have HN := Lib.hid hn
  have HAT := Lib.hid hat
  clear hn hu hat
  go_enter Try.func77, Try.ntmps77
  go_wp2
  go_loopw [5, 6] (fun lo_ hi_ wr => ∃ lo hi : Nat, lo ≤ hi ∧ hi ≤ n ∧ lo_ = .int .i64 lo ∧ hi_ = .int .i64 hi ∧ Hid (∀ i (h : i < l.length), i < lo → l[i] < p) ∧ Hid (∀ i (h : i < l.length), hi ≤ i → p ≤ l[i]) ∧ Hid (wr = w)) (fun lo_ hi_ _ => (intOf hi_).toNat - (intOf lo_).toNat)
  case atStart => exact ⟨0, n, Nat.zero_le _, Nat.le_refl _, rfl, rfl, Lib.hid (fun i h h2 => absurd h2 (Nat.not_lt_zero _)), Lib.hid (fun i h h2 => by have := HN.out; omega), Lib.hid rfl⟩
  case round =>
    obtain ⟨lo, hi, hlh, hhn, rfl, rfl, HLo, HHi, HW⟩ := hrel
    obtain rfl := HW.out
    by_cases hlt : lo < hi
    · obtain ⟨g, hg⟩ : ∃ g, (hi - lo) / 2 = g := ⟨_, rfl⟩
      have em := half_of lo hi g hg hlh
      have hm2 : lo + g < hi := by omega
      have hml : lo + g < l.length := by have := HN.out; omega
      obtain ⟨x, hx⟩ : ∃ x, (l[lo + g]'hml) = x := ⟨_, rfl⟩
      obtain ⟨b, o, rfl, hb9, g1⟩ := int_cell HAT.out hml hx
      have z0 : (0 : Int) ≤ (lo : Int) + (g : Int) := by omega
      have z1 : (lo : Int) + (g : Int) < (n : Int) := by omega
      have z2 : ((lo : Int) + (g : Int)).toNat = lo + g := by omega
      have HX := Lib.hid hx
      clear hg hx
      by_cases hxp : x < p
      · have HL2 := Lib.hid (show ∀ i (h : i < l.length), i < lo + g + 1 → l[i] < p from fun i h h2 => by
          have h3 := HS.out i (lo + g) (by omega) hml
          have := HX.out
          omega)
        clear HLo
        go_wp2
        go_roundw
        case rel => exact ⟨lo + g + 1, hi, by omega, hhn, by go_num, rfl, HL2, HHi, Lib.hid (by trivial)⟩
        case measure => simp [intOf]; omega
      · have HH2 := Lib.hid (show ∀ i (h : i < l.length), lo + g ≤ i → p ≤ l[i] from fun i h h2 => by
          have h3 := HS.out (lo + g) i h2 h
          have := HX.out
          omega)
        clear HHi
        go_wp2
        go_roundw
        case rel => exact ⟨lo, lo + g, by omega, by omega, rfl, by go_num, HLo, HH2, Lib.hid (by trivial)⟩
        case measure => simp [intOf]; omega
    · obtain rfl : lo = hi := by omega
      have HP := Lib.hid (posI_is (l := l) (p := p) (k := lo) (by have := HN.out; omega) (fun i h h2 => HLo.out i h h2) (fun h => HHi.out lo h (Nat.le_refl _)))
      go_wp2
      go_ret
      exact ⟨(congrArg (fun z : Nat => Ending.returned (Value.int .i64 (z : Int))) HP.out).symm, rfl⟩

end Go.Proofs.Ytclblnkeakkdeaa
