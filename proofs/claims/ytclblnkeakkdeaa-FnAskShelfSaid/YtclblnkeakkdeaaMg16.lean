/-
  The contracts of the program's functions pieceLess, joinedPieces and sortedPieces. Condition: rows have at most 2^40 pieces. (Written by wip/tools/ch7_join.py.)
-/
import Derived.Test.YtclblnkeakkdeaaMg15
import Derived.Test.YtclblnkeakkdeaaMg6
namespace Go.Proofs.Ytclblnkeakkdeaa
open Go.RowKit

theorem implLess7_any (a b c d e f : Int) (w : World) :
    Calls Try.prog 127 #[.agg #[.int .i64 a, .int .i64 b, .int .i64 c], .agg #[.int .i64 d, .int .i64 e, .int .i64 f]] w fun r w' => r = .returned (.bool (decide (enLt (a, b, c) (d, e, f)))) ∧ Below w.heap.size w w' := by
  by_cases h1 : a = d
  · subst h1
    have t1 : (a == a) = true := beq_self_eq_true _
    have t1' : (a != a) = false := by rw [bne, t1]; rfl
    by_cases h2 : b = e
    · subst h2
      have t2 : (b == b) = true := beq_self_eq_true _
      have t2' : (b != b) = false := by rw [bne, t2]; rfl
      have HD := Lib.hid (show decide (enLt (a, b, c) (a, b, f)) = decide (c < f) from decide_eq_decide.2 (by rw [enLt_iff7]; constructor <;> omega))
      go_enter Try.func127, Try.ntmps127
      go_wp2
      go_ret
      exact ⟨by rw [HD.out]; rfl, below_alloc2 _ _ _⟩
    · have t2 : (b == e) = false := by simpa using h2
      have t2' : (b != e) = true := by rw [bne, t2]; rfl
      have HD := Lib.hid (show decide (enLt (a, b, c) (a, e, f)) = decide (b < e) from decide_eq_decide.2 (by rw [enLt_iff7]; constructor <;> omega))
      clear h2
      go_enter Try.func127, Try.ntmps127
      go_wp2
      go_ret
      exact ⟨by rw [HD.out]; rfl, below_alloc2 _ _ _⟩
  · have t1 : (a == d) = false := by simpa using h1
    have t1' : (a != d) = true := by rw [bne, t1]; rfl
    have HD := Lib.hid (show decide (enLt (a, b, c) (d, e, f)) = decide (a < d) from decide_eq_decide.2 (by rw [enLt_iff7]; constructor <;> omega))
    clear h1
    go_enter Try.func127, Try.ntmps127
    go_wp2
    go_ret
    exact ⟨by rw [HD.out]; rfl, below_alloc2 _ _ _⟩

theorem implLess7_is (r : Bool) (a b c d e f : Int) (w : World) (h : r = true ↔ enLt (a, b, c) (d, e, f)) :
    Calls Try.prog 127 #[.agg #[.int .i64 a, .int .i64 b, .int .i64 c], .agg #[.int .i64 d, .int .i64 e, .int .i64 f]] w fun x w' => x = .returned (.bool r) ∧ Below w.heap.size w w' := by
  have e1 : decide (enLt (a, b, c) (d, e, f)) = r := by rw [Bool.eq_iff_iff, decide_eq_true_iff]; exact h.symm
  rw [← e1]
  exact implLess7_any a b c d e f w

theorem Try.elP7 : Try.prog.underlying 56 = some (.slice (Try.prog.elem 56)) := by kernel_rfl
theorem Try.elemP7 : Try.prog.elem 56 = 61 := by kernel_rfl
theorem Try.sizeP7 (w : World) : (sizeOf (Try.prog.elem 56)).run Try.prog w = .ok 3 w := by
  obtain ⟨i, hi, hz, hsi, hby⟩ := info_parts Try.infoP7
  rw [Try.elemP7]
  simp [sizeOf, typeInfo, hi, hsi]

/-- A slice of entries from a place on, and up to one. -/
theorem pcs_from (a : Option Addr) (n c i : Nat) (hi : i ≤ n) (hnc : n ≤ c) : ∃ a2 q f, q = n - i ∧ q ≤ f ∧ f ≤ c ∧ (∀ w, (Instr.slice 56 (.slice a n c) (some (.int .i64 i)) none none).run Try.prog w = .ok (.slice a2 q f) w) ∧
    ∀ (w : World) (l : List En), n = l.length → CellsAt w a (entsC l) → CellsAt w a2 (entsC (l.drop i)) := by
  refine ⟨if c = i then a else a.map (·.add (i * 3)), n - i, c - i, rfl, by omega, by omega, fun w => ?_, fun w l hn h => ?_⟩
  · have h := run_slice_l (P := Try.prog) (w := w) 56 a n c Try.elP7 .i64 (i : Int) (by omega) (by omega)
    rw [h, Try.sizeP7]
    simp [Result.andThen, sliced]
  · have h2 := h.from_ n c i 3 (by decide) (by rw [entsC_len, hn]) hnc
    rwa [entsC_drop] at h2
theorem pcs_upto (a : Option Addr) (n c i : Nat) (hi : i ≤ c) : ∃ a2, (∀ w, (Instr.slice 56 (.slice a n c) none (some (.int .i64 i)) none).run Try.prog w = .ok (.slice a2 i c) w) ∧
    ∀ (w : World) (l : List En), CellsAt w a (entsC l) → CellsAt w a2 (entsC (l.take i)) := by
  refine ⟨if c = 0 then a else a.map (·.add (0 * 3)), fun w => ?_, fun w l h => ?_⟩
  · have h := run_slice_h (P := Try.prog) (w := w) 56 a n c Try.elP7 .i64 (i : Int) (by omega) (by omega)
    rw [h, Try.sizeP7]
    simp [Result.andThen, sliced]
  · have e : (if c = 0 then a else a.map (·.add (0 * 3))) = a := by
      split
      · rfl
      · cases a with
        | none => rfl
        | some p =>
          simp only [Option.map_some]
          congr 1
    rw [e, ← entsC_take]
    exact h.upTo (i * 3)

set_option maxRecDepth 4000 in
set_option maxHeartbeats 8000000 in
theorem implJoinP_any (A B : List En) (a b : Option Addr) (n c m d : Nat) (R : List En) (w : World) (hn : n = A.length) (hm : m = B.length) (hn9 : n ≤ 1099511627776) (hm9 : m ≤ 1099511627776) (hnc : n ≤ c) (hmd : m ≤ d)
    (hA : A.Pairwise enLt) (hB : B.Pairwise enLt) (hR : rowE (A ++ B) = R) (hatA : CellsAt w a (entsC A)) (hatB : CellsAt w b (entsC B)) :
    Calls Try.prog 124 #[.slice a n c, .slice b m d] w fun e w' => ∃ a' n' c', e = .returned (.slice a' n' c') ∧ One w w.heap.size w' 61 3 a' n' c' (entsC R) := by
  have HR := Lib.hid hR
  have HN := Lib.hid hn
  have HM := Lib.hid hm
  have HA := Lib.hid hatA
  have HB := Lib.hid hatB
  have HUA := Lib.hid hA
  have HUB := Lib.hid hB
  have hone0 : One w w.heap.size w 61 3 none 0 0 (entsC []) := One.nil w 61 3
  clear hn hm hatA hatB hA hB hR
  go_enter Try.func124, Try.ntmps124
  go_wp2
  go_loopw [5, 6, 7] (fun o_ i_ k_ wr => ∃ (i k : Nat) (S : List En), i ≤ n ∧ k ≤ m ∧ i_ = .int .i64 i ∧ k_ = .int .i64 k ∧ ∃ a' n' c', o_ = .slice a' n' c' ∧ n' ≤ i + k ∧ Hid (GM enLt A B i k S) ∧ One w w.heap.size wr 61 3 a' n' c' (entsC S)) (fun _ i_ k_ _ => n + m - ((intOf i_).toNat + (intOf k_).toNat))
  case atStart => exact ⟨0, 0, [], Nat.zero_le _, Nat.zero_le _, rfl, rfl, _, _, _, rfl, Nat.zero_le _, Lib.hid (gm_start enLt A B), hone0⟩
  case round =>
    clear hone0
    obtain ⟨i, k, S, hi, hk, rfl, rfl, a', n', c', rfl, hn', HS, hone⟩ := hrel
    by_cases hik : i < n ∧ k < m
    · obtain ⟨hin, hkm⟩ := hik
      have hiA : i < A.length := by have := HN.out; omega
      have hkB : k < B.length := by have := HM.out; omega
      obtain ⟨x, hx⟩ : ∃ x, A[i].1 = x := ⟨_, rfl⟩
      obtain ⟨y, hy⟩ : ∃ y, A[i].2.1 = y := ⟨_, rfl⟩
      obtain ⟨z, hz⟩ : ∃ z, A[i].2.2 = z := ⟨_, rfl⟩
      have hma : A[i] = (x, y, z) := by rw [← hx, ← hy, ← hz]
      obtain ⟨ab, ao, rfl, hab, g1, g2, g3⟩ := ent_cells (HA.out.below hone.below) hiA hma
      have HMA := Lib.hid hma
      have z1 : (i : Int) < (n : Int) := by omega
      have z2 : (0 : Int) ≤ (i : Int) := by omega
      clear hx hy hz hma
      obtain ⟨x', hx⟩ : ∃ x, B[k].1 = x := ⟨_, rfl⟩
      obtain ⟨y', hy⟩ : ∃ y, B[k].2.1 = y := ⟨_, rfl⟩
      obtain ⟨z', hz⟩ : ∃ z, B[k].2.2 = z := ⟨_, rfl⟩
      have hmb : B[k] = (x', y', z') := by rw [← hx, ← hy, ← hz]
      obtain ⟨bb, bo, rfl, hbb, g4, g5, g6⟩ := ent_cells (HB.out.below hone.below) hkB hmb
      have HKS := Lib.hid (show ∀ w', Below wr.heap.size wr w' → w'.cell? ⟨ab, ao + i * 3, none⟩ = some (.int .i64 x) ∧ w'.cell? ⟨ab, ao + i * 3 + 1, none⟩ = some (.int .i64 y) ∧ w'.cell? ⟨ab, ao + i * 3 + 2, none⟩ = some (.int .i64 z) ∧ w'.cell? ⟨bb, bo + k * 3, none⟩ = some (.int .i64 x') ∧ w'.cell? ⟨bb, bo + k * 3 + 1, none⟩ = some (.int .i64 y') ∧ w'.cell? ⟨bb, bo + k * 3 + 2, none⟩ = some (.int .i64 z') from fun w' h => ⟨below_ents7 h hab g1, below_ents7 h hab g2, below_ents7 h hab g3, below_ents7 h hbb g4, below_ents7 h hbb g5, below_ents7 h hbb g6⟩)
      have z3 : (k : Int) < (m : Int) := by omega
      have z4 : (0 : Int) ≤ (k : Int) := by omega
      have t5 : decide (i < n) = true := decide_eq_true hin
      have t6 : decide ((i : Int) < (n : Int)) = true := decide_eq_true (by omega)
      have t7 : decide (k < m) = true := decide_eq_true hkm
      have t8 : decide ((k : Int) < (m : Int)) = true := decide_eq_true (by omega)
      have HMB := Lib.hid hmb
      clear hx hy hz hmb
      by_cases hlt : enLt (x', y', z') (x, y, z)
      · have c4 := fun w => implLess7_is true x' y' z' x y z w ⟨fun _ => hlt, fun _ => rfl⟩
        have HS2 := Lib.hid (GM.takeB (r := enLt) (fun _ _ _ => enLt_trans) HS.out HUB.out hkB (fun h => by rw [HMA.out, HMB.out]; exact hlt))
        have HE := Lib.hid (show entsC (S ++ [B[k]]) = entsC S ++ [.int .i64 x', .int .i64 y', .int .i64 z'] by rw [HMB.out, entsC_snoc])
        clear hlt HS
        go_wp2
        go_region_held3 (fun w' => w'.cell? ⟨ab, ao + i * 3, none⟩ = some (.int .i64 x) ∧ w'.cell? ⟨ab, ao + i * 3 + 1, none⟩ = some (.int .i64 y) ∧ w'.cell? ⟨ab, ao + i * 3 + 2, none⟩ = some (.int .i64 z) ∧ w'.cell? ⟨bb, bo + k * 3, none⟩ = some (.int .i64 x') ∧ w'.cell? ⟨bb, bo + k * 3 + 1, none⟩ = some (.int .i64 y') ∧ w'.cell? ⟨bb, bo + k * 3 + 2, none⟩ = some (.int .i64 z')) (first | go_keep | exact HKS.out _ (Below.trans (by repeat (first | exact Below.refl _ _ | refine Below.drew ?_ | refine below_drewN' ?_ _)) (hb6.mono (by simp))))
          ((go_at_call 127; refine (c4 _).mono ?_; rintro e w6 ⟨rfl, hb6⟩))
        go_wp2_with (at_builtin; refine wpList_append_row rfl (.tmp 27) (.tmp 32) 56 rfl Try.ulP7 Try.infoP7 rfl (by decide) (hone.later (Below.trans (by repeat (first | exact Below.refl _ _ | refine Below.drew ?_ | refine below_drewN' ?_ _)) (hb6.mono (by simp)))) rfl #[.int .i64 x', .int .i64 y', .int .i64 z'] rfl rfl (by simp [Value.oneCell']) (by unfold maxLen; omega) (by omega) ?_; intro a7 c7 w7 h7)
        go_roundw
        case rel => exact ⟨i, k + 1, S ++ [B[k]], hi, by omega, rfl, by go_num, a7, n' + 1, c7, rfl, by omega, HS2, by rw [HE.out]; exact h7⟩
        case measure => simp [intOf]; omega
      · have c4 := fun w => implLess7_is false x' y' z' x y z w ⟨(fun h => absurd h (by decide)), (fun h => absurd h hlt)⟩
        have HE := Lib.hid (show entsC (S ++ [A[i]]) = entsC S ++ [.int .i64 x, .int .i64 y, .int .i64 z] by rw [HMA.out, entsC_snoc])
        by_cases he : (x, y, z) = (x', y', z')
        · have HS2 := Lib.hid (GM.both (r := enLt) (fun _ _ _ => enLt_trans) HS.out HUA.out HUB.out hiA hkB (by rw [HMA.out, HMB.out]; exact he))
          simp only [Prod.mk.injEq] at he
          obtain ⟨rfl, rfl, rfl⟩ := he
          have tx : (x == x) = true := beq_self_eq_true _
          have ty : (y == y) = true := beq_self_eq_true _
          have tz : (z == z) = true := beq_self_eq_true _
          clear hlt HS HMA HMB
          go_wp2
          go_region_held3 (fun w' => w'.cell? ⟨ab, ao + i * 3, none⟩ = some (.int .i64 x) ∧ w'.cell? ⟨ab, ao + i * 3 + 1, none⟩ = some (.int .i64 y) ∧ w'.cell? ⟨ab, ao + i * 3 + 2, none⟩ = some (.int .i64 z) ∧ w'.cell? ⟨bb, bo + k * 3, none⟩ = some (.int .i64 x) ∧ w'.cell? ⟨bb, bo + k * 3 + 1, none⟩ = some (.int .i64 y) ∧ w'.cell? ⟨bb, bo + k * 3 + 2, none⟩ = some (.int .i64 z)) (first | go_keep | exact HKS.out _ (Below.trans (by repeat (first | exact Below.refl _ _ | refine Below.drew ?_ | refine below_drewN' ?_ _)) (hb6.mono (by simp))))
            ((go_at_call 127; refine (c4 _).mono ?_; rintro e w6 ⟨rfl, hb6⟩))
          have W6 : Below wr.heap.size wr w6 := Below.trans (by repeat (first | exact Below.refl _ _ | refine Below.drew ?_ | refine below_drewN' ?_ _)) (hb6.mono (by simp))
          obtain ⟨g1, g2, g3, g4, g5, g6⟩ := HKS.out w6 W6
          have hone6 := hone.later W6
          clear hb6 W6 HKS c4 hone
          go_wp2
          go_quiet (fail)
          go_wp2_with (at_builtin; refine wpList_append_row rfl (.tmp 47) (.tmp 52) 56 rfl Try.ulP7 Try.infoP7 rfl (by decide) (hone6.drewN _) rfl #[.int .i64 x, .int .i64 y, .int .i64 z] rfl rfl (by simp [Value.oneCell']) (by unfold maxLen; omega) (by omega) ?_; intro a7 c7 w7 h7)
          go_roundw
          case rel => exact ⟨i + 1, k + 1, S ++ [A[i]], by omega, by omega, by go_num, by go_num, a7, n' + 1, c7, rfl, by omega, HS2, by rw [HE.out]; exact h7⟩
          case measure => simp [intOf]; omega
        · have HS2 := Lib.hid (GM.takeA (r := enLt) (fun _ _ _ => enLt_trans) HS.out HUA.out hiA (fun h => by
            rw [HMA.out, HMB.out]
            rcases enLt_three (x, y, z) (x', y', z') with h | h | h
            · exact h
            · exact absurd h he
            · exact absurd h hlt))
          have hcase : (x == x') = false ∨ (x == x') = true ∧ ((y == y') = false ∨ (y == y') = true ∧ (z == z') = false) := by
            by_cases h1 : x = x'
            · by_cases h2 : y = y'
              · by_cases h3 : z = z'
                · exact absurd (by rw [h1, h2, h3]) he
                · exact .inr ⟨by simpa using h1, .inr ⟨by simpa using h2, by simpa using h3⟩⟩
              · exact .inr ⟨by simpa using h1, .inl (by simpa using h2)⟩
            · exact .inl (by simpa using h1)
          clear hlt HS he
          go_wp2
          go_region_held3 (fun w' => w'.cell? ⟨ab, ao + i * 3, none⟩ = some (.int .i64 x) ∧ w'.cell? ⟨ab, ao + i * 3 + 1, none⟩ = some (.int .i64 y) ∧ w'.cell? ⟨ab, ao + i * 3 + 2, none⟩ = some (.int .i64 z) ∧ w'.cell? ⟨bb, bo + k * 3, none⟩ = some (.int .i64 x') ∧ w'.cell? ⟨bb, bo + k * 3 + 1, none⟩ = some (.int .i64 y') ∧ w'.cell? ⟨bb, bo + k * 3 + 2, none⟩ = some (.int .i64 z')) (first | go_keep | exact HKS.out _ (Below.trans (by repeat (first | exact Below.refl _ _ | refine Below.drew ?_ | refine below_drewN' ?_ _)) (hb6.mono (by simp))))
            ((go_at_call 127; refine (c4 _).mono ?_; rintro e w6 ⟨rfl, hb6⟩))
          have W6 : Below wr.heap.size wr w6 := Below.trans (by repeat (first | exact Below.refl _ _ | refine Below.drew ?_ | refine below_drewN' ?_ _)) (hb6.mono (by simp))
          obtain ⟨g1, g2, g3, g4, g5, g6⟩ := HKS.out w6 W6
          have hone6 := hone.later W6
          clear hb6 W6 HKS c4 hone
          rcases hcase with t1 | ⟨t1, t2 | ⟨t2, t3⟩⟩
          all_goals (
            go_wp2
            go_quiet (fail)
            go_wp2_with (at_builtin; refine wpList_append_row rfl (.tmp 47) (.tmp 52) 56 rfl Try.ulP7 Try.infoP7 rfl (by decide) (hone6.drewN _) rfl #[.int .i64 x, .int .i64 y, .int .i64 z] rfl rfl (by simp [Value.oneCell']) (by unfold maxLen; omega) (by omega) ?_; intro a7 c7 w7 h7)
            go_roundw
            case rel => exact ⟨i + 1, k, S ++ [A[i]], by omega, hk, by go_num, rfl, a7, n' + 1, c7, rfl, by omega, HS2, by rw [HE.out]; exact h7⟩
            case measure => simp [intOf]; omega)
    · have HD := Lib.hid (HR.out.symm.trans (gmE_done HS.out HUA.out HUB.out (by have := HN.out; have := HM.out; omega)))
      obtain ⟨a2, q, f, hq, hqf, hfc, sl1, hc2⟩ := pcs_from a n c i hi hnc
      obtain ⟨b2, q', f', hq', hqf', hfc', sl2, hd2⟩ := pcs_from b m d k hk hmd
      have HC2 := Lib.hid (hc2 wr A HN.out (HA.out.below hone.below))
      have HD2 := Lib.hid (fun w' (h : Below w.heap.size w w') => hd2 w' B HM.out (HB.out.below h))
      have HL1 := Lib.hid (show (entsC (A.drop i)).length = q * 3 by rw [entsC_len, List.length_drop, hq, HN.out])
      have HL2 := Lib.hid (show (entsC (B.drop k)).length = q' * 3 by rw [entsC_len, List.length_drop, hq', HM.out])
      have q9 : q ≤ 1099511627776 := by omega
      have q9' : q' ≤ 1099511627776 := by omega
      have n9 : n' ≤ 2199023255552 := by omega
      have hcond : (decide (i < n) = true ∧ decide ((i : Int) < (n : Int)) = true ∧ decide (k < m) = false ∧ decide ((k : Int) < (m : Int)) = false) ∨ (decide (i < n) = false ∧ decide ((i : Int) < (n : Int)) = false) := by
        by_cases h : i < n
        · exact .inl ⟨decide_eq_true h, decide_eq_true (by omega), decide_eq_false (fun h2 => hik ⟨h, h2⟩), decide_eq_false (fun h2 => hik ⟨h, by omega⟩)⟩
        · exact .inr ⟨decide_eq_false h, decide_eq_false (by omega)⟩
      clear hik hc2 hd2 hq hq' hfc hfc' HS hn'
      rcases hcond with ⟨t1, t2, t3, t4⟩ | ⟨t1, t2⟩
      all_goals (
        go_wp2_with (at_builtin; first
          | (refine wpList_append_src rfl (.tmp 56) (.tmp 59) 56 rfl Try.ulP7 Try.infoP7 rfl (by decide) hone rfl a2 q f rfl (entsC (A.drop i)) HL1.out HC2.out (entsC_one _) (by unfold maxLen; omega) (by omega) ?_; intro a5 c5 w5 h5)
          | (refine wpList_append_src rfl (.tmp 61) (.tmp 64) 56 rfl Try.ulP7 Try.infoP7 rfl (by decide) h5 rfl b2 q' f' rfl (entsC (B.drop k)) HL2.out (HD2.out _ h5.below) (entsC_one _) (by unfold maxLen; omega) (by omega) ?_; intro a6 c6 w6 h6))
        go_ret
        exact ⟨_, _, _, rfl, by rw [HD.out, entsC_append, entsC_append]; exact h6⟩)

theorem implSorted7_short (l : List En) (a : Option Addr) (n c : Nat) (w : World) (h2 : n < 2) (hn : n = l.length) (hat : CellsAt w a (entsC l)) :
    Calls Try.prog 112 #[.slice a n c] w fun e w' => ∃ a' n' c', e = .returned (.slice a' n' c') ∧ One w w.heap.size w' 61 3 a' n' c' (entsC (rowE l)) := by
  have HR := Lib.hid (rowE_short (l := l) (by omega))
  have HL := Lib.hid (show (entsC l).length = n * 3 by rw [entsC_len, hn])
  have HAT := Lib.hid hat
  have z1 : (n : Int) < 2 := by omega
  clear hn hat
  go_enter Try.func112, Try.ntmps112
  go_wp2_with (at_builtin; refine wpList_append_src rfl (.tmp 9) (.tmp 10) 56 rfl Try.ulP7 Try.infoP7 rfl (by decide) (One.empty w 61 3) rfl a n c rfl (entsC l) HL.out (HAT.out.allocW _) (entsC_one _) (by unfold maxLen; omega) (by omega) ?_; intro a5 c5 w5 h5)
  go_ret
  exact ⟨_, _, _, rfl, by rw [HR.out]; simpa using h5⟩

theorem implSorted7_any (N : Nat) : ∀ (l : List En) (a : Option Addr) (n c : Nat) (w : World), n ≤ N → n = l.length → n ≤ 1099511627776 → n ≤ c → CellsAt w a (entsC l) →
    Calls Try.prog 112 #[.slice a n c] w fun e w' => ∃ a' n' c', e = .returned (.slice a' n' c') ∧ One w w.heap.size w' 61 3 a' n' c' (entsC (rowE l)) := by
  induction N with
  | zero => exact fun l a n c w hN hn _ _ hat => implSorted7_short l a n c w (by omega) hn hat
  | succ N ih =>
    intro l a n c w hN hn hn9 hnc hat
    by_cases h2 : n < 2
    · exact implSorted7_short l a n c w h2 hn hat
    obtain ⟨h, hh⟩ : ∃ h, n / 2 = h := ⟨_, rfl⟩
    have em : ((n : Nat) : Int).tdiv 2 = (h : Int) := by
      have e := Int.ofNat_tdiv n 2
      rw [hh] at e
      rw [e]; simp
    have b1 : 1 ≤ h := by omega
    have b2 : h < n := by omega
    obtain ⟨a1, sl1, hc1⟩ := pcs_upto a n c h (by omega)
    obtain ⟨a2, q, f, hq, hqf, hfc, sl2, hc2⟩ := pcs_from a n c h (by omega) hnc
    have c1 := ih (l.take h) a1 h c w (by omega) (by rw [List.length_take]; omega) (by omega) (by omega) (hc1 w l hat)
    have c2 := fun w' (hb : Below w.heap.size w w') => ih (l.drop h) a2 q f w' (by omega) (by rw [List.length_drop, hq, hn]) (by omega) hqf (hc2 w' l hn (hat.below hb))
    have HR := Lib.hid (rowE_halves l h)
    have HU1 := Lib.hid (rowE_is (l.take h)).up
    have HU2 := Lib.hid (rowE_is (l.drop h)).up
    have HL1 := Lib.hid (show (rowE (l.take h)).length ≤ 1099511627776 by have e := rowE_len (l.take h); rw [List.length_take] at e; omega)
    have HL2 := Lib.hid (show (rowE (l.drop h)).length ≤ 1099511627776 by have e := rowE_len (l.drop h); rw [List.length_drop] at e; omega)
    have z1 : ¬ (n : Int) < 2 := by omega
    have z2 : (2 : Int) ≤ (n : Int) := by omega
    clear ih hat hn hh hc1 hc2 hq hN hfc
    obtain ⟨L1, hL1⟩ : ∃ L, rowE (l.take h) = L := ⟨_, rfl⟩
    obtain ⟨L2, hL2⟩ : ∃ L, rowE (l.drop h) = L := ⟨_, rfl⟩
    rw [hL1] at c1 HU1 HL1
    rw [hL2] at c2 HU2 HL2
    rw [hL1, hL2] at HR
    clear hL1 hL2
    go_enter Try.func112, Try.ntmps112
    go_wp2_with fail
    refine c1.mono ?_
    rintro e w2 ⟨ga, na, ca, rfl, o1⟩
    have d2 := c2 w2 o1.below
    clear c1 c2
    go_wp2_with fail
    refine d2.mono ?_
    rintro e w3 ⟨gb, nb, cb, rfl, o2⟩
    have e1 := ents_len o1.own
    have e2 := ents_len o2.own
    have k1 := o1.cap.1
    have k2 := o2.cap.1
    have c3 := implJoinP_any L1 L2 ga gb na ca nb cb (rowE l) w3 e1 e2 (by have := HL1.out; omega) (by have := HL2.out; omega) k1 k2 HU1.out HU2.out HR.out (o1.later o2.below).at_ o2.at_
    have HB := Lib.hid (show Below w.heap.size w w3 from o1.below.trans (o2.below.mono o1.below.size))
    clear d2 e1 e2 k1 k2 o1 o2
    go_wp2_with fail
    refine c3.mono ?_
    rintro e w4 ⟨gc, nc, cc, rfl, o3⟩
    go_wp2
    go_ret
    exact ⟨_, _, _, rfl, o3.under HB.out HB.out.size⟩


end Go.Proofs.Ytclblnkeakkdeaa
