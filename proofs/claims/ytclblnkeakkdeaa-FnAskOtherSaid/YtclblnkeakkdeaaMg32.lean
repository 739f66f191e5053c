/-
  The contracts of the program's functions joinedEntries, sortedEntries and ShelfJoin. Condition: rows have at most 2^22 entries.
  The contract of the program's function ShelfOf. Condition: texts have at most 2^22 bytes.
  The contract of the program's function ShelfOfAll. Conditions: texts have at most 2^20 bytes together.
-/
import Derived.Test.YtclblnkeakkdeaaMg26
import Derived.Test.YtclblnkeakkdeaaMg31
import Derived.Test.YtclblnkeakkdeaaMg27
import Derived.Test.YtclblnkeakkdeaaMg21
import Derived.Test.YtclblnkeakkdeaaMg7
import Derived.Test.YtclblnkeakkdeaaMg30
namespace Go.Proofs.Ytclblnkeakkdeaa
open Go.RowKit

theorem Try.elE5 : Try.prog.underlying 23 = some (.slice (Try.prog.elem 23)) := by kernel_rfl
theorem Try.elemE5 : Try.prog.elem 23 = 31 := by kernel_rfl
theorem Try.sizeE5 (w : World) : (sizeOf (Try.prog.elem 23)).run Try.prog w = .ok 3 w := by
  obtain ⟨i, hi, hz, hsi, hby⟩ := info_parts Try.infoE5
  rw [Try.elemE5]
  simp [sizeOf, typeInfo, hi, hsi]

/-- A slice of entries from a place on, and up to one. -/
theorem ents_from (a : Option Addr) (n c i : Nat) (hi : i ≤ n) (hnc : n ≤ c) : ∃ a2 q f, q = n - i ∧ q ≤ f ∧ f ≤ c ∧ (∀ w, (Instr.slice 23 (.slice a n c) (some (.int .i64 i)) none none).run Try.prog w = .ok (.slice a2 q f) w) ∧
    ∀ (w : World) (l : List En), n = l.length → CellsAt w a (entsC l) → CellsAt w a2 (entsC (l.drop i)) := by
  refine ⟨if c = i then a else a.map (·.add (i * 3)), n - i, c - i, rfl, by omega, by omega, fun w => ?_, fun w l hn h => ?_⟩
  · have h := run_slice_l (P := Try.prog) (w := w) 23 a n c Try.elE5 .i64 (i : Int) (by omega) (by omega)
    rw [h, Try.sizeE5]
    simp [Result.andThen, sliced]
  · have h2 := h.from_ n c i 3 (by decide) (by rw [entsC_len, hn]) hnc
    rwa [entsC_drop] at h2
theorem ents_upto (a : Option Addr) (n c i : Nat) (hi : i ≤ c) : ∃ a2, (∀ w, (Instr.slice 23 (.slice a n c) none (some (.int .i64 i)) none).run Try.prog w = .ok (.slice a2 i c) w) ∧
    ∀ (w : World) (l : List En), CellsAt w a (entsC l) → CellsAt w a2 (entsC (l.take i)) := by
  refine ⟨if c = 0 then a else a.map (·.add (0 * 3)), fun w => ?_, fun w l h => ?_⟩
  · have h := run_slice_h (P := Try.prog) (w := w) 23 a n c Try.elE5 .i64 (i : Int) (by omega) (by omega)
    rw [h, Try.sizeE5]
    simp [Result.andThen, sliced]
  · have e : (if c = 0 then a else a.map (·.add (0 * 3))) = a := by
      split
      · rfl
      · cases a with
        | none => rfl
        | some p =>
          simp only [Option.map_some]
          congr 1
    rw [e, ← entsC_take]
    exact h.upTo (i * 3)

set_option maxRecDepth 4000 in
set_option maxHeartbeats 8000000 in
theorem implJoinE_any (A B : List En) (a b : Option Addr) (n c m d : Nat) (R : List En) (w : World) (hn : n = A.length) (hm : m = B.length) (hn9 : n ≤ 4194304) (hm9 : m ≤ 4194304) (hnc : n ≤ c) (hmd : m ≤ d)
    (hA : A.Pairwise enLt) (hB : B.Pairwise enLt) (hR : rowE (A ++ B) = R) (hatA : CellsAt w a (entsC A)) (hatB : CellsAt w b (entsC B)) :
    Calls Try.prog 119 #[.slice a n c, .slice b m d] w fun e w' => ∃ a' n' c', e = .returned (.slice a' n' c') ∧ One w w.heap.size w' 31 3 a' n' c' (entsC R) := by
  have HR := Lib.hid hR
  have HN := Lib.hid hn
  have HM := Lib.hid hm
  have HA := Lib.hid hatA
  have HB := Lib.hid hatB
  have HUA := Lib.hid hA
  have HUB := Lib.hid hB
  have hone0 : One w w.heap.size w 31 3 none 0 0 (entsC []) := One.nil w 31 3
  clear hn hm hatA hatB hA hB hR
  go_enter Try.func119, Try.ntmps119
  go_wp2
  go_loopw [5, 6, 7] (fun o_ i_ k_ wr => ∃ (i k : Nat) (S : List En), i ≤ n ∧ k ≤ m ∧ i_ = .int .i64 i ∧ k_ = .int .i64 k ∧ ∃ a' n' c', o_ = .slice a' n' c' ∧ n' ≤ i + k ∧ Hid (GM enLt A B i k S) ∧ One w w.heap.size wr 31 3 a' n' c' (entsC S)) (fun _ i_ k_ _ => n + m - ((intOf i_).toNat + (intOf k_).toNat))
  case atStart => exact ⟨0, 0, [], Nat.zero_le _, Nat.zero_le _, rfl, rfl, _, _, _, rfl, Nat.zero_le _, Lib.hid (gm_start enLt A B), hone0⟩
  case round =>
    clear hone0
    obtain ⟨i, k, S, hi, hk, rfl, rfl, a', n', c', rfl, hn', HS, hone⟩ := hrel
    by_cases hik : i < n ∧ k < m
    · obtain ⟨hin, hkm⟩ := hik
      have hiA : i < A.length := by have := HN.out; omega
      have hkB : k < B.length := by have := HM.out; omega
      obtain ⟨x, hx⟩ : ∃ x, A[i].1 = x := ⟨_, rfl⟩
      obtain ⟨y, hy⟩ : ∃ y, A[i].2.1 = y := ⟨_, rfl⟩
      obtain ⟨z, hz⟩ : ∃ z, A[i].2.2 = z := ⟨_, rfl⟩
      have hma : A[i] = (x, y, z) := by rw [← hx, ← hy, ← hz]
      obtain ⟨ab, ao, rfl, hab, g1, g2, g3⟩ := ent_cells (HA.out.below hone.below) hiA hma
      have HMA := Lib.hid hma
      have z1 : (i : Int) < (n : Int) := by omega
      have z2 : (0 : Int) ≤ (i : Int) := by omega
      clear hx hy hz hma
      obtain ⟨x', hx⟩ : ∃ x, B[k].1 = x := ⟨_, rfl⟩
      obtain ⟨y', hy⟩ : ∃ y, B[k].2.1 = y := ⟨_, rfl⟩
      obtain ⟨z', hz⟩ : ∃ z, B[k].2.2 = z := ⟨_, rfl⟩
      have hmb : B[k] = (x', y', z') := by rw [← hx, ← hy, ← hz]
      obtain ⟨bb, bo, rfl, hbb, g4, g5, g6⟩ := ent_cells (HB.out.below hone.below) hkB hmb
      have HKS := Lib.hid (show ∀ w', Below wr.heap.size wr w' → w'.cell? ⟨ab, ao + i * 3, none⟩ = some (.int .i64 x) ∧ w'.cell? ⟨ab, ao + i * 3 + 1, none⟩ = some (.int .i64 y) ∧ w'.cell? ⟨ab, ao + i * 3 + 2, none⟩ = some (.int .i64 z) ∧ w'.cell? ⟨bb, bo + k * 3, none⟩ = some (.int .i64 x') ∧ w'.cell? ⟨bb, bo + k * 3 + 1, none⟩ = some (.int .i64 y') ∧ w'.cell? ⟨bb, bo + k * 3 + 2, none⟩ = some (.int .i64 z') from fun w' h => ⟨below_ents h hab g1, below_ents h hab g2, below_ents h hab g3, below_ents h hbb g4, below_ents h hbb g5, below_ents h hbb g6⟩)
      have z3 : (k : Int) < (m : Int) := by omega
      have z4 : (0 : Int) ≤ (k : Int) := by omega
      have t5 : decide (i < n) = true := decide_eq_true hin
      have t6 : decide ((i : Int) < (n : Int)) = true := decide_eq_true (by omega)
      have t7 : decide (k < m) = true := decide_eq_true hkm
      have t8 : decide ((k : Int) < (m : Int)) = true := decide_eq_true (by omega)
      have HMB := Lib.hid hmb
      clear hx hy hz hmb
      by_cases hlt : enLt (x', y', z') (x, y, z)
      · have c4 := fun w => implLess_is true x' y' z' x y z w ⟨fun _ => hlt, fun _ => rfl⟩
        have HS2 := Lib.hid (GM.takeB (r := enLt) (fun _ _ _ => enLt_trans) HS.out HUB.out hkB (fun h => by rw [HMA.out, HMB.out]; exact hlt))
        have HE := Lib.hid (show entsC (S ++ [B[k]]) = entsC S ++ [.int .i64 x', .int .i64 y', .int .i64 z'] by rw [HMB.out, entsC_snoc])
        clear hlt HS
        go_wp2
        go_region_held3 (fun w' => w'.cell? ⟨ab, ao + i * 3, none⟩ = some (.int .i64 x) ∧ w'.cell? ⟨ab, ao + i * 3 + 1, none⟩ = some (.int .i64 y) ∧ w'.cell? ⟨ab, ao + i * 3 + 2, none⟩ = some (.int .i64 z) ∧ w'.cell? ⟨bb, bo + k * 3, none⟩ = some (.int .i64 x') ∧ w'.cell? ⟨bb, bo + k * 3 + 1, none⟩ = some (.int .i64 y') ∧ w'.cell? ⟨bb, bo + k * 3 + 2, none⟩ = some (.int .i64 z')) (first | go_keep | exact HKS.out _ (Below.trans (by repeat (first | exact Below.refl _ _ | refine Below.drew ?_ | refine below_drewN' ?_ _)) (hb6.mono (by simp))))
          ((go_at_call 69; refine (c4 _).mono ?_; rintro e w6 ⟨rfl, hb6⟩))
        go_wp2_with (at_builtin; refine wpList_append_row rfl (.tmp 27) (.tmp 32) 23 rfl Try.ulE5 Try.infoE5 rfl (by decide) (hone.later (Below.trans (by repeat (first | exact Below.refl _ _ | refine Below.drew ?_ | refine below_drewN' ?_ _)) (hb6.mono (by simp)))) rfl #[.int .i64 x', .int .i64 y', .int .i64 z'] rfl rfl (by simp [Value.oneCell']) (by unfold maxLen; omega) (by omega) ?_; intro a7 c7 w7 h7)
        go_roundw
        case rel => exact ⟨i, k + 1, S ++ [B[k]], hi, by omega, rfl, by go_num, a7, n' + 1, c7, rfl, by omega, HS2, by rw [HE.out]; exact h7⟩
        case measure => simp [intOf]; omega
      · have c4 := fun w => implLess_is false x' y' z' x y z w ⟨(fun h => absurd h (by decide)), (fun h => absurd h hlt)⟩
        have HE := Lib.hid (show entsC (S ++ [A[i]]) = entsC S ++ [.int .i64 x, .int .i64 y, .int .i64 z] by rw [HMA.out, entsC_snoc])
        by_cases he : (x, y, z) = (x', y', z')
        · have HS2 := Lib.hid (GM.both (r := enLt) (fun _ _ _ => enLt_trans) HS.out HUA.out HUB.out hiA hkB (by rw [HMA.out, HMB.out]; exact he))
          simp only [Prod.mk.injEq] at he
          obtain ⟨rfl, rfl, rfl⟩ := he
          have tx : (x == x) = true := beq_self_eq_true _
          have ty : (y == y) = true := beq_self_eq_true _
          have tz : (z == z) = true := beq_self_eq_true _
          clear hlt HS HMA HMB
          go_wp2
          go_region_held3 (fun w' => w'.cell? ⟨ab, ao + i * 3, none⟩ = some (.int .i64 x) ∧ w'.cell? ⟨ab, ao + i * 3 + 1, none⟩ = some (.int .i64 y) ∧ w'.cell? ⟨ab, ao + i * 3 + 2, none⟩ = some (.int .i64 z) ∧ w'.cell? ⟨bb, bo + k * 3, none⟩ = some (.int .i64 x) ∧ w'.cell? ⟨bb, bo + k * 3 + 1, none⟩ = some (.int .i64 y) ∧ w'.cell? ⟨bb, bo + k * 3 + 2, none⟩ = some (.int .i64 z)) (first | go_keep | exact HKS.out _ (Below.trans (by repeat (first | exact Below.refl _ _ | refine Below.drew ?_ | refine below_drewN' ?_ _)) (hb6.mono (by simp))))
            ((go_at_call 69; refine (c4 _).mono ?_; rintro e w6 ⟨rfl, hb6⟩))
          have W6 : Below wr.heap.size wr w6 := Below.trans (by repeat (first | exact Below.refl _ _ | refine Below.drew ?_ | refine below_drewN' ?_ _)) (hb6.mono (by simp))
          obtain ⟨g1, g2, g3, g4, g5, g6⟩ := HKS.out w6 W6
          have hone6 := hone.later W6
          clear hb6 W6 HKS c4 hone
          go_wp2
          go_quiet (fail)
          go_wp2_with (at_builtin; refine wpList_append_row rfl (.tmp 47) (.tmp 52) 23 rfl Try.ulE5 Try.infoE5 rfl (by decide) (hone6.drewN _) rfl #[.int .i64 x, .int .i64 y, .int .i64 z] rfl rfl (by simp [Value.oneCell']) (by unfold maxLen; omega) (by omega) ?_; intro a7 c7 w7 h7)
          go_roundw
          case rel => exact ⟨i + 1, k + 1, S ++ [A[i]], by omega, by omega, by go_num, by go_num, a7, n' + 1, c7, rfl, by omega, HS2, by rw [HE.out]; exact h7⟩
          case measure => simp [intOf]; omega
        · have HS2 := Lib.hid (GM.takeA (r := enLt) (fun _ _ _ => enLt_trans) HS.out HUA.out hiA (fun h => by
            rw [HMA.out, HMB.out]
            rcases enLt_three (x, y, z) (x', y', z') with h | h | h
            · exact h
            · exact absurd h he
            · exact absurd h hlt))
          have hcase : (x == x') = false ∨ (x == x') = true ∧ ((y == y') = false ∨ (y == y') = true ∧ (z == z') = false) := by
            by_cases h1 : x = x'
            · by_cases h2 : y = y'
              · by_cases h3 : z = z'
                · exact absurd (by rw [h1, h2, h3]) he
                · exact .inr ⟨by simpa using h1, .inr ⟨by simpa using h2, by simpa using h3⟩⟩
              · exact .inr ⟨by simpa using h1, .inl (by simpa using h2)⟩
            · exact .inl (by simpa using h1)
          clear hlt HS he
          go_wp2
          go_region_held3 (fun w' => w'.cell? ⟨ab, ao + i * 3, none⟩ = some (.int .i64 x) ∧ w'.cell? ⟨ab, ao + i * 3 + 1, none⟩ = some (.int .i64 y) ∧ w'.cell? ⟨ab, ao + i * 3 + 2, none⟩ = some (.int .i64 z) ∧ w'.cell? ⟨bb, bo + k * 3, none⟩ = some (.int .i64 x') ∧ w'.cell? ⟨bb, bo + k * 3 + 1, none⟩ = some (.int .i64 y') ∧ w'.cell? ⟨bb, bo + k * 3 + 2, none⟩ = some (.int .i64 z')) (first | go_keep | exact HKS.out _ (Below.trans (by repeat (first | exact Below.refl _ _ | refine Below.drew ?_ | refine below_drewN' ?_ _)) (hb6.mono (by simp))))
            ((go_at_call 69; refine (c4 _).mono ?_; rintro e w6 ⟨rfl, hb6⟩))
          have W6 : Below wr.heap.size wr w6 := Below.trans (by repeat (first | exact Below.refl _ _ | refine Below.drew ?_ | refine below_drewN' ?_ _)) (hb6.mono (by simp))
          obtain ⟨g1, g2, g3, g4, g5, g6⟩ := HKS.out w6 W6
          have hone6 := hone.later W6
          clear hb6 W6 HKS c4 hone
          rcases hcase with t1 | ⟨t1, t2 | ⟨t2, t3⟩⟩
          all_goals (
            go_wp2
            go_quiet (fail)
            go_wp2_with (at_builtin; refine wpList_append_row rfl (.tmp 47) (.tmp 52) 23 rfl Try.ulE5 Try.infoE5 rfl (by decide) (hone6.drewN _) rfl #[.int .i64 x, .int .i64 y, .int .i64 z] rfl rfl (by simp [Value.oneCell']) (by unfold maxLen; omega) (by omega) ?_; intro a7 c7 w7 h7)
            go_roundw
            case rel => exact ⟨i + 1, k, S ++ [A[i]], by omega, hk, by go_num, rfl, a7, n' + 1, c7, rfl, by omega, HS2, by rw [HE.out]; exact h7⟩
            case measure => simp [intOf]; omega)
    · have HD := Lib.hid (HR.out.symm.trans (gmE_done HS.out HUA.out HUB.out (by have := HN.out; have := HM.out; omega)))
      obtain ⟨a2, q, f, hq, hqf, hfc, sl1, hc2⟩ := ents_from a n c i hi hnc
      obtain ⟨b2, q', f', hq', hqf', hfc', sl2, hd2⟩ := ents_from b m d k hk hmd
      have HC2 := Lib.hid (hc2 wr A HN.out (HA.out.below hone.below))
      have HD2 := Lib.hid (fun w' (h : Below w.heap.size w w') => hd2 w' B HM.out (HB.out.below h))
      have HL1 := Lib.hid (show (entsC (A.drop i)).length = q * 3 by rw [entsC_len, List.length_drop, hq, HN.out])
      have HL2 := Lib.hid (show (entsC (B.drop k)).length = q' * 3 by rw [entsC_len, List.length_drop, hq', HM.out])
      have q9 : q ≤ 4194304 := by omega
      have q9' : q' ≤ 4194304 := by omega
      have n9 : n' ≤ 8388608 := by omega
      have hcond : (decide (i < n) = true ∧ decide ((i : Int) < (n : Int)) = true ∧ decide (k < m) = false ∧ decide ((k : Int) < (m : Int)) = false) ∨ (decide (i < n) = false ∧ decide ((i : Int) < (n : Int)) = false) := by
        by_cases h : i < n
        · exact .inl ⟨decide_eq_true h, decide_eq_true (by omega), decide_eq_false (fun h2 => hik ⟨h, h2⟩), decide_eq_false (fun h2 => hik ⟨h, by omega⟩)⟩
        · exact .inr ⟨decide_eq_false h, decide_eq_false (by omega)⟩
      clear hik hc2 hd2 hq hq' hfc hfc' HS hn'
      rcases hcond with ⟨t1, t2, t3, t4⟩ | ⟨t1, t2⟩
      all_goals (
        go_wp2_with (at_builtin; first
          | (refine wpList_append_src rfl (.tmp 56) (.tmp 59) 23 rfl Try.ulE5 Try.infoE5 rfl (by decide) hone rfl a2 q f rfl (entsC (A.drop i)) HL1.out HC2.out (entsC_one _) (by unfold maxLen; omega) (by omega) ?_; intro a5 c5 w5 h5)
          | (refine wpList_append_src rfl (.tmp 61) (.tmp 64) 23 rfl Try.ulE5 Try.infoE5 rfl (by decide) h5 rfl b2 q' f' rfl (entsC (B.drop k)) HL2.out (HD2.out _ h5.below) (entsC_one _) (by unfold maxLen; omega) (by omega) ?_; intro a6 c6 w6 h6))
        go_ret
        exact ⟨_, _, _, rfl, by rw [HD.out, entsC_append, entsC_append]; exact h6⟩)

theorem implSorted_short (l : List En) (a : Option Addr) (n c : Nat) (w : World) (h2 : n < 2) (hn : n = l.length) (hat : CellsAt w a (entsC l)) :
    Calls Try.prog 92 #[.slice a n c] w fun e w' => ∃ a' n' c', e = .returned (.slice a' n' c') ∧ One w w.heap.size w' 31 3 a' n' c' (entsC (rowE l)) := by
  have HR := Lib.hid (rowE_short (l := l) (by omega))
  have HL := Lib.hid (show (entsC l).length = n * 3 by rw [entsC_len, hn])
  have HAT := Lib.hid hat
  have z1 : (n : Int) < 2 := by omega
  clear hn hat
  go_enter Try.func92, Try.ntmps92
  go_wp2_with (at_builtin; refine wpList_append_src rfl (.tmp 9) (.tmp 10) 23 rfl Try.ulE5 Try.infoE5 rfl (by decide) (One.empty w 31 3) rfl a n c rfl (entsC l) HL.out (HAT.out.allocW _) (entsC_one _) (by unfold maxLen; omega) (by omega) ?_; intro a5 c5 w5 h5)
  go_ret
  exact ⟨_, _, _, rfl, by rw [HR.out]; simpa using h5⟩

theorem implSorted_any (N : Nat) : ∀ (l : List En) (a : Option Addr) (n c : Nat) (w : World), n ≤ N → n = l.length → n ≤ 4194304 → n ≤ c → CellsAt w a (entsC l) →
    Calls Try.prog 92 #[.slice a n c] w fun e w' => ∃ a' n' c', e = .returned (.slice a' n' c') ∧ One w w.heap.size w' 31 3 a' n' c' (entsC (rowE l)) := by
  induction N with
  | zero => exact fun l a n c w hN hn _ _ hat => implSorted_short l a n c w (by omega) hn hat
  | succ N ih =>
    intro l a n c w hN hn hn9 hnc hat
    by_cases h2 : n < 2
    · exact implSorted_short l a n c w h2 hn hat
    obtain ⟨h, hh⟩ : ∃ h, n / 2 = h := ⟨_, rfl⟩
    have em : ((n : Nat) : Int).tdiv 2 = (h : Int) := by
      have e := Int.ofNat_tdiv n 2
      rw [hh] at e
      rw [e]; simp
    have b1 : 1 ≤ h := by omega
    have b2 : h < n := by omega
    obtain ⟨a1, sl1, hc1⟩ := ents_upto a n c h (by omega)
    obtain ⟨a2, q, f, hq, hqf, hfc, sl2, hc2⟩ := ents_from a n c h (by omega) hnc
    have c1 := ih (l.take h) a1 h c w (by omega) (by rw [List.length_take]; omega) (by omega) (by omega) (hc1 w l hat)
    have c2 := fun w' (hb : Below w.heap.size w w') => ih (l.drop h) a2 q f w' (by omega) (by rw [List.length_drop, hq, hn]) (by omega) hqf (hc2 w' l hn (hat.below hb))
    have HR := Lib.hid (rowE_halves l h)
    have HU1 := Lib.hid (rowE_is (l.take h)).up
    have HU2 := Lib.hid (rowE_is (l.drop h)).up
    have HL1 := Lib.hid (show (rowE (l.take h)).length ≤ 4194304 by have e := rowE_len (l.take h); rw [List.length_take] at e; omega)
    have HL2 := Lib.hid (show (rowE (l.drop h)).length ≤ 4194304 by have e := rowE_len (l.drop h); rw [List.length_drop] at e; omega)
    have z1 : ¬ (n : Int) < 2 := by omega
    have z2 : (2 : Int) ≤ (n : Int) := by omega
    clear ih hat hn hh hc1 hc2 hq hN hfc
    obtain ⟨L1, hL1⟩ : ∃ L, rowE (l.take h) = L := ⟨_, rfl⟩
    obtain ⟨L2, hL2⟩ : ∃ L, rowE (l.drop h) = L := ⟨_, rfl⟩
    rw [hL1] at c1 HU1 HL1
    rw [hL2] at c2 HU2 HL2
    rw [hL1, hL2] at HR
    clear hL1 hL2
    go_enter Try.func92, Try.ntmps92
    go_wp2_with fail
    refine c1.mono ?_
    rintro e w2 ⟨ga, na, ca, rfl, o1⟩
    have d2 := c2 w2 o1.below
    clear c1 c2
    go_wp2_with fail
    refine d2.mono ?_
    rintro e w3 ⟨gb, nb, cb, rfl, o2⟩
    have e1 := ents_len o1.own
    have e2 := ents_len o2.own
    have k1 := o1.cap.1
    have k2 := o2.cap.1
    have c3 := implJoinE_any L1 L2 ga gb na ca nb cb (rowE l) w3 e1 e2 (by have := HL1.out; omega) (by have := HL2.out; omega) k1 k2 HU1.out HU2.out HR.out (o1.later o2.below).at_ o2.at_
    have HB := Lib.hid (show Below w.heap.size w w3 from o1.below.trans (o2.below.mono o1.below.size))
    clear d2 e1 e2 k1 k2 o1 o2
    go_wp2_with fail
    refine c3.mono ?_
    rintro e w4 ⟨gc, nc, cc, rfl, o3⟩
    go_wp2
    go_ret
    exact ⟨_, _, _, rfl, o3.under HB.out HB.out.size⟩


end Go.Proofs.Ytclblnkeakkdeaa

namespace Go.Proofs.Ytclblnkeakkdeaa
open Go.RowKit

/-- The elements of a slice are appended to a row of the call's own; what lies in other blocks stays. -/
theorem wpList_append_srcG {P : Program} {W w0 : World} {ops : Array Oper} {rest : List Oper} {o : Oper} {act : Act} {Q : Exit → Act → World → Prop} {B : Nat} {e1 : TypeId} {s1 : Nat} {a1 : Option Addr} {n1 c1 : Nat} {xs1 : List Value}
    (hgd : o.guard = none) (s x : Operand) (t : TypeId) (ho : o.op = .call { callee := .builtin .append, args := #[s, x], argTypes := #[t, t] })
    {z : Value} {bytes : Nat} (ht : P.underlying t = some (.slice e1)) (hinfo : (P.info? e1).map (fun i => (i.zero, i.size, i.bytes)) = some (some z, s1, bytes)) (hzs : z.cells.size = s1) (hsz : 0 < s1)
    (h2 : One W B w0 e1 s1 a1 n1 c1 xs1) (hs : act.eval s = .slice a1 n1 c1) (A : Option Addr) (m c : Nat) (hx : act.eval x = .slice A m c) (news : List Value) (hm : news.length = m * s1) (hat : CellsAt w0 A news) (h1 : ∀ u ∈ news, u.oneCell' = true)
    (h63 : n1 + m ≤ maxLen) (hbytes : (n1 + m) * bytes ≤ 140737488355328)
    (h : ∀ ad' cap' w', One W B w' e1 s1 ad' (n1 + m) cap' (xs1 ++ news) → w0.grownBy w' (Value.ownBlock (.slice a1 n1 c1)) → wpList P ops Q rest (act.put o.dst (.slice ad' (n1 + m) cap')) w') : wpList P ops Q (o :: rest) act w0 :=
  wpList_plain hgd fun _ hK => wp_append_src s x t ho ht hinfo hzs hsz h2 hs A m c hx news hm hat h1 h63 hbytes fun ad' cap' w' h3 h4 => hK _ _ (h ad' cap' w' h3 h4)

set_option maxRecDepth 4000 in
set_option maxHeartbeats 8000000 in
theorem implShelfOf_any (d : Int) (s : ByteArray) (k v : Int) (M : List (Int × Int)) (w : World) (hM : marksL s.data.toList k v = M) (hs : s.size ≤ 4194304) (hv9 : v ≤ 9223372036854775807) :
    Calls Try.prog 52 #[.int .i64 d, .string s, .int .i64 k, .int .i64 v] w fun e w' => ∃ a n c, e = .returned (.slice a n c) ∧ One w w.heap.size w' 31 3 a n c (entsC (shelfL d M)) := by
  by_cases hd : d < 0
  · rw [shelfL_not hd]
    go_enter Try.func52, Try.ntmps52
    go_wp2
    go_ret
    exact ⟨_, _, _, rfl, One.nil w 31 3⟩
  have hMl : M.length ≤ 4194304 := by
    rw [← hM, marksL, List.length_map]
    have h1 := chosenN_len (printsL s.data.toList k) v
    have h2 := printsN_room s.data.toList k
    have : s.data.toList.length = s.size := rfl
    unfold marksAt
    omega
  have c1 := fun w => implMarks_any s k v M w hM hs hv9
  have HR := Lib.hid (shelfL_ok hd M)
  have HMl := Lib.hid hMl
  have hd2 : (0 : Int) ≤ d := by omega
  clear hM hMl hd
  go_enter Try.func52, Try.ntmps52
  go_wp2_with fail
  refine (c1 _).mono ?_
  rintro e w2 ⟨ma, mn, mc, rfl, h2⟩
  have HMN := Lib.hid (pairs_len h2.own)
  have hmn9 : mn ≤ 4194304 := by have := HMN.out; have := HMl.out; omega
  have hone0 : One w w.heap.size w2 31 3 none 0 0 (entsC ((M.take 0).map fun m => (m.1, d, m.2))) := (One.nil w 31 3).later h2.below
  have hm0 := h2.own
  clear h2 c1
  go_wp2
  go_loopw [9, 19] (fun o_ i_ wr => ∃ i : Nat, i ≤ mn ∧ i_ = .int .i64 i ∧ ∃ a c, o_ = .slice a i c ∧ One w w.heap.size wr 31 3 a i c (entsC ((M.take i).map fun m => (m.1, d, m.2))) ∧ wr.ownsRow w.heap.size 46 2 (.slice ma mn mc) mn (pairsC M)) (fun _ i_ _ => mn - (intOf i_).toNat)
  case atStart => exact ⟨0, Nat.zero_le _, rfl, _, _, rfl, hone0, hm0⟩
  case round =>
    clear hone0 hm0
    obtain ⟨i, hi, rfl, a, c, rfl, hone, hmr⟩ := hrel
    by_cases hlt : i < mn
    · have hiM : i < M.length := by have := HMN.out; omega
      obtain ⟨p, hp⟩ : ∃ p, M[i].1 = p := ⟨_, rfl⟩
      obtain ⟨x, hx⟩ : ∃ x, M[i].2 = x := ⟨_, rfl⟩
      have hm : M[i] = (p, x) := by rw [← hp, ← hx]
      obtain ⟨mb, mo, rfl, hmb, g1, g2⟩ := pair_at5 (cellsAt_own hmr) hiM hm
      have HS := Lib.hid (show entsC ((M.take (i + 1)).map fun m => (m.1, d, m.2)) = entsC ((M.take i).map fun m => (m.1, d, m.2)) ++ [.int .i64 p, .int .i64 d, .int .i64 x] by
        rw [List.take_succ_eq_append_getElem hiM, List.map_append, hm]
        exact entsC_snoc _ _)
      have z1 : (i : Int) < (mn : Int) := by omega
      have z2 : (0 : Int) ≤ (i : Int) := by omega
      clear hp hx hm
      go_wp2_with (at_builtin; refine wpList_append_srcG rfl (.tmp 23) (.tmp 30) 23 rfl Try.ulE5 Try.infoE5 rfl (by decide) ((hone.alloc _).alloc _) rfl (some ⟨wr.heap.size + 1, 0, none⟩) 1 1 rfl [.int .i64 p, .int .i64 d, .int .i64 x] rfl (cellsAt_rec3 _ _ _ _ _ _ (by simp)) (by simp [Value.oneCell']) (by unfold maxLen; omega) (by omega) ?_; intro a5 c5 w5 h5 g5)
      go_roundw
      case rel => exact ⟨i + 1, by omega, by go_num, a5, c5, rfl, by rw [HS.out]; exact h5, ownsRow_kept_apart ((hmr.alloc _).alloc _) ((hone.alloc _).alloc _).own (by decide) g5⟩
      case measure => simp [intOf]; omega
    · have hO : One w w.heap.size wr 31 3 a i c (entsC (M.map fun m => (m.1, d, m.2))) := by
        have h := hone
        rwa [List.take_of_length_le (by have := HMN.out; omega)] at h
      have c3 := implSorted_any i (M.map fun m => (m.1, d, m.2)) a i c wr (Nat.le_refl _) (ents_len hO.own) (by omega) hO.cap.1 hO.at_
      have HB := Lib.hid hO.below
      clear hone hmr hO
      go_wp2_with fail
      refine c3.mono ?_
      rintro e w4 ⟨a', n', c', rfl, h4⟩
      go_wp2
      go_ret
      exact ⟨_, _, _, rfl, by rw [HR.out]; exact h4.under HB.out HB.out.size⟩

end Go.Proofs.Ytclblnkeakkdeaa

namespace Go.Proofs.Ytclblnkeakkdeaa
open Go.RowKit

theorem sofTo_len (D : List ByteArray) (k w : Int) (m : Nat) (hm : m ≤ D.length) : (sofTo D k w m).length ≤ totalS (D.take m) := by
  induction m with
  | zero => exact Nat.zero_le _
  | succ m ih =>
    rw [sofTo_next, List.length_append, totalS_take D m (by omega), docAt_get (by omega)]
    have h1 := mkL_len D[m] k w
    have h2 := ih (by omega)
    have h3 := rowE_len (entsOf m (mkL D[m] k w))
    rw [entsOf, List.length_map] at h3
    rw [entsOf]
    omega

set_option maxHeartbeats 8000000 in
theorem implAll_any (D : List ByteArray) (a : Option Addr) (n c : Nat) (k v : Int) (R : List En) (w : World) (hR : allN D k v D.length = R) (hn : n = D.length) (hn9 : n ≤ 1048576) (hT : totalS D ≤ 1048576) (hv9 : v ≤ 9223372036854775807) (hat : CellsAt w a (strsC D)) :
    Calls Try.prog 50 #[.slice a n c, .int .i64 k, .int .i64 v] w fun e w' => ∃ a' n' c', e = .returned (.slice a' n' c') ∧ One w w.heap.size w' 31 3 a' n' c' (entsC R) := by
  subst hR
  have HN := Lib.hid hn
  have HAT := Lib.hid hat
  clear hn hat
  go_enter Try.func50, Try.ntmps50
  go_wp2
  go_loopw [7, 11] (fun u i_ wr => ∃ (i m d : Nat) (a' : Option Addr), i ≤ n ∧ i_ = .int .i64 (i : Int) ∧ u = .slice a' m d ∧ Hid (One w w.heap.size wr 31 3 a' m d (entsC (sofTo D k v i)))) (fun _ i_ _ => n - (intOf i_).toNat)
  case atStart => exact ⟨0, _, _, _, Nat.zero_le _, rfl, rfl, Lib.hid (One.nil w 31 3)⟩
  case round =>
    obtain ⟨i, m, d, a', hi, rfl, rfl, HO⟩ := hrel
    have hm9 : m ≤ 1048576 := by
      have h1 := ents_len HO.out.own
      have h2 := sofTo_len D k v i (by have := HN.out; omega)
      have h3 := totalS_take_le D i
      omega
    by_cases hlt : i < n
    · have hil : i < D.length := by have := HN.out; omega
      obtain ⟨b, o, rfl, hb9, hc⟩ := (HAT.out.below HO.out.below).str (fun e => by rw [e] at hil; simp at hil)
      obtain ⟨s, hs⟩ : ∃ s, D[i] = s := ⟨_, rfl⟩
      have e1 := hc i hil
      rw [hs] at e1
      have hsz : s.size ≤ 1048576 := by have h1 := totalS_get D i hil; rw [hs] at h1; omega
      have z1 : (i : Int) < (n : Int) := by omega
      have z0 : (0 : Int) ≤ (i : Int) := by omega
      obtain ⟨M, hM⟩ : ∃ M, mkL s k v = M := ⟨_, rfl⟩
      have hMl : M.length ≤ 1048576 := by rw [← hM]; exact Nat.le_trans (mkL_len s k v) hsz
      have c1 := fun w => implShelfOf_any (i : Int) s k v M w hM (by omega) hv9
      have hEl : (shelfL (i : Int) M).length ≤ 1048576 := by
        rw [shelfL, if_neg (by omega)]
        have h := rowE_len (M.map fun m => (m.1, (i : Int), m.2))
        rw [List.length_map] at h
        omega
      have HNEXT := Lib.hid (show entsC (sofTo D k v (i + 1)) = entsC (sofTo D k v i) ++ entsC (shelfL (i : Int) M) by
        rw [sofTo_next, docAt_get hil, hs, hM, entsC_append, shelfL, if_neg (by omega)]
        rfl)
      clear hM hs hc
      go_wp2_with fail
      refine (c1 _).mono ?_
      rintro e w2 ⟨a2, n2, d2, rfl, o2⟩
      have HL2 := Lib.hid (show (entsC (shelfL (i : Int) M)).length = n2 * 3 by rw [entsC_len, ← ents_len o2.own])
      have HC2 := Lib.hid o2.at_
      have hn2 : n2 ≤ 1048576 := by have := ents_len o2.own; omega
      have HO2 := Lib.hid (HO.out.later o2.below)
      clear c1 o2 HO hEl
      go_wp2_with (at_builtin; refine wpList_append_src rfl (.tmp 14) (.tmp 22) 23 rfl Try.ulE5 Try.infoE5 rfl (by decide) HO2.out rfl a2 n2 d2 rfl (entsC (shelfL (i : Int) M)) HL2.out HC2.out (entsC_one _) (by unfold maxLen; omega) (by omega) ?_; intro a5 c5 w5 h5)
      go_roundw
      case rel => exact ⟨i + 1, m + n2, c5, a5, by omega, by go_num, rfl, Lib.hid (by rw [HNEXT.out]; exact h5)⟩
      case measure => simp [intOf]; omega
    · have hin : i = D.length := by have := HN.out; omega
      have HE := Lib.hid (show rowE (sofTo D k v i) = allN D k v D.length by rw [hin]; exact sofTo_row D k v D.length)
      have c5 := implSorted_any m (sofTo D k v i) a' m d wr (Nat.le_refl _) (ents_len HO.out.own) (by omega) HO.out.cap.1 HO.out.at_
      have HB := Lib.hid HO.out.below
      clear hin
      go_wp2_with fail
      refine c5.mono ?_
      rintro e w6 ⟨a6, n6, c6, rfl, o6⟩
      go_wp2
      go_ret
      exact ⟨_, _, _, rfl, by rw [← HE.out]; exact o6.under HB.out HB.out.size⟩

end Go.Proofs.Ytclblnkeakkdeaa
