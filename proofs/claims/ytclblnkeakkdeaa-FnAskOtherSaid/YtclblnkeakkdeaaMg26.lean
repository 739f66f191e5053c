/-
  The contract of the model's function ShelfJoin. Condition: rows have at most 2^21 entries.
-/
import Derived.Test.YtclblnkeakkdeaaMg25
namespace Go.Proofs.Ytclblnkeakkdeaa
open Go.RowKit

open Classical in
/-- All entries of two shelves, each once. -/
noncomputable def joinL5 (a b : List En) : List En := if shOk a ∧ shOk b then rowE (a ++ b) else []
theorem joinL5_ok {a b : List En} (h : shOk a) (k : shOk b) : joinL5 a b = rowE (a ++ b) := by rw [joinL5, if_pos ⟨h, k⟩]
theorem joinL5_not {a b : List En} (h : ¬ (shOk a ∧ shOk b)) : joinL5 a b = [] := by rw [joinL5, if_neg h]

/-- Where a merge of two rows stands. -/
structure Merge (A B : List En) (i k : Nat) (S : List En) : Prop where
  up : S.Pairwise enLt
  mem : ∀ x, x ∈ S ↔ x ∈ A.take i ∨ x ∈ B.take k
  lo : ∀ x ∈ S, ∀ h : i < A.length, enLt x A[i]
  hi : ∀ x ∈ S, ∀ h : k < B.length, enLt x B[k]

theorem Merge.start (A B : List En) : Merge A B 0 0 [] := ⟨.nil, by intro x; simp, by intro x hx; simp at hx, by intro x hx; simp at hx⟩
theorem Merge.turn {A B : List En} {i k : Nat} {S : List En} (h : Merge A B i k S) : Merge B A k i S := ⟨h.up, fun x => (h.mem x).trans or_comm, h.hi, h.lo⟩
theorem up_at {A : List En} (hA : A.Pairwise enLt) {i j : Nat} (hij : i < j) (hj : j < A.length) : enLt (A[i]'(by omega)) A[j] := List.pairwise_iff_getElem.1 hA i j (by omega) hj hij
theorem Merge.takeA {A B : List En} {i k : Nat} {S : List En} (h : Merge A B i k S) (hA : A.Pairwise enLt) (hi : i < A.length) (hk : ∀ h : k < B.length, enLt A[i] B[k]) : Merge A B (i + 1) k (S ++ [A[i]]) := by
  refine ⟨?_, fun x => ?_, fun x hx h2 => ?_, fun x hx h2 => ?_⟩
  · rw [List.pairwise_append]
    refine ⟨h.up, List.pairwise_singleton _ _, fun x hx y hy => ?_⟩
    obtain rfl := List.mem_singleton.1 hy
    exact h.lo x hx hi
  · rw [List.mem_append, h.mem, List.mem_singleton, List.take_succ_eq_append_getElem hi, List.mem_append, List.mem_singleton]
    constructor
    · rintro ((h1 | h1) | h1)
      · exact .inl (.inl h1)
      · exact .inr h1
      · exact .inl (.inr h1)
    · rintro ((h1 | h1) | h1)
      · exact .inl (.inl h1)
      · exact .inr h1
      · exact .inl (.inr h1)
  · rcases List.mem_append.1 hx with h1 | h1
    · exact enLt_trans (h.lo x h1 hi) (up_at hA (by omega) h2)
    · obtain rfl := List.mem_singleton.1 h1
      exact up_at hA (by omega) h2
  · rcases List.mem_append.1 hx with h1 | h1
    · exact h.hi x h1 h2
    · obtain rfl := List.mem_singleton.1 h1
      exact hk h2
theorem Merge.takeB {A B : List En} {i k : Nat} {S : List En} (h : Merge A B i k S) (hB : B.Pairwise enLt) (hk : k < B.length) (hi : ∀ h : i < A.length, enLt B[k] A[i]) : Merge A B i (k + 1) (S ++ [B[k]]) := (h.turn.takeA hB hk hi).turn
theorem Merge.both {A B : List En} {i k : Nat} {S : List En} (h : Merge A B i k S) (hA : A.Pairwise enLt) (hB : B.Pairwise enLt) (hi : i < A.length) (hk : k < B.length) (he : A[i] = B[k]) : Merge A B (i + 1) (k + 1) (S ++ [A[i]]) := by
  refine ⟨?_, fun x => ?_, fun x hx h2 => ?_, fun x hx h2 => ?_⟩
  · rw [List.pairwise_append]
    refine ⟨h.up, List.pairwise_singleton _ _, fun x hx y hy => ?_⟩
    obtain rfl := List.mem_singleton.1 hy
    exact h.lo x hx hi
  · rw [List.mem_append, h.mem, List.mem_singleton, List.take_succ_eq_append_getElem hi, List.take_succ_eq_append_getElem hk, List.mem_append, List.mem_singleton, List.mem_append, List.mem_singleton, he]
    constructor
    · rintro ((h1 | h1) | h1)
      · exact .inl (.inl h1)
      · exact .inr (.inl h1)
      · exact .inl (.inr h1)
    · rintro ((h1 | h1) | (h1 | h1))
      · exact .inl (.inl h1)
      · exact .inr h1
      · exact .inl (.inr h1)
      · exact .inr h1
  · rcases List.mem_append.1 hx with h1 | h1
    · exact enLt_trans (h.lo x h1 hi) (up_at hA (by omega) h2)
    · obtain rfl := List.mem_singleton.1 h1
      exact up_at hA (by omega) h2
  · rcases List.mem_append.1 hx with h1 | h1
    · exact enLt_trans (h.hi x h1 hk) (up_at hB (by omega) h2)
    · obtain rfl := List.mem_singleton.1 h1
      rw [he]
      exact up_at hB (by omega) h2
theorem Merge.done {A B : List En} {S : List En} (h : Merge A B A.length B.length S) : rowE (A ++ B) = S :=
  rowE_of ⟨h.up, fun x => by rw [h.mem, List.take_length, List.take_length, List.mem_append]⟩

set_option maxRecDepth 4000 in
set_option maxHeartbeats 8000000 in
theorem specJoin5_any (A B : List En) (a b : Option Addr) (n c m d : Nat) (w : World) (hn : n = A.length) (hm : m = B.length) (hn9 : n ≤ 2097152) (hm9 : m ≤ 2097152) (hatA : CellsAt w a (entsC A)) (hatB : CellsAt w b (entsC B)) :
    Calls Try.prog 93 #[.slice a n c, .slice b m d] w fun e w' => ∃ a' n' c', e = .returned (.slice a' n' c') ∧ One w w.heap.size w' 31 3 a' n' c' (entsC (joinL5 A B)) := by
  by_cases hA : shOk A
  · have c1 := fun w h => specShelfOk_is true A a n c w ⟨fun _ => hA, fun _ => rfl⟩ hn (by omega) h
    by_cases hB : shOk B
    · have c2 := fun w h => specShelfOk_is true B b m d w ⟨fun _ => hB, fun _ => rfl⟩ hm (by omega) h
      have HR := Lib.hid (joinL5_ok hA hB)
      have HN := Lib.hid hn
      have HM := Lib.hid hm
      have HA := Lib.hid hatA
      have HB := Lib.hid hatB
      have HUA := Lib.hid hA.2
      have HUB := Lib.hid hB.2
      clear hn hm hatA hatB hA hB
      go_enter Try.func93, Try.ntmps93
      go_wp2_with fail
      refine (c1 _ (HA.out.allocW _)).mono ?_
      rintro e w2 ⟨rfl, hb2⟩
      have hone2 : One w w.heap.size w2 31 3 (some ⟨w.heap.size, 0, none⟩) 0 0 (entsC []) := (One.empty w 31 3).later hb2
      clear hb2 c1
      go_wp2_with fail
      refine (c2 _ (HB.out.below hone2.below)).mono ?_
      rintro e w3 ⟨rfl, hb3⟩
      have hone0 := hone2.later hb3
      clear hb3 hone2 c2
      go_wp2
      go_loopw [5, 6, 7] (fun o_ i_ k_ wr => ∃ (i k : Nat) (S : List En), i ≤ n ∧ k ≤ m ∧ i_ = .int .i64 i ∧ k_ = .int .i64 k ∧ ∃ a' n' c', o_ = .slice a' n' c' ∧ n' ≤ i + k ∧ Hid (Merge A B i k S) ∧ One w w.heap.size wr 31 3 a' n' c' (entsC S)) (fun _ i_ k_ _ => n + m - ((intOf i_).toNat + (intOf k_).toNat))
      case atStart => exact ⟨0, 0, [], Nat.zero_le _, Nat.zero_le _, rfl, rfl, _, _, _, rfl, Nat.zero_le _, Lib.hid (Merge.start A B), hone0⟩
      case round =>
        clear hone0
        obtain ⟨i, k, S, hi, hk, rfl, rfl, a', n', c', rfl, hn', HS, hone⟩ := hrel
        by_cases hin : i < n
        · have hiA : i < A.length := by have := HN.out; omega
          obtain ⟨x, hx⟩ : ∃ x, A[i].1 = x := ⟨_, rfl⟩
          obtain ⟨y, hy⟩ : ∃ y, A[i].2.1 = y := ⟨_, rfl⟩
          obtain ⟨z, hz⟩ : ∃ z, A[i].2.2 = z := ⟨_, rfl⟩
          have hma : A[i] = (x, y, z) := by rw [← hx, ← hy, ← hz]
          obtain ⟨ab, ao, rfl, hab, g1, g2, g3⟩ := ent_cells (HA.out.below hone.below) hiA hma
          have HMA := Lib.hid hma
          have z1 : (i : Int) < (n : Int) := by omega
          have z2 : (0 : Int) ≤ (i : Int) := by omega
          clear hx hy hz hma
          by_cases hkm : k < m
          · have hkB : k < B.length := by have := HM.out; omega
            obtain ⟨x', hx⟩ : ∃ x, B[k].1 = x := ⟨_, rfl⟩
            obtain ⟨y', hy⟩ : ∃ y, B[k].2.1 = y := ⟨_, rfl⟩
            obtain ⟨z', hz⟩ : ∃ z, B[k].2.2 = z := ⟨_, rfl⟩
            have hmb : B[k] = (x', y', z') := by rw [← hx, ← hy, ← hz]
            obtain ⟨bb, bo, rfl, hbb, g4, g5, g6⟩ := ent_cells (HB.out.below hone.below) hkB hmb
            have HKS := Lib.hid (show ∀ w', Below wr.heap.size wr w' → w'.cell? ⟨ab, ao + i * 3, none⟩ = some (.int .i64 x) ∧ w'.cell? ⟨ab, ao + i * 3 + 1, none⟩ = some (.int .i64 y) ∧ w'.cell? ⟨ab, ao + i * 3 + 2, none⟩ = some (.int .i64 z) ∧ w'.cell? ⟨bb, bo + k * 3, none⟩ = some (.int .i64 x') ∧ w'.cell? ⟨bb, bo + k * 3 + 1, none⟩ = some (.int .i64 y') ∧ w'.cell? ⟨bb, bo + k * 3 + 2, none⟩ = some (.int .i64 z') from fun w' h => ⟨below_ents h hab g1, below_ents h hab g2, below_ents h hab g3, below_ents h hbb g4, below_ents h hbb g5, below_ents h hbb g6⟩)
            have z3 : (k : Int) < (m : Int) := by omega
            have z4 : (0 : Int) ≤ (k : Int) := by omega
            have t1 : ((k : Int) == (m : Int)) = false := by simp; omega
            have t2 : (k == m) = false := by simp; omega
            have t3 : ((i : Int) == (n : Int)) = false := by simp; omega
            have t4 : (i == n) = false := by simp; omega
            have t5 : decide (i < n) = true := decide_eq_true hin
            have t6 : decide ((i : Int) < (n : Int)) = true := decide_eq_true (by omega)
            have HMB := Lib.hid hmb
            clear hx hy hz hmb
            by_cases hlt1 : enLt (x, y, z) (x', y', z')
            · have c3 := fun w => specLess_is true x y z x' y' z' w ⟨fun _ => hlt1, fun _ => rfl⟩
              have HS2 := Lib.hid (HS.out.takeA HUA.out hiA (fun h => by rw [HMA.out, HMB.out]; exact hlt1))
              have HE := Lib.hid (show entsC (S ++ [A[i]]) = entsC S ++ [.int .i64 x, .int .i64 y, .int .i64 z] by rw [HMA.out, entsC_snoc])
              clear hlt1 HS
              go_wp2
              go_region_held3 (fun w' => w'.cell? ⟨ab, ao + i * 3, none⟩ = some (.int .i64 x) ∧ w'.cell? ⟨ab, ao + i * 3 + 1, none⟩ = some (.int .i64 y) ∧ w'.cell? ⟨ab, ao + i * 3 + 2, none⟩ = some (.int .i64 z) ∧ w'.cell? ⟨bb, bo + k * 3, none⟩ = some (.int .i64 x') ∧ w'.cell? ⟨bb, bo + k * 3 + 1, none⟩ = some (.int .i64 y') ∧ w'.cell? ⟨bb, bo + k * 3 + 2, none⟩ = some (.int .i64 z')) (first | go_keep | exact HKS.out _ (Below.trans (by repeat (first | exact Below.refl _ _ | refine Below.drew ?_ | refine below_drewN' ?_ _)) (hb5.mono (by simp))))
                ((go_at_call 101; refine (c3 _).mono ?_; rintro e w5 ⟨rfl, hb5⟩))
              go_wp2_with (at_builtin; refine wpList_append_row rfl (.tmp 61) (.tmp 66) 23 rfl Try.ulE5 Try.infoE5 rfl (by decide) (hone.later (Below.trans (by repeat (first | exact Below.refl _ _ | refine Below.drew ?_ | refine below_drewN' ?_ _)) (hb5.mono (by simp)))) rfl #[.int .i64 x, .int .i64 y, .int .i64 z] rfl rfl (by simp [Value.oneCell']) (by unfold maxLen; omega) (by omega) ?_; intro a7 c7 w7 h7)
              go_roundw
              case rel => exact ⟨i + 1, k, S ++ [A[i]], by omega, hk, by go_num, rfl, a7, n' + 1, c7, rfl, by omega, HS2, by rw [HE.out]; exact h7⟩
              case measure => simp [intOf]; omega
            · have c3 := fun w => specLess_is false x y z x' y' z' w ⟨(fun h => absurd h (by decide)), (fun h => absurd h hlt1)⟩
              go_wp2
              go_region_held3 (fun w' => w'.cell? ⟨ab, ao + i * 3, none⟩ = some (.int .i64 x) ∧ w'.cell? ⟨ab, ao + i * 3 + 1, none⟩ = some (.int .i64 y) ∧ w'.cell? ⟨ab, ao + i * 3 + 2, none⟩ = some (.int .i64 z) ∧ w'.cell? ⟨bb, bo + k * 3, none⟩ = some (.int .i64 x') ∧ w'.cell? ⟨bb, bo + k * 3 + 1, none⟩ = some (.int .i64 y') ∧ w'.cell? ⟨bb, bo + k * 3 + 2, none⟩ = some (.int .i64 z')) (first | go_keep | exact HKS.out _ (Below.trans (by repeat (first | exact Below.refl _ _ | refine Below.drew ?_ | refine below_drewN' ?_ _)) (hb5.mono (by simp))))
                ((go_at_call 101; refine (c3 _).mono ?_; rintro e w5 ⟨rfl, hb5⟩))
              have W5 : Below wr.heap.size wr w5 := (Below.trans (by repeat (first | exact Below.refl _ _ | refine Below.drew ?_ | refine below_drewN' ?_ _)) (hb5.mono (by simp)))
              have hone5 := hone.later W5
              have HK5 := Lib.hid (show ∀ w', Below w5.heap.size w5 w' → w'.cell? ⟨ab, ao + i * 3, none⟩ = some (.int .i64 x) ∧ w'.cell? ⟨ab, ao + i * 3 + 1, none⟩ = some (.int .i64 y) ∧ w'.cell? ⟨ab, ao + i * 3 + 2, none⟩ = some (.int .i64 z) ∧ w'.cell? ⟨bb, bo + k * 3, none⟩ = some (.int .i64 x') ∧ w'.cell? ⟨bb, bo + k * 3 + 1, none⟩ = some (.int .i64 y') ∧ w'.cell? ⟨bb, bo + k * 3 + 2, none⟩ = some (.int .i64 z') from fun w' h => HKS.out w' (W5.trans (h.mono W5.size)))
              obtain ⟨g1, g2, g3, g4, g5, g6⟩ := HK5.out w5 (Below.refl _ _)
              clear hb5 W5 hone HKS c3
              by_cases hlt2 : enLt (x', y', z') (x, y, z)
              · have c4 := fun w => specLess_is true x' y' z' x y z w ⟨fun _ => hlt2, fun _ => rfl⟩
                have HS2 := Lib.hid (HS.out.takeB HUB.out hkB (fun h => by rw [HMA.out, HMB.out]; exact hlt2))
                have HE := Lib.hid (show entsC (S ++ [B[k]]) = entsC S ++ [.int .i64 x', .int .i64 y', .int .i64 z'] by rw [HMB.out, entsC_snoc])
                clear hlt1 hlt2 HS
                go_wp2
                go_region_held3 (fun w' => w'.cell? ⟨ab, ao + i * 3, none⟩ = some (.int .i64 x) ∧ w'.cell? ⟨ab, ao + i * 3 + 1, none⟩ = some (.int .i64 y) ∧ w'.cell? ⟨ab, ao + i * 3 + 2, none⟩ = some (.int .i64 z) ∧ w'.cell? ⟨bb, bo + k * 3, none⟩ = some (.int .i64 x') ∧ w'.cell? ⟨bb, bo + k * 3 + 1, none⟩ = some (.int .i64 y') ∧ w'.cell? ⟨bb, bo + k * 3 + 2, none⟩ = some (.int .i64 z')) (first | go_keep | exact HK5.out _ (Below.trans (by repeat (first | exact Below.refl _ _ | refine Below.drew ?_ | refine below_drewN' ?_ _)) (hb6.mono (by simp))))
                  ((go_at_call 101; refine (c4 _).mono ?_; rintro e w6 ⟨rfl, hb6⟩))
                go_wp2_with (at_builtin; refine wpList_append_row rfl (.tmp 86) (.tmp 91) 23 rfl Try.ulE5 Try.infoE5 rfl (by decide) (hone5.later (Below.trans (by repeat (first | exact Below.refl _ _ | refine Below.drew ?_ | refine below_drewN' ?_ _)) (hb6.mono (by simp)))) rfl #[.int .i64 x', .int .i64 y', .int .i64 z'] rfl rfl (by simp [Value.oneCell']) (by unfold maxLen; omega) (by omega) ?_; intro a7 c7 w7 h7)
                go_roundw
                case rel => exact ⟨i, k + 1, S ++ [B[k]], hi, by omega, rfl, by go_num, a7, n' + 1, c7, rfl, by omega, HS2, by rw [HE.out]; exact h7⟩
                case measure => simp [intOf]; omega
              · have c4 := fun w => specLess_is false x' y' z' x y z w ⟨(fun h => absurd h (by decide)), (fun h => absurd h hlt2)⟩
                have hee : A[i] = B[k] := by
                  rw [HMA.out, HMB.out]
                  rcases enLt_three (x, y, z) (x', y', z') with h | h | h
                  · exact absurd h hlt1
                  · exact h
                  · exact absurd h hlt2
                have HS2 := Lib.hid (HS.out.both HUA.out HUB.out hiA hkB hee)
                have HE := Lib.hid (show entsC (S ++ [A[i]]) = entsC S ++ [.int .i64 x, .int .i64 y, .int .i64 z] by rw [HMA.out, entsC_snoc])
                clear hlt1 hlt2 HS hee
                go_wp2
                go_region_held3 (fun w' => w'.cell? ⟨ab, ao + i * 3, none⟩ = some (.int .i64 x) ∧ w'.cell? ⟨ab, ao + i * 3 + 1, none⟩ = some (.int .i64 y) ∧ w'.cell? ⟨ab, ao + i * 3 + 2, none⟩ = some (.int .i64 z) ∧ w'.cell? ⟨bb, bo + k * 3, none⟩ = some (.int .i64 x') ∧ w'.cell? ⟨bb, bo + k * 3 + 1, none⟩ = some (.int .i64 y') ∧ w'.cell? ⟨bb, bo + k * 3 + 2, none⟩ = some (.int .i64 z')) (first | go_keep | exact HK5.out _ (Below.trans (by repeat (first | exact Below.refl _ _ | refine Below.drew ?_ | refine below_drewN' ?_ _)) (hb6.mono (by simp))))
                  ((go_at_call 101; refine (c4 _).mono ?_; rintro e w6 ⟨rfl, hb6⟩))
                obtain ⟨g1, g2, g3, g4, g5, g6⟩ := HK5.out w6 (Below.trans (by repeat (first | exact Below.refl _ _ | refine Below.drew ?_ | refine below_drewN' ?_ _)) (hb6.mono (by simp)))
                go_wp2_with (at_builtin; refine wpList_append_row rfl (.tmp 28) (.tmp 33) 23 rfl Try.ulE5 Try.infoE5 rfl (by decide) (hone5.later (Below.trans (by repeat (first | exact Below.refl _ _ | refine Below.drew ?_ | refine below_drewN' ?_ _)) (hb6.mono (by simp)))) rfl #[.int .i64 x, .int .i64 y, .int .i64 z] rfl rfl (by simp [Value.oneCell']) (by unfold maxLen; omega) (by omega) ?_; intro a7 c7 w7 h7)
                go_roundw
                case rel => exact ⟨i + 1, k + 1, S ++ [A[i]], by omega, by omega, by go_num, by go_num, a7, n' + 1, c7, rfl, by omega, HS2, by rw [HE.out]; exact h7⟩
                case measure => simp [intOf]; omega
          · have HS2 := Lib.hid (HS.out.takeA HUA.out hiA (fun h => by have := HM.out; omega))
            have HE := Lib.hid (show entsC (S ++ [A[i]]) = entsC S ++ [.int .i64 x, .int .i64 y, .int .i64 z] by rw [HMA.out, entsC_snoc])
            obtain rfl : k = m := by omega
            clear hkm hk HS
            go_wp2
            go_quiet (fail)
            go_wp2_with (at_builtin; refine wpList_append_row rfl (.tmp 61) (.tmp 66) 23 rfl Try.ulE5 Try.infoE5 rfl (by decide) (hone.drewN _) rfl #[.int .i64 x, .int .i64 y, .int .i64 z] rfl rfl (by simp [Value.oneCell']) (by unfold maxLen; omega) (by omega) ?_; intro a5 c5 w5 h5)
            go_roundw
            case rel => exact ⟨i + 1, k, S ++ [A[i]], by omega, Nat.le_refl _, by go_num, rfl, a5, n' + 1, c5, rfl, by omega, HS2, by rw [HE.out]; exact h5⟩
            case measure => simp [intOf]; omega
        · by_cases hkm : k < m
          · have hkB : k < B.length := by have := HM.out; omega
            obtain ⟨x, hx⟩ : ∃ x, B[k].1 = x := ⟨_, rfl⟩
            obtain ⟨y, hy⟩ : ∃ y, B[k].2.1 = y := ⟨_, rfl⟩
            obtain ⟨z, hz⟩ : ∃ z, B[k].2.2 = z := ⟨_, rfl⟩
            have hmb : B[k] = (x, y, z) := by rw [← hx, ← hy, ← hz]
            obtain ⟨bb, bo, rfl, hbb, g1, g2, g3⟩ := ent_cells (HB.out.below hone.below) hkB hmb
            have HS2 := Lib.hid (HS.out.takeB HUB.out hkB (fun h => by have := HN.out; omega))
            have HE := Lib.hid (show entsC (S ++ [B[k]]) = entsC S ++ [.int .i64 x, .int .i64 y, .int .i64 z] by rw [hmb, entsC_snoc])
            have hie : i = n := by omega
            have t1 : ((k : Int) == (m : Int)) = false := by simp; omega
            have t2 : (k == m) = false := by simp; omega
            have t3 : ((i : Int) == (n : Int)) = true := by rw [hie]; exact beq_self_eq_true _
            have t4 : (i == n) = true := by rw [hie]; exact beq_self_eq_true _
            have t5 : decide (i < n) = false := decide_eq_false hin
            have t6 : decide ((i : Int) < (n : Int)) = false := decide_eq_false (by omega)
            have z1 : (k : Int) < (m : Int) := by omega
            have z2 : (0 : Int) ≤ (k : Int) := by omega
            clear hx hy hz hmb hie
            go_wp2
            go_quiet (fail)
            go_wp2
            go_quiet (fail)
            go_wp2_with (at_builtin; refine wpList_append_row rfl (.tmp 86) (.tmp 91) 23 rfl Try.ulE5 Try.infoE5 rfl (by decide) (hone.drewN _) rfl #[.int .i64 x, .int .i64 y, .int .i64 z] rfl rfl (by simp [Value.oneCell']) (by unfold maxLen; omega) (by omega) ?_; intro a5 c5 w5 h5)
            go_roundw
            case rel => exact ⟨i, k + 1, S ++ [B[k]], hi, by omega, rfl, by go_num, a5, n' + 1, c5, rfl, by omega, HS2, by rw [HE.out]; exact h5⟩
            case measure => simp [intOf]; omega
          · have HO := Lib.hid (show One w w.heap.size wr 31 3 a' n' c' (entsC (joinL5 A B)) by
              have h := HS.out
              rw [show i = A.length by have := HN.out; omega, show k = B.length by have := HM.out; omega] at h
              rw [HR.out, h.done]
              exact hone)
            clear hone
            go_wp2
            go_ret
            exact ⟨_, _, _, rfl, HO.out⟩
    · have c2 := fun w h => specShelfOk_is false B b m d w ⟨(fun h => absurd h (by decide)), (fun h => absurd h hB)⟩ hm (by omega) h
      rw [joinL5_not (fun h => hB h.2)]
      have HA := Lib.hid hatA
      have HB := Lib.hid hatB
      clear hn hm hatA hatB hA hB
      go_enter Try.func93, Try.ntmps93
      go_wp2_with fail
      refine (c1 _ (HA.out.allocW _)).mono ?_
      rintro e w2 ⟨rfl, hb2⟩
      have hone2 : One w w.heap.size w2 31 3 (some ⟨w.heap.size, 0, none⟩) 0 0 (entsC []) := (One.empty w 31 3).later hb2
      clear hb2 c1
      go_wp2_with fail
      refine (c2 _ (HB.out.below hone2.below)).mono ?_
      rintro e w3 ⟨rfl, hb3⟩
      have hone0 := hone2.later hb3
      clear hb3 hone2 c2
      go_wp2
      go_ret
      exact ⟨_, _, _, rfl, hone0⟩
  · have c1 := fun w h => specShelfOk_is false A a n c w ⟨(fun h => absurd h (by decide)), (fun h => absurd h hA)⟩ hn (by omega) h
    rw [joinL5_not (fun h => hA h.1)]
    have HA := Lib.hid hatA
    clear hn hm hatA hatB hA
    go_enter Try.func93, Try.ntmps93
    go_wp2_with fail
    refine (c1 _ (HA.out.allocW _)).mono ?_
    rintro e w2 ⟨rfl, hb2⟩
    have hone2 : One w w.heap.size w2 31 3 (some ⟨w.heap.size, 0, none⟩) 0 0 (entsC []) := (One.empty w 31 3).later hb2
    clear hb2 c1
    go_wp2
    go_ret
    exact ⟨_, _, _, rfl, hone2⟩

end Go.Proofs.Ytclblnkeakkdeaa
