/-
  The contracts of the model's functions l9To and l9Set. Condition: rows have at most 2^20 edges.
-/
import Derived.Test.YtehppjilnacjlaaStRows
import Derived.Test.YtehppjilnacjlaaMathMach
import Derived.Test.YtehppjilnacjlaaProg
import Derived.WalkKit
import Derived.Lib.Hide
import Derived.Deep.QuietTactic
import Derived.BigQuiet
import Derived.IntWalk
namespace Go.Proofs.Ytehppjilnacjlaa
open Go.RowKit

theorem Try.ulG9 : Try.prog.underlying 27 = some (.slice 31) := by kernel_rfl
theorem Try.infoG9 : (Try.prog.info? 31).map (fun i => (i.zero, i.size, i.bytes)) = some (some (.agg #[.int .i64 0, .int .i64 0]), 2, 16) := by kernel_rfl
theorem Try.elG9 : Try.prog.underlying 27 = some (.slice (Try.prog.elem 27)) := by kernel_rfl
theorem Try.elemG9 : Try.prog.elem 27 = 31 := by kernel_rfl
theorem Try.sizeG9 (w : World) : (sizeOf (Try.prog.elem 27)).run Try.prog w = .ok 2 w := by
  obtain ⟨i, hi, hz, hsi, hby⟩ := info_parts Try.infoG9
  rw [Try.elemG9]
  simp [sizeOf, typeInfo, hi, hsi]
theorem pairsC_take (l : List (Int × Int)) (k : Nat) : (pairsC l).take (k * 2) = pairsC (l.take k) := by
  induction l generalizing k with
  | nil => simp [pairsC]
  | cons x l ih =>
    cases k with
    | zero => simp [pairsC]
    | succ k => rw [show (k + 1) * 2 = k * 2 + 2 by omega]; simpa [pairsC, pairC] using ih k
theorem pairsC_drop (l : List (Int × Int)) (k : Nat) : (pairsC l).drop (k * 2) = pairsC (l.drop k) := by
  induction l generalizing k with
  | nil => simp [pairsC]
  | cons x l ih =>
    cases k with
    | zero => simp [pairsC]
    | succ k => rw [show (k + 1) * 2 = k * 2 + 2 by omega]; simpa [pairsC, pairC] using ih k
/-- A slice of edges from a place on, and up to one. -/
theorem edg_from (a : Option Addr) (n c i : Nat) (hi : i ≤ n) (hnc : n ≤ c) : ∃ a2 q f, q = n - i ∧ q ≤ f ∧ f ≤ c ∧ (∀ w, (Instr.slice 27 (.slice a n c) (some (.int .i64 i)) none none).run Try.prog w = .ok (.slice a2 q f) w) ∧
    ∀ (w : World) (l : List (Int × Int)), n = l.length → CellsAt w a (pairsC l) → CellsAt w a2 (pairsC (l.drop i)) := by
  refine ⟨if c = i then a else a.map (·.add (i * 2)), n - i, c - i, rfl, by omega, by omega, fun w => ?_, fun w l hn h => ?_⟩
  · have h := run_slice_l (P := Try.prog) (w := w) 27 a n c Try.elG9 .i64 (i : Int) (by omega) (by omega)
    rw [h, Try.sizeG9]
    simp [Result.andThen, sliced]
  · have h2 := h.from_ n c i 2 (by decide) (by rw [pairsC_len, hn]) hnc
    rwa [pairsC_drop] at h2
theorem edg_upto (a : Option Addr) (n c i : Nat) (hi : i ≤ c) : ∃ a2, (∀ w, (Instr.slice 27 (.slice a n c) none (some (.int .i64 i)) none).run Try.prog w = .ok (.slice a2 i c) w) ∧
    ∀ (w : World) (l : List (Int × Int)), CellsAt w a (pairsC l) → CellsAt w a2 (pairsC (l.take i)) := by
  refine ⟨if c = 0 then a else a.map (·.add (0 * 2)), fun w => ?_, fun w l h => ?_⟩
  · have h := run_slice_h (P := Try.prog) (w := w) 27 a n c Try.elG9 .i64 (i : Int) (by omega) (by omega)
    rw [h, Try.sizeG9]
    simp [Result.andThen, sliced]
  · have e : (if c = 0 then a else a.map (·.add (0 * 2))) = a := by
      split
      · rfl
      · cases a with
        | none => rfl
        | some p =>
          simp only [Option.map_some]
          congr 1
    rw [e, ← pairsC_take]
    exact h.upTo (i * 2)

theorem toE_at {l : List (Int × Int)} {k : Nat} (h : k < l.length) (a : Int) : toE (l.drop k) a = if l[k].1 = a then l[k].2 else toE (l.drop (k + 1)) a := by
  rw [List.drop_eq_getElem_cons h, toE]
theorem setE_at {l : List (Int × Int)} {a t : Int} (k : Nat) (hk : k ≤ l.length) (h : ∀ j (hj : j < l.length), j < k → l[j].1 < a) :
    (k = l.length → setE l a t = l ++ [(a, t)]) ∧ (∀ hl : k < l.length, l[k].1 = a → setE l a t = l.take k ++ (a, t) :: l.drop (k + 1)) ∧ (∀ hl : k < l.length, a < l[k].1 → setE l a t = l.take k ++ (a, t) :: l.drop k) := by
  induction l generalizing k with
  | nil =>
    have : k = 0 := by simpa using hk
    subst this
    exact ⟨fun _ => rfl, fun hl => absurd hl (by simp), fun hl => absurd hl (by simp)⟩
  | cons e l ih =>
    cases k with
    | zero =>
      refine ⟨fun h0 => by simp at h0, fun _ h1 => ?_, fun _ h1 => ?_⟩
      · have h1 : e.1 = a := h1
        rw [setE, if_neg (by omega), if_pos h1]; rfl
      · have h1 : a < e.1 := h1
        rw [setE, if_neg (by omega), if_neg (by omega)]; rfl
    | succ k =>
      have h0 : e.1 < a := h 0 (by simp) (by omega)
      have hi := ih k (by simpa using hk) (fun j hj hjk => h (j + 1) (by simpa using hj) (by omega))
      rw [setE, if_pos h0]
      refine ⟨fun h1 => ?_, fun hl h1 => ?_, fun hl h1 => ?_⟩
      · rw [hi.1 (by simpa using h1)]; rfl
      · rw [hi.2.1 (by simpa using hl) h1]; rfl
      · rw [hi.2.2 (by simpa using hl) h1]; rfl

set_option maxHeartbeats 4000000 in
theorem specTo_any (d1 d2 : Int) (F : List (Int × Int)) (s : Int) (a : Option Addr) (n c : Nat) (w : World) (hn : n = F.length) (hn9 : n ≤ 1048576) (hat : CellsAt w a (pairsC F)) :
    Calls Try.prog 46 #[.agg #[.int .i64 d1, .int .i64 d2, .slice a n c], .int .i64 s] w fun e w' => e = .returned (.int .i64 (toE F s)) ∧ Below w.heap.size w w' := by
  have HN := Lib.hid hn
  have ha := (Below.refl w.heap.size w).alloc (Nat.le_refl _) (.cells #[.int .i64 d1, .int .i64 d2, .slice a n c] 29)
  have S5 := Side.fresh (w := w) (B := 0) (v := .slice none 0 0) 29 [.int .i64 d1, .int .i64 d2, .slice a n c] (Nat.zero_le _) (by intro k hk; simp [Value.ownBlock] at hk)
  have HAT := Lib.hid (hat.below ha)
  have HB := Lib.hid ha
  clear hn hat ha
  go_enter Try.func46, Try.ntmps46
  go_wp2
  obtain ⟨w5, hw5⟩ : ∃ w9, w.alloc (.cells #[.int .i64 d1, .int .i64 d2, .slice a n c] 29) = w9 := ⟨_, rfl⟩
  obtain ⟨g, hg⟩ : ∃ g, w.heap.size = g := ⟨_, rfl⟩
  rw [show (w.alloc (.cells [Value.int .i64 d1, Value.int .i64 d2, Value.slice a n c].toArray 29)) = w5 from hw5, hg] at S5
  rw [hw5] at HAT HB
  rw [hw5, hg]
  have k2 := S5.cell 2 _ rfl
  have K2 := Lib.hid k2
  clear hw5 hg S5 k2
  go_loopw [5] (fun k_ wr => ∃ k : Nat, k ≤ n ∧ k_ = .int .i64 (k : Int) ∧ Hid (toE F s = toE (F.drop k) s) ∧ Hid (wr = w5)) (fun k_ _ => n - (intOf k_).toNat)
  case atStart => exact ⟨0, Nat.zero_le _, rfl, Lib.hid (by rw [List.drop_zero]), Lib.hid rfl⟩
  case round =>
    obtain ⟨k, hk, rfl, HT, HW⟩ := hrel
    obtain rfl := HW.out
    clear HW
    have k2 := K2.out
    by_cases hlt : k < n
    · have hkl : k < F.length := by have := HN.out; omega
      obtain ⟨x, hx⟩ : ∃ x, F[k].1 = x := ⟨_, rfl⟩
      obtain ⟨y, hy⟩ : ∃ x, F[k].2 = x := ⟨_, rfl⟩
      have hto := toE_at hkl s
      rw [hx, hy] at hto
      obtain ⟨b, o, rfl, hb9, hc⟩ := HAT.out.pair (fun e => by rw [e] at hkl; simp at hkl)
      obtain ⟨e1, e2⟩ := hc k hkl
      rw [hx] at e1
      rw [hy] at e2
      have z1 : (k : Int) < (n : Int) := by omega
      have z0 : (0 : Int) ≤ (k : Int) := by omega
      clear hx hy hc
      by_cases hxs : x = s
      · have t1 : (x == s) = true := by rw [hxs]; exact beq_self_eq_true _
        have HR := Lib.hid (show toE F s = y by rw [HT.out, hto, if_pos hxs])
        clear hto hxs
        go_wp2
        go_ret
        exact ⟨by rw [HR.out]; rfl, HB.out⟩
      · have t1 : (x == s) = false := by simpa using hxs
        have HT2 := Lib.hid (show toE F s = toE (F.drop (k + 1)) s by rw [HT.out, hto, if_neg hxs])
        clear hto hxs HT
        go_wp2
        go_roundw
        case rel => exact ⟨k + 1, by omega, by go_num, HT2, Lib.hid (by trivial)⟩
        case measure => simp [intOf]; omega
    · have HR := Lib.hid (show toE F s = -1 by rw [HT.out, List.drop_eq_nil_of_le (by have := HN.out; omega)]; rfl)
      go_wp2
      go_ret
      exact ⟨by rw [HR.out]; rfl, HB.out⟩

set_option maxHeartbeats 8000000 in
theorem specSet_any (F : List (Int × Int)) (s t : Int) (R : List (Int × Int)) (a : Option Addr) (n c : Nat) (w : World) (hR : setE F s t = R) (hn : n = F.length) (hn9 : n ≤ 1048576) (hnc : n ≤ c) (hat : CellsAt w a (pairsC F)) :
    Calls Try.prog 47 #[.slice a n c, .int .i64 s, .int .i64 t] w fun e w' => ∃ a' n' c', e = .returned (.slice a' n' c') ∧ One w w.heap.size w' 31 2 a' n' c' (pairsC R) := by
  have HR := Lib.hid hR
  have HN := Lib.hid hn
  have HAT := Lib.hid hat
  clear hR hn hat
  go_enter Try.func47, Try.ntmps47
  go_wp2
  go_loopw [7] (fun k_ wr => ∃ k : Nat, k ≤ n ∧ k_ = .int .i64 (k : Int) ∧ Hid (∀ j (hj : j < F.length), j < k → F[j].1 < s) ∧ Hid (wr = w)) (fun k_ _ => n - (intOf k_).toNat)
  case atStart => exact ⟨0, Nat.zero_le _, rfl, Lib.hid (fun j hj h => absurd h (Nat.not_lt_zero _)), Lib.hid rfl⟩
  case round =>
    obtain ⟨k, hk, rfl, HL, HW⟩ := hrel
    obtain rfl := HW.out
    clear HW
    have hset := setE_at (t := t) k (by have := HN.out; omega) HL.out
    obtain ⟨a1, sl1, hc1⟩ := edg_upto a n c k (by omega)
    obtain ⟨a2, q, f, hq, hqf, hfc, sl2, hc2⟩ := edg_from a n c k hk hnc
    have HC1 := Lib.hid (fun w' (h : Below wr.heap.size wr w') => hc1 w' F (HAT.out.below h))
    have HL1 := Lib.hid (show (pairsC (F.take k)).length = k * 2 by rw [pairsC_len, List.length_take]; have := HN.out; omega)
    have HC2 := Lib.hid (fun w' (h : Below wr.heap.size wr w') => hc2 w' F HN.out (HAT.out.below h))
    have HL2 := Lib.hid (show (pairsC (F.drop k)).length = q * 2 by rw [pairsC_len, List.length_drop, hq, HN.out])
    have q9 : q ≤ 1048576 := by omega
    clear hc1 hc2 hq hfc
    have hone0 := One.empty wr 31 2
    have HS1 := Lib.hid (show ∀ l : List (Int × Int), ([] : List Value) ++ pairsC (F.take k) ++ [.int .i64 s, .int .i64 t] ++ pairsC l = pairsC (F.take k ++ (s, t) :: l) from fun l => by rw [pairsC_append]; simp [pairsC, pairC])
    by_cases hlt : k < n
    · have hkl : k < F.length := by have := HN.out; omega
      obtain ⟨x, hx⟩ : ∃ x, F[k].1 = x := ⟨_, rfl⟩
      obtain ⟨b, o, rfl, hb9, hc⟩ := HAT.out.pair (fun e => by rw [e] at hkl; simp at hkl)
      have e1 := (hc k hkl).1
      rw [hx] at e1
      have z1 : (k : Int) < (n : Int) := by omega
      have z0 : (0 : Int) ≤ (k : Int) := by omega
      have HX := Lib.hid hx
      clear hx hc
      by_cases hxs : x < s
      · have t1 : decide (x < s) = true := decide_eq_true hxs
        have HL2 := Lib.hid (show ∀ j (hj : j < F.length), j < k + 1 → F[j].1 < s from fun j hj h => by
          by_cases e : j = k
          · subst e; rw [HX.out]; exact hxs
          · exact HL.out j hj (by omega))
        clear hxs hset
        go_wp2
        go_roundw
        case rel => exact ⟨k + 1, by omega, by go_num, HL2, Lib.hid (by trivial)⟩
        case measure => simp [intOf]; omega
      · have t1 : decide (x < s) = false := decide_eq_false hxs
        by_cases hxe : x = s
        · obtain ⟨a3, q3, f3, hq3, hqf3, hfc3, sl3, hc3⟩ := edg_from (some ⟨b, o, none⟩) n c (k + 1) (by omega) hnc
          have t2 : (x == s) = true := by rw [hxe]; exact beq_self_eq_true _
          have HRR := Lib.hid (hset.2.1 hkl (by rw [HX.out]; exact hxe))
          have HC3 := Lib.hid (fun w' (h : Below wr.heap.size wr w') => hc3 w' F HN.out (HAT.out.below h))
          have HL3 := Lib.hid (show (pairsC (F.drop (k + 1))).length = q3 * 2 by rw [pairsC_len, List.length_drop, hq3, HN.out])
          have q39 : q3 ≤ 1048576 := by omega
          have v1 : IntKind.i64.wrap ((k : Int) + 1) = (k : Int) + 1 := IntWalk.i64_in _ (by omega)
          have sl4 := fun w => by
            have h := sl3 w
            rwa [show ((k + 1 : Nat) : Int) = (k : Int) + 1 by omega] at h
          clear hset hc3 hq3 hfc3 hxe hxs sl3
          go_wp2_with (at_builtin; first
            | (refine wpList_append_src rfl (.tmp 44) (.tmp 47) 27 rfl Try.ulG9 Try.infoG9 rfl (by decide) hone0 rfl a1 k c rfl (pairsC (F.take k)) HL1.out (HC1.out _ hone0.below) (pairsC_one _) (by unfold maxLen; omega) (by omega) ?_; intro a5 c5 w5 h5; rw [Nat.zero_add] at h5)
            | (refine wpList_append_row rfl (.tmp 48) (.tmp 52) 27 rfl Try.ulG9 Try.infoG9 rfl (by decide) h5 rfl #[.int .i64 s, .int .i64 t] rfl rfl (by simp [Value.oneCell']) (by unfold maxLen; omega) (by omega) ?_; intro a6 c6 w6 h6)
            | (refine wpList_append_src rfl (.tmp 53) (.tmp 54) 27 rfl Try.ulG9 Try.infoG9 rfl (by decide) h6 rfl a3 q3 f3 rfl (pairsC (F.drop (k + 1))) HL3.out (HC3.out _ h6.below) (pairsC_one _) (by unfold maxLen; omega) (by omega) ?_; intro a7 c7 w7 h7))
          go_ret
          exact ⟨_, _, _, rfl, by rw [← HR.out, HRR.out, ← HS1.out]; exact h7⟩
        · have t2 : (x == s) = false := by simpa using hxe
          have HRR := Lib.hid (hset.2.2 hkl (by rw [HX.out]; omega))
          clear hset hxe hxs
          go_wp2_with (at_builtin; first
            | (refine wpList_append_src rfl (.tmp 44) (.tmp 47) 27 rfl Try.ulG9 Try.infoG9 rfl (by decide) hone0 rfl a1 k c rfl (pairsC (F.take k)) HL1.out (HC1.out _ hone0.below) (pairsC_one _) (by unfold maxLen; omega) (by omega) ?_; intro a5 c5 w5 h5; rw [Nat.zero_add] at h5)
            | (refine wpList_append_row rfl (.tmp 48) (.tmp 52) 27 rfl Try.ulG9 Try.infoG9 rfl (by decide) h5 rfl #[.int .i64 s, .int .i64 t] rfl rfl (by simp [Value.oneCell']) (by unfold maxLen; omega) (by omega) ?_; intro a6 c6 w6 h6)
            | (refine wpList_append_src rfl (.tmp 53) (.tmp 54) 27 rfl Try.ulG9 Try.infoG9 rfl (by decide) h6 rfl a2 q f rfl (pairsC (F.drop k)) HL2.out (HC2.out _ h6.below) (pairsC_one _) (by unfold maxLen; omega) (by omega) ?_; intro a7 c7 w7 h7))
          go_ret
          exact ⟨_, _, _, rfl, by rw [← HR.out, HRR.out, ← HS1.out]; exact h7⟩
    · have HRR := Lib.hid (show setE F s t = F.take k ++ (s, t) :: F.drop k by
        have e : k = F.length := by have := HN.out; omega
        rw [hset.1 e, e, List.take_length, List.drop_length])
      clear hset
      go_wp2_with (at_builtin; first
        | (refine wpList_append_src rfl (.tmp 44) (.tmp 47) 27 rfl Try.ulG9 Try.infoG9 rfl (by decide) hone0 rfl a1 k c rfl (pairsC (F.take k)) HL1.out (HC1.out _ hone0.below) (pairsC_one _) (by unfold maxLen; omega) (by omega) ?_; intro a5 c5 w5 h5; rw [Nat.zero_add] at h5)
        | (refine wpList_append_row rfl (.tmp 48) (.tmp 52) 27 rfl Try.ulG9 Try.infoG9 rfl (by decide) h5 rfl #[.int .i64 s, .int .i64 t] rfl rfl (by simp [Value.oneCell']) (by unfold maxLen; omega) (by omega) ?_; intro a6 c6 w6 h6)
        | (refine wpList_append_src rfl (.tmp 53) (.tmp 54) 27 rfl Try.ulG9 Try.infoG9 rfl (by decide) h6 rfl a2 q f rfl (pairsC (F.drop k)) HL2.out (HC2.out _ h6.below) (pairsC_one _) (by unfold maxLen; omega) (by omega) ?_; intro a7 c7 w7 h7))
      go_ret
      exact ⟨_, _, _, rfl, by rw [← HR.out, HRR.out, ← HS1.out]; exact h7⟩

end Go.Proofs.Ytehppjilnacjlaa
