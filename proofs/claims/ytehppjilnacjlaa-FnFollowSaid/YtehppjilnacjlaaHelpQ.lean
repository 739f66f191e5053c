/-
  The contracts of the laws' own functions isIn, sameEdges and sameStates. Conditions: texts have at most 2^20 bytes, rows at most 2^23 elements.
-/
import Derived.Test.YtehppjilnacjlaaFollM
import Derived.Test.YtehppjilnacjlaaHelpA
namespace Go.Proofs.Ytehppjilnacjlaa
open Go.RowKit

theorem Try.ulsQ : Try.prog.underlying 9 = some .string := by kernel_rfl
theorem ext_list (s : ByteArray) (k m : Nat) : (s.extract k (k + m)).data.toList = (s.data.toList.drop k).take m := by
  simp [List.extract_eq_take_drop]

set_option maxHeartbeats 4000000 in
theorem isIn_is (r : Bool) (s p : ByteArray) (w : World) (hr : r = true ↔ pcIn s.data.toList p.data.toList) (hs : s.size ≤ 1048576) (hp : p.size ≤ 1048577) :
    Calls Try.prog 24 #[.string s, .string p] w fun e w' => e = .returned (.bool r) ∧ w' = w := by
  have HR := Lib.hid hr
  have hsz : s.data.toList.length = s.size := rfl
  have hpz : p.data.toList.length = p.size := rfl
  have HSZ := Lib.hid hsz
  have HPZ := Lib.hid hpz
  clear hr hsz hpz
  go_enter Try.func24, Try.ntmps24
  go_wp2
  go_loopw [5] (fun k_ wr => ∃ k : Nat, k ≤ s.size + 1 ∧ k_ = .int .i64 (k : Int) ∧ Hid (∀ j, j < k → ¬ (s.data.toList.drop j).take p.data.toList.length = p.data.toList) ∧ Hid (wr = w)) (fun k_ _ => s.size + 1 - (intOf k_).toNat)
  case atStart => exact ⟨0, Nat.zero_le _, rfl, Lib.hid (fun j hj => absurd hj (Nat.not_lt_zero _)), Lib.hid rfl⟩
  case round =>
    obtain ⟨k, hk, rfl, HNO, HW⟩ := hrel
    obtain rfl := HW.out
    clear HW
    have v1 : IntKind.i64.wrap ((k : Int) + (p.size : Int)) = (k : Int) + (p.size : Int) := IntWalk.i64_in _ (by omega)
    by_cases hle : k + p.size ≤ s.size
    · have z1 : (k : Int) + (p.size : Int) ≤ (s.size : Int) := by omega
      have hsl : ∀ w, (Instr.slice 9 (.string s) (some (.int .i64 (k : Int))) (some (.int .i64 ((k : Int) + (p.size : Int)))) none).run Try.prog w = .ok (.string (s.extract k (k + p.size))) w := fun w => by
        have := run_slice_string (P := Try.prog) w 9 s .i64 .i64 k ((k : Int) + (p.size : Int)) Try.ulsQ (by omega) (by omega) (by omega)
        rw [this, show ((k : Int) + (p.size : Int)).toNat = k + p.size by omega, Int.toNat_natCast]
      have hxl := ext_list s k p.size
      obtain ⟨x, hx⟩ : ∃ x, s.extract k (k + p.size) = x := ⟨_, rfl⟩
      rw [hx] at hsl hxl
      by_cases heq : x.data.toList = p.data.toList
      · have HT := Lib.hid (show r = true from HR.out.2 (pc_cut.2 ⟨k, by have := HSZ.out; have := HPZ.out; omega, by rw [HPZ.out, ← hxl]; exact heq⟩))
        have t1 : (x.toList == p.toList) = true := by rw [ByteArray.toList_eq, ByteArray.toList_eq, heq]; exact beq_self_eq_true _
        clear hxl heq hx
        go_wp2
        go_ret
        exact ⟨by rw [HT.out]; rfl, rfl⟩
      · have t1 : (x.toList == p.toList) = false := by rw [ByteArray.toList_eq, ByteArray.toList_eq]; exact beq_eq_false_iff_ne.2 heq
        have HNO2 := Lib.hid (show ∀ j, j < k + 1 → ¬ (s.data.toList.drop j).take p.data.toList.length = p.data.toList from fun j hj => by
          by_cases e : j = k
          · subst e; rw [HPZ.out, ← hxl]; exact heq
          · exact HNO.out j (by omega))
        clear hxl heq hx HNO
        go_wp2
        go_roundw
        case rel => exact ⟨k + 1, by omega, by go_num, HNO2, Lib.hid (by trivial)⟩
        case measure => simp [intOf]; omega
    · have z1 : ¬ ((k : Int) + (p.size : Int) ≤ (s.size : Int)) := by omega
      have HF := Lib.hid (show r = false by
        cases h : r with
        | false => rfl
        | true =>
          obtain ⟨j, h1, h2⟩ := pc_cut.1 (HR.out.1 h)
          exact absurd h2 (HNO.out j (by have := HSZ.out; have := HPZ.out; omega)))
      clear HNO
      go_wp2
      go_ret
      exact ⟨by rw [HF.out]; rfl, rfl⟩

set_option maxHeartbeats 1000000 in
theorem sameEdges_same (F : List (Int × Int)) (a b : Option Addr) (n c d : Nat) (w : World) (hn : n = F.length) (hn9 : n ≤ 1048576) (h1 : CellsAt w a (pairsC F)) (h2 : CellsAt w b (pairsC F)) :
    Calls Try.prog 45 #[.slice a n c, .slice b n d] w fun e w' => e = .returned (.bool true) ∧ ∃ q, w' = w.drewN q := by
  have HN := Lib.hid hn
  have HA := Lib.hid h1
  have HB := Lib.hid h2
  clear hn h1 h2
  go_enter Try.func45, Try.ntmps45
  go_wp2
  go_loopw [5] (fun i wr => ∃ k : Nat, k ≤ n ∧ i = .int .i64 k ∧ ∃ q, wr = w.drewN q) (fun i _ => n - (intOf i).toNat)
  case atStart => exact ⟨0, Nat.zero_le _, rfl, 0, rfl⟩
  case round =>
    obtain ⟨k, hk, rfl, q, rfl⟩ := hrel
    by_cases hlt : k < n
    · have hkl : k < F.length := by have := HN.out; omega
      obtain ⟨x, hx⟩ : ∃ x, F[k].1 = x := ⟨_, rfl⟩
      obtain ⟨y, hy⟩ : ∃ y, F[k].2 = y := ⟨_, rfl⟩
      obtain ⟨b1, o1, rfl, _, hc1⟩ := HA.out.pair (fun e => by rw [e] at hkl; simp at hkl)
      obtain ⟨b2, o2, rfl, _, hc2⟩ := HB.out.pair (fun e => by rw [e] at hkl; simp at hkl)
      obtain ⟨g1, g2⟩ := hc1 k hkl
      obtain ⟨g3, g4⟩ := hc2 k hkl
      rw [hx] at g1 g3
      rw [hy] at g2 g4
      clear hx hy hc1 hc2
      go_wp2
      go_quiet (fail)
      go_wp2
      go_roundw
      case rel => exact ⟨k + 1, by omega, by go_num, _, rfl⟩
      case measure => simp [intOf]; omega
    · go_wp2
      go_ret
      exact ⟨rfl, q, rfl⟩

set_option maxHeartbeats 4000000 in
theorem sameStates_same (L : List Dt) (a b : Option Addr) (n c d : Nat) (A A' : Nat → Sm) (w : World) (hn : n = L.length) (hn9 : n ≤ 8388608) (few : ∀ i, i < L.length → (dtA L i).2.2.length ≤ 1048576) (h1 : StAt w a L A) (h2 : StAt w b L A') :
    Calls Try.prog 16 #[.slice a n c, .slice b n d] w fun e w' => e = .returned (.bool true) ∧ ∃ q, w' = w.drewN q := by
  have HN := Lib.hid hn
  have HF := Lib.hid few
  have HA := Lib.hid h1
  have HB := Lib.hid h2
  clear hn few h1 h2
  go_enter Try.func16, Try.ntmps16
  go_wp2
  go_loopw [5] (fun i wr => ∃ k : Nat, k ≤ n ∧ i = .int .i64 k ∧ Hid (∃ q, wr = w.drewN q)) (fun i _ => n - (intOf i).toNat)
  case atStart => exact ⟨0, Nat.zero_le _, rfl, Lib.hid ⟨0, rfl⟩⟩
  case round =>
    obtain ⟨k, hk, rfl, HW⟩ := hrel
    by_cases hlt : k < n
    · have hkl : k < L.length := by have := HN.out; omega
      have hsA : StAt wr a L A := by obtain ⟨q, hq⟩ := HW.out; rw [hq]; exact HA.out.below (below_drewN' (Below.refl _ _) q)
      have hsB : StAt wr b L A' := by obtain ⟨q, hq⟩ := HW.out; rw [hq]; exact HB.out.below (below_drewN' (Below.refl _ _) q)
      obtain ⟨b1, o1, rfl, _, hc1⟩ := hsA.spot (by omega)
      obtain ⟨b2, o2, rfl, _, hc2⟩ := hsB.spot (by omega)
      obtain ⟨x, hx⟩ : ∃ x, (dtA L k).1 = x := ⟨_, rfl⟩
      obtain ⟨y, hy⟩ : ∃ y, (dtA L k).2.1 = y := ⟨_, rfl⟩
      obtain ⟨a1, n1, c1, hA1⟩ : ∃ a n c, A k = (a, n, c) := ⟨_, _, _, rfl⟩
      obtain ⟨a2, n2, c2, hA2⟩ : ∃ a n c, A' k = (a, n, c) := ⟨_, _, _, rfl⟩
      have i1 := hsA.inner k hkl
      have i2 := hsB.inner k hkl
      rw [hA1] at i1
      rw [hA2] at i2
      obtain rfl : n2 = n1 := i2.1.trans i1.1.symm
      have hf := HF.out k hkl
      have hn1 : n2 = (dtA L k).2.2.length := i1.1
      have cE := fun q => sameEdges_same (dtA L k).2.2 a1 a2 n2 c1 c2 (wr.drewN q) hn1 (by omega) (i1.2.drewN q) (i2.2.drewN q)
      obtain ⟨g1, g2, g3⟩ := hc1 k hkl
      obtain ⟨g4, g5, g6⟩ := hc2 k hkl
      rw [hx] at g1 g4
      rw [hy] at g2 g5
      rw [hA1] at g3
      rw [hA2] at g6
      replace g3 : wr.cell? ⟨b1, o1 + k * 3 + 2, none⟩ = some (.slice a1 n2 c1) := g3
      replace g6 : wr.cell? ⟨b2, o2 + k * 3 + 2, none⟩ = some (.slice a2 n2 c2) := g6
      have t1 : (x == x) = true := beq_self_eq_true _
      have t1' : (x != x) = false := by rw [bne, t1]; rfl
      have t2 : (y == y) = true := beq_self_eq_true _
      have t2' : (y != y) = false := by rw [bne, t2]; rfl
      clear hx hy hA1 hA2 i1 i2 hf hn1 hsA hsB hc1 hc2
      go_wp2
      go_quiet ((go_at_call 45; exact Calls.quiet_of (cE _)))
      have HW2 := Lib.hid (show ∃ q, wr.drewN nq = w.drewN q by
        obtain ⟨q, hq⟩ := HW.out
        exact ⟨q + nq, by rw [hq, World.drewN_drewN]⟩)
      go_wp2
      go_roundw
      case rel => exact ⟨k + 1, by omega, by go_num, HW2⟩
      case measure => simp [intOf]; omega
    · go_wp2
      go_ret
      exact ⟨rfl, HW.out⟩

end Go.Proofs.Ytehppjilnacjlaa
