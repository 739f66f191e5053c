/-
  The contract of the laws' own helper toStateS. Conditions: at most 2^20 states, at most 2^20 edges each.
-/
import Derived.Test.YtnjiooljoekhmaaHelpSt2
namespace Go.Proofs.Ytnjiooljoekhmaa
open Go.RowKit Go.ChangeShapes

theorem Try.ulSlState : Try.prog.underlying 22 = some (.slice 41) := by kernel_rfl
theorem Try.infoSlState : (Try.prog.info? 41).map (fun i => (i.zero, i.size, i.bytes)) = some (some (.agg #[.int .i64 0, .int .i64 0, .slice none 0 0]), 3, 40) := by kernel_rfl
abbrev dD (L : List Dt) (i : Nat) : Int × Int := ((dtA L i).1, (dtA L i).2.1)

set_option maxHeartbeats 8000000 in
theorem toStateS_any (L : List Dt) (a : Option Addr) (n c : Nat) (A : Nat → Sm) (w : World) (hn : n = L.length) (hm : n ≤ 1048576) (few : ∀ i, i < L.length → (dtA L i).2.2.length ≤ 1048576) (hat : StAt w a L A) :
    Calls Try.prog 16 #[.slice a n c] w fun e w' => ∃ a' A', e = .returned (.slice a' n n) ∧ StAt w' a' L A' ∧ Below w.heap.size w w' := by
  obtain ⟨zs, w1, hmk, hzl, hone⟩ := make_own (P := Try.prog) 22 41 Try.ulSlState Try.infoSlState n (by omega) (by unfold maxLen; omega) w
  have HN := Lib.hid hn
  have HZ := Lib.hid hzl
  have HF := Lib.hid few
  clear hn hzl few
  go_enter Try.func16, Try.ntmps16
  go_wp2
  clear hmk
  go_loopw [4] (fun i wr => ∃ (k : Nat) (A2 : Nat → Sm), k ≤ n ∧ i = .int .i64 k ∧ One w w.heap.size wr 41 3 (some ⟨w.heap.size, 0, none⟩) n n (stC k (dD L) A2 ++ zs.drop (k * 3)) ∧ Hid (∀ d, d < k → (A2 d).2.1 = (dtA L d).2.2.length ∧ One w w.heap.size wr 57 2 (A2 d).1 (A2 d).2.1 (A2 d).2.2 (pairsC (dtA L d).2.2) ∧ ∀ b, (smV (A2 d)).ownBlock = some b → b ≠ w.heap.size)) (fun i _ => n - (intOf i).toNat)
  case atStart => exact ⟨0, fun _ => (none, 0, 0), Nat.zero_le _, rfl, by simpa [stC] using hone, Lib.hid (fun d hd => absurd hd (by omega))⟩
  case round =>
    clear hone
    obtain ⟨k, A2, hk, rfl, hone, HIN⟩ := hrel
    by_cases hlt : k < n
    · have hkl : k < L.length := by rw [← HN.out]; exact hlt
      have hs := hat.below hone.below
      obtain ⟨b, o, rfl, _, hc⟩ := hs.spot (by omega)
      obtain ⟨g0, g1, g2⟩ := hc k hkl
      obtain ⟨x0, hx0⟩ : ∃ x, (dtA L k).1 = x := ⟨_, rfl⟩
      obtain ⟨x1, hx1⟩ : ∃ x, (dtA L k).2.1 = x := ⟨_, rfl⟩
      obtain ⟨a1, n1, c1, hA⟩ : ∃ a n c, A k = (a, n, c) := ⟨_, _, _, rfl⟩
      have i1 := hs.inner k hkl
      rw [hA] at i1 g2
      rw [hx0] at g0
      rw [hx1] at g1
      replace g2 : wr.cell? ⟨b, o + k * 3 + 2, none⟩ = some (.slice a1 n1 c1) := g2
      have hlen : n1 = (dtA L k).2.2.length := i1.1
      have hfe := HF.out k hkl
      have cT := toState_any x0 x1 (dtA L k).2.2 a1 n1 c1 wr hlen (by omega) i1.2
      have HLEN := Lib.hid hlen
      have HD := Lib.hid (show dD L k = (x0, x1) by rw [dD, hx0, hx1])
      clear hc hx0 hx1 hA i1 hs hlen hfe
      go_wp2_with fail
      refine cT.mono ?_
      rintro e v0 ⟨a3, rfl, hb⟩
      have h0 := hone.later hb.below
      have hnew := hb.under hone.below hone.base
      have hwr : w.heap.size < wr.heap.size := (hone.own.lt w.heap.size (by simp [Value.ownBlock])).2
      have hnb : ∀ b, (Value.slice a3 n1 n1).ownBlock = some b → b ≠ w.heap.size := fun b hb2 => by
        have := (hb.own.lt b hb2).1
        omega
      have hl0 : (stC k (dD L) A2).length = k * 3 := stC_len _ _ _
      have HIN2 : ∀ d, d < k → (A2 d).2.1 = (dtA L d).2.2.length ∧ One w w.heap.size v0 57 2 (A2 d).1 (A2 d).2.1 (A2 d).2.2 (pairsC (dtA L d).2.2) ∧ ∀ b, (smV (A2 d)).ownBlock = some b → b ≠ w.heap.size := fun d hd => ⟨(HIN.out d hd).1, (HIN.out d hd).2.1.later hb.below, (HIN.out d hd).2.2⟩
      obtain ⟨A3, hA3, hA4⟩ : ∃ A3 : Nat → Sm, A3 k = (a3, n1, n1) ∧ ∀ e, e < k → A3 e = A2 e := ⟨fun e => if e < k then A2 e else (a3, n1, n1), by simp, fun e he => by simp [he]⟩
      have HX := Lib.hid (show stC (k + 1) (dD L) A3 = stC k (dD L) A2 ++ [Value.int .i64 x0] ++ [Value.int .i64 x1] ++ [Value.slice a3 n1 n1] by
        rw [stC_succ, stC_same (D := dD L) (D' := dD L) (fun _ _ => rfl) hA4, HD.out, hA3]
        simp [stR, smV])
      have HL0 := Lib.hid hl0
      have HIN3 := Lib.hid (show ∀ d, d < k + 1 → (A3 d).2.1 = (dtA L d).2.2.length ∧ One w w.heap.size (((v0.setCell ⟨w.heap.size, k * 3, none⟩ (.int .i64 x0)).setCell ⟨w.heap.size, k * 3 + 1, none⟩ (.int .i64 x1)).setCell ⟨w.heap.size, k * 3 + 2, none⟩ (.slice a3 n1 n1)) 57 2 (A3 d).1 (A3 d).2.1 (A3 d).2.2 (pairsC (dtA L d).2.2) ∧ ∀ b, (smV (A3 d)).ownBlock = some b → b ≠ w.heap.size from fun d hd => by
        by_cases hdk : d < k
        · rw [hA4 d hdk]
          obtain ⟨u1, u2, u3⟩ := HIN2 d hdk
          exact ⟨u1, ((u2.besideB (Nat.le_refl _) u3 _ _).besideB (Nat.le_refl _) u3 _ _).besideB (Nat.le_refl _) u3 _ _, u3⟩
        · obtain rfl : d = k := by omega
          rw [hA3]
          exact ⟨HLEN.out, ((hnew.besideB (Nat.le_refl _) hnb _ _).besideB (Nat.le_refl _) hnb _ _).besideB (Nat.le_refl _) hnb _ _, hnb⟩)
      clear hone hb hl0 g0 g1 g2 hnew hwr hnb HIN HIN2 hA3 hA4 cT
      have f0 := h0.frozen (k * 3)
      obtain ⟨y0, c0⟩ := h0.cell (k * 3) (by omega)
      have h1 := h0.stored (k * 3) (Value.int .i64 x0)
      rw [set_next (A := stC k (dD L) A2) (by simp [HL0.out] <;> omega) (by rw [HZ.out]; omega)] at h1
      have f1 := h0.frozen (k * 3 + 1)
      obtain ⟨y1, c1⟩ := h0.cell (k * 3 + 1) (by omega)
      have h2 := h1.stored (k * 3 + 1) (Value.int .i64 x1)
      rw [set_next (A := stC k (dD L) A2 ++ [Value.int .i64 x0]) (by simp [HL0.out] <;> omega) (by rw [HZ.out]; omega)] at h2
      have f2 := h0.frozen (k * 3 + 2)
      obtain ⟨y2, c2⟩ := h0.cell (k * 3 + 2) (by omega)
      have h3 := h2.stored (k * 3 + 2) (Value.slice a3 n1 n1)
      rw [set_next (A := stC k (dD L) A2 ++ [Value.int .i64 x0] ++ [Value.int .i64 x1]) (by simp [HL0.out] <;> omega) (by rw [HZ.out]; omega)] at h3
      rw [← HX.out] at h3
      clear h0 h1 h2
      go_wp2
      go_roundw
      case rel => exact ⟨k + 1, A3, by omega, by go_num, by rw [show (k + 1) * 3 = k * 3 + 3 by omega]; exact h3, HIN3⟩
      case measure => simp [intOf]; omega
    · obtain rfl : k = n := by omega
      have hE : stC k (dD L) A2 ++ zs.drop (k * 3) = stC k (dD L) A2 := by
        rw [List.drop_of_length_le (by rw [HZ.out]; exact Nat.le_refl _), List.append_nil]
      rw [hE] at hone
      clear hE
      have HR := Lib.hid (show StAt wr (some ⟨w.heap.size, 0, none⟩) L A2 from ⟨by rw [← HN.out]; exact hone.at_, fun i hi => by
        rw [← HN.out] at hi
        exact ⟨(HIN.out i hi).1, (HIN.out i hi).2.1.at_⟩⟩)
      go_wp2
      go_ret
      exact ⟨_, A2, rfl, HR.out, hone.below⟩

end Go.Proofs.Ytnjiooljoekhmaa
