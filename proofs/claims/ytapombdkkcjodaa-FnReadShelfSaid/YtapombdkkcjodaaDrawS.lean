/-
  The contracts of the draws of chapter 6: numbers, texts and places, shelves, texts of shelves. No conditions.
-/
import Derived.Test.YtapombdkkcjodaaDrawF
import Derived.Test.YtapombdkkcjodaaSixI
import Derived.OpenShut
import Derived.Deep.DrawnRows
import Derived.Deep.RegionWith
namespace Go.Proofs.Ytapombdkkcjodaa
open Go.RowKit

theorem fits_small {x y z : Int} (h1 : x < 2 ^ 63) (h2 : y < 2 ^ 63) (h3 : z < 2 ^ 63) : fits (x, y, z) := ⟨h1, h2, h3⟩
theorem marks_in6 (s : List UInt8) (K V : Int) (x : Int × Int) (hx : x ∈ marksL s K V) : 0 ≤ x.1 ∧ x.1 < 1000003 ∧ 0 ≤ x.2 ∧ x.2 ≤ s.length := by
  have h0 := marksL_bounds s K V x hx
  rw [marksL, List.mem_map] at hx
  obtain ⟨y, hy, rfl⟩ := hx
  have hK : 1 ≤ K := by
    by_cases h : K < 1
    · exfalso
      have h1 := chosenN_len (printsL s K) V
      rw [printsL_bad (.inl h)] at h1
      unfold marksAt at hy
      rw [printsL_bad (.inl h)] at hy
      simp at h1
      rw [h1] at hy
      simp at hy
    · omega
  obtain ⟨k, rfl⟩ : ∃ k : Nat, K = k := ⟨K.toNat, by omega⟩
  have h2 := marksAt_lt s k V (by omega) _ hy
  simp only
  rw [printsN_get _ _ _ (by omega) h2]
  have := prN_lt (pieceL s k y)
  exact ⟨by omega, by omega, h0.1, h0.2⟩
theorem shelf_fit (s : List UInt8) (K V d : Int) (hd : d < 2 ^ 63) (hs : s.length < 2 ^ 62) : ∀ x ∈ shelfL d (marksL s K V), fits x := by
  intro x hx
  by_cases h : d < 0
  · rw [shelfL_not h] at hx; cases hx
  · rw [shelfL_ok h, rowE_mem] at hx
    obtain ⟨m, hm, rfl⟩ := List.mem_map.1 hx
    have := marks_in6 s K V m hm
    exact fits_small (by omega) hd (by omega)
theorem shOk_join6 (A B : List En) : shOk (joinL5 A B) := by
  by_cases h : shOk A ∧ shOk B
  · rw [joinL5_ok h.1 h.2]
    exact shOk_row (fun x hx => by
      rcases List.mem_append.1 hx with h1 | h1
      · exact h.1.1 x h1
      · exact h.2.1 x h1)
  · rw [joinL5_not h]; exact ⟨by simp, .nil⟩
theorem join_fit {A B : List En} (hA : ∀ x ∈ A, fits x) (hB : ∀ x ∈ B, fits x) : ∀ x ∈ joinL5 A B, fits x := by
  intro x hx
  by_cases h : shOk A ∧ shOk B
  · rw [joinL5_ok h.1 h.2, rowE_mem, List.mem_append] at hx
    exact hx.elim (hA x) (hB x)
  · rw [joinL5_not h] at hx; cases hx

theorem odd6_any (w : World) (g : Nat) (a : Option Addr) (n c B : Nat) (m : Nat) (hB : B < 1000000) (h : RdAt w g a n c B) (hm9 : m < 1000000) :
    Calls Try.prog 43 #[.pointer (some ⟨g, 0, none⟩), .int .i64 m] w fun e w' => ∃ b : Bool, e = .returned (.bool b) ∧ (m = 0 → b = false) ∧ RdAt w' g a n c (B + 1) ∧ w.grownBy w' (some g) := by
  by_cases h0 : 0 < m
  · have z1 : (0 : Int) < (m : Int) := by omega
    go_enter Try.func43, Try.ntmps43
    go_wp2_with fail
    refine (pick_pos _ g a n c B (m : Int) hB h (by omega) (by omega)).mono ?_
    rintro e w2 ⟨r, hr, rfl, h2, g2⟩
    clear h
    go_wp2
    go_ret
    exact ⟨_, rfl, fun h9 => by omega, h2, g2⟩
  · obtain rfl : m = 0 := by omega
    go_enter Try.func43, Try.ntmps43
    go_wp2
    go_ret
    exact ⟨_, rfl, fun _ => rfl, h.more (by omega), World.grownBy.refl _ _⟩

set_option maxRecDepth 4000 in
set_option maxHeartbeats 8000000 in
theorem shelfD6_any (w : World) (g : Nat) (a : Option Addr) (n c B : Nat) (m : Nat) (hB : B < 10000) (h : RdAt w g a n c B) (hm9 : m < 1000000) :
    Calls Try.prog 29 #[.pointer (some ⟨g, 0, none⟩), .int .i64 m] w fun e w' => ∃ (L : List En) (a' : Option Addr) (n' c' : Nat), L.length ≤ 40 ∧ (m = 0 → shOk L) ∧ (∀ x ∈ L, fits x) ∧ e = .returned (.slice a' n' c') ∧ w'.ownsRow w.heap.size 48 3 (.slice a' n' c') n' (entsC L) ∧ RdAt w' g a n c (B + 60) ∧ w.grownBy w' (some g) := by
  have hlt := h.lt
  obtain ⟨i0, hi0, hz0, hz1, hz2⟩ := info_parts Try.infoE5
  go_enter Try.func29, Try.ntmps29
  go_wp2_with fail
  refine (pick_pos _ g a n c B 4 (by omega) (rd_alloc h _) (by omega) (by omega)).mono ?_
  rintro e w1 ⟨k0, hk0, rfl, hrd1, hg1⟩
  have hrow0 : w1.ownsRow w.heap.size 48 3 (.slice (some ⟨w.heap.size, 0, none⟩) 0 0) 0 (entsC []) := own_keptS (World.ownsRow_lit (e := 48) (size := 3) w #[] 0 (Nat.le_refl _) (Nat.zero_le _) (by simp)) hg1 hlt
  have hG1 : w.grownBy w1 (some g) := grownBy_trans (World.grownBy_alloc w _ _) hg1
  have hk3 : k0 ≤ 3 := by omega
  clear hg1 h hk0
  go_wp2
  go_loopw [5, 6] (fun v i wr => ∃ (k : Nat) (a1 : Option Addr) (n1 c1 : Nat) (L : List En), k ≤ 3 ∧ i = .int .i64 k ∧ v = .slice a1 n1 c1 ∧ Hid (L.length ≤ 12 * (3 - k)) ∧ Hid (shOk L ∧ ∀ x ∈ L, fits x) ∧ wr.ownsRow w.heap.size 48 3 (.slice a1 n1 c1) n1 (entsC L) ∧ RdAt wr g a n c (B + 1 + (3 - k) * 14) ∧ w.grownBy wr (some g)) (fun _ i _ => (intOf i).toNat)
  case atStart => exact ⟨k0, _, 0, _, [], hk3, rfl, rfl, Lib.hid (by simp), Lib.hid ⟨⟨by simp, .nil⟩, by simp⟩, hrow0, hrd1.more (by omega), hG1⟩
  case round =>
    clear hrow0 hrd1 hG1
    obtain ⟨k, a1, n1, c1, L, hk, rfl, rfl, HL, HSF, hown, hrd, hG⟩ := hrel
    have HN := Lib.hid (ents_len hown)
    have hn1 : n1 ≤ 36 := by have := HN.out; have := HL.out; omega
    by_cases hpos : 0 < k
    · have z1 : (0 : Int) < (k : Int) := by omega
      go_wp2_with fail
      refine (pick_pos _ g a n c _ 4 (by omega) hrd (by omega) (by omega)).mono ?_
      rintro e w2 ⟨r, hr, rfl, hrd2, hg2⟩
      have hown2 := own_keptS hown hg2 hlt
      have hG2 : w.grownBy w2 (some g) := grownBy_trans hG hg2
      clear hg2 hrd hown hG
      go_wp2_with fail
      refine (short_any _ g a n c _ 12 (by omega) (by omega) hrd2).mono ?_
      rintro e w3 ⟨t, ht, rfl, hrd3, hg3⟩
      have hown3 := own_keptS hown2 hg3 hlt
      have hG3 : w.grownBy w3 (some g) := grownBy_trans hG2 hg3
      clear hg3 hrd2 hown2 hG2
      obtain ⟨M, hM⟩ : ∃ M, marksL t.data.toList 2 2 = M := ⟨_, rfl⟩
      have hMl : M.length ≤ 12 := by rw [← hM]; exact Nat.le_trans (marksL_room5 _ _ _) (by have : t.data.toList.length = t.size := rfl; omega)
      go_wp2_with fail
      refine (specShelfOf_any r t 2 2 M _ hM (by omega) (by omega)).mono ?_
      rintro e w4 ⟨gS, nS, cS, rfl, h4⟩
      have hown4 := ownsRow_below hown3 h4.below
      have hrd4 := hrd3.later h4.below
      have hG4 := grown_later hG3 h4.below
      have hS9 : (shelfL r M).length ≤ 12 := Nat.le_trans (shelfL_len _ _) hMl
      have hnS := ents_len h4.own
      have d5 := specJoin5_any L (shelfL r M) a1 (some ⟨gS, 0, none⟩) n1 c1 nS cS w4 HN.out hnS (by omega) (by omega) (cellsAt_own hown4) h4.at_
      have HJF := Lib.hid (show shOk (joinL5 L (shelfL r M)) ∧ ∀ x ∈ joinL5 L (shelfL r M), fits x from ⟨shOk_join6 _ _, join_fit HSF.out.2 (by rw [← hM]; exact shelf_fit t.data.toList 2 2 r (by omega) (by have : t.data.toList.length = t.size := rfl; omega))⟩)
      have HJ := Lib.hid (show (joinL5 L (shelfL r M)).length ≤ 12 * (3 - (k - 1)) by
        have h1 := joinL5_len L (shelfL r M)
        have h2 := HL.out
        omega)
      clear hown3 hrd3 hG3 h4 hS9 hnS hM hMl ht hown4 hr
      go_wp2_with fail
      refine d5.mono ?_
      rintro e w5 ⟨a5, n5, c5, rfl, h5⟩
      have hrd5 := hrd4.later h5.below
      have hG5 := grown_later hG4 h5.below
      have hown5 := own_under h5.own hG4.size
      clear h5 hrd4 hG4 d5
      go_wp2
      go_roundw
      case rel => exact ⟨k - 1, a5, n5, c5, joinL5 L (shelfL r M), by omega, by go_num, rfl, HJ, HJF, hown5, hrd5.more (by omega), hG5⟩
      case measure => simp [intOf]; omega
    · obtain rfl : k = 0 := by omega
      have HL40 := Lib.hid (show L.length ≤ 36 by have := HL.out; omega)
      go_wp2_with fail
      refine (odd6_any _ g a n c _ m (by omega) hrd (by omega)).mono ?_
      rintro e w2 ⟨b, rfl, hmb, hrd2, hg2⟩
      have HMB := Lib.hid hmb
      have hown2 := own_keptS hown hg2 hlt
      have hG2 : w.grownBy w2 (some g) := grownBy_trans hG hg2
      clear hg2 hrd hown hG HL hmb
      cases b with
      | false =>
        go_wp2
        go_ret
        exact ⟨L, a1, n1, c1, by have := HL40.out; omega, fun _ => HSF.out.1, HSF.out.2, rfl, hown2, hrd2.more (by omega), hG2⟩
      | true =>
        go_wp2_with fail
        refine (pick_pos _ g a n c _ 5 (by omega) (rd_alloc hrd2 _) (by omega) (by omega)).mono ?_
        rintro e w3 ⟨r, hr, rfl, hrd3, hg3⟩
        have hrow := laid_row hg3 hrd2.lt
        have hown3 := own_keptS (hown2.alloc _) hg3 hlt
        have hG3 : w.grownBy w3 (some g) := grownBy_trans (grownBy_trans hG2 (World.grownBy_alloc w2 _ _)) hg3
        obtain ⟨hs, hhs⟩ : ∃ hs, w2.heap.size = hs := ⟨_, rfl⟩
        rw [hhs] at hrow
        rw [hhs]
        have kc := fun j => cell_of_row w3 hs j _ _ _ hrow
        obtain ⟨x, y, z, hfx, q1, q2, q3⟩ : ∃ x y z : Int, fits (x, y, z) ∧ w3.cell? ⟨hs, r * 3, none⟩ = some (.int .i64 x) ∧ w3.cell? ⟨hs, r * 3 + 1, none⟩ = some (.int .i64 y) ∧ w3.cell? ⟨hs, r * 3 + 2, none⟩ = some (.int .i64 z) := by
          rw [kc, kc, kc]
          have : r = 0 ∨ r = 1 ∨ r = 2 ∨ r = 3 ∨ r = 4 := by omega
          rcases this with rfl | rfl | rfl | rfl | rfl
          all_goals exact ⟨_, _, _, fits_small (by omega) (by omega) (by omega), rfl, rfl, rfl⟩
        have hE : entsC (L ++ [(x, y, z)]) = entsC L ++ [.int .i64 x, .int .i64 y, .int .i64 z] := entsC_snoc _ _
        have HE := Lib.hid hE
        have HFX := Lib.hid (show ∀ e ∈ L ++ [(x, y, z)], fits e from fun e he => by
          rcases List.mem_append.1 he with h1 | h1
          · exact HSF.out.2 e h1
          · rw [List.mem_singleton] at h1; subst h1; exact hfx)
        have z2 : (r : Int) < 5 := by omega
        have z3 : (0 : Int) ≤ (r : Int) := by omega
        clear hown2 hG2 hrd2 hg3 hrow kc hE hhs hfx
        go_wp2_with (at_builtin; refine wpList_append_one rfl (.tmp 24) (.tmp 35) 31 rfl w.heap.size 48 i0 _ 3 24 Try.ulE5 hi0 hz0 hz1 hz2 rfl (by decide) a1 n1 c1 _ rfl hown3 #[.int .i64 x, .int .i64 y, .int .i64 z] rfl rfl (by simp [Value.oneCell']) (by unfold maxLen; omega) (by omega) hG3.size ?_; intro a4 c4 w4 h4 hg4)
        have hG4 := grown_ownS hG3 hown3 (Nat.le_refl _) hg4
        have hrd4 := rd_ownS hrd3 hown3 hlt hg4
        clear hown3 hG3 hrd3 hg4
        go_ret
        exact ⟨L ++ [(x, y, z)], by have := HL40.out; simp; omega, fun h9 => absurd (HMB.out h9) (by decide), fun _ _ _ h => HFX.out _ h, a4, n1 + 1, c4, rfl, by rw [HE.out]; exact h4, hrd4.more (by omega), hG4⟩


set_option maxHeartbeats 2000000 in
theorem DrawShelfText_any (w : World) (a : Option Addr) (len cap : Nat) (zs : List Int) (h : IsRowK .u8 w a len cap zs) :
    Calls Try.prog 17 #[.slice a len cap] w fun e w' => ∃ (L : List En) (a1 : Option Addr) (n1 c1 : Nat), e = .returned (.slice a1 n1 c1) ∧ L.length ≤ 41 ∧ (∀ x ∈ L, fits x) ∧ EnAt w' a1 n1 c1 L ∧ Below w.heap.size w w' := by
  obtain ⟨i0, hi0, hz0, hz1, hz2⟩ := info_parts Try.infoE5
  go_enter Try.func17, Try.ntmps17
  go_wp2_with fail
  refine (open_any _ _ _ _ _ h).mono ?_
  rintro e w1 ⟨n, rfl, hrd, hb, hs⟩
  go_wp2_with fail
  refine (shelfD6_any _ _ a n cap 0 12 (by omega) hrd (by omega)).mono ?_
  rintro e w2 ⟨L, a2, n2, c2, hL, _, hf, rfl, ho, hrd2, hg2⟩
  go_wp2_with fail
  refine (pick_pos _ _ a n cap _ 4 (by omega) hrd2 (by omega) (by omega)).mono ?_
  rintro e w3 ⟨r, hr, rfl, _, hg3⟩
  have hG := grownBy_trans hg2 hg3
  have ho3 := own_keptS ho hg3 (by omega)
  have HN := Lib.hid (ents_len ho3)
  have hn2 : n2 ≤ 40 := by have := HN.out; omega
  have HF := Lib.hid hf
  clear hrd hrd2 h hg2 hg3 ho hf
  by_cases hr0 : r = 0
  · subst hr0
    have HE := Lib.hid (entsC_snoc L (1000002, 9223372036854775807, 9223372036854775807))
    have HFX := Lib.hid (show ∀ e ∈ L ++ [((1000002, 9223372036854775807, 9223372036854775807) : En)], fits e from fun e he => by
      rcases List.mem_append.1 he with h1 | h1
      · exact HF.out e h1
      · rw [List.mem_singleton] at h1; subst h1; exact fits_small (by omega) (by omega) (by omega))
    go_wp2_with (at_builtin; refine wpList_append_one rfl (.tmp 12) (.tmp 14) 31 rfl w1.heap.size 48 i0 _ 3 24 Try.ulE5 hi0 hz0 hz1 hz2 rfl (by decide) a2 n2 c2 _ rfl ho3 #[.int .i64 1000002, .int .i64 9223372036854775807, .int .i64 9223372036854775807] rfl rfl (by simp [Value.oneCell']) (by unfold maxLen; omega) (by omega) hG.size ?_; intro a4 c4 w4 h4 hg4)
    have hG4 := grown_ownS hG ho3 (Nat.le_refl _) hg4
    have hB := below_rdD hb hs hG4
    have hS := enAt_of (L := L ++ [(1000002, 9223372036854775807, 9223372036854775807)]) (by rw [HE.out]; exact h4)
    clear hG hg4 ho3 h4
    go_ret
    exact ⟨_, _, _, _, rfl, by have := hL; simp; omega, fun _ _ _ h => HFX.out _ h, hS, hB⟩
  · have t0 : ((r : Int) == 0) = false := by simp; omega
    have hB := below_rdD hb hs hG
    have hS := enAt_of ho3
    clear hG ho3
    go_wp2
    go_ret
    exact ⟨L, _, _, _, rfl, by omega, HF.out, hS, hB⟩

end Go.Proofs.Ytapombdkkcjodaa
