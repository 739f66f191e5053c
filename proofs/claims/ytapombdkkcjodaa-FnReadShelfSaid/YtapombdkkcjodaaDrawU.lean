/-
  The contract of the draw of chapter 6's law ReadShelf: a text of at most 2500 bytes. No conditions.
-/
import Derived.Test.YtapombdkkcjodaaDrawT
import Derived.Test.YtapombdkkcjodaaLawsTZB
namespace Go.Proofs.Ytapombdkkcjodaa
open Go.RowKit

theorem pick_hU (W w : World) (g : Nat) (a : Option Addr) (n c B : Nat) (m : Int) (hG : W.grownBy w (some g)) (h : RdAt w g a n c B) (hB : B < 1000000) (h0 : 0 < m) (hm9 : m < 1000000) :
    Calls Try.prog 27 #[.pointer (some ⟨g, 0, none⟩), .int .i64 m] w fun e w' => ∃ r : Nat, (r : Int) < m ∧ e = .returned (.int .i64 r) ∧ RdAt w' g a n c (B + 1) ∧ W.grownBy w' (some g) :=
  (pick_pos w g a n c B m hB h h0 hm9).mono fun _ _ ⟨r, hr, he, hrd, hg⟩ => ⟨r, hr, he, hrd, grownBy_trans hG hg⟩
/-- The text of four that is asked for. -/
def four4 (r : Nat) : ByteArray := if r = 0 then ⟨#[128]⟩ else if r = 1 then ⟨#[0]⟩ else if r = 2 then ⟨#[1]⟩ else ⟨#[255]⟩
theorem four4_size (r : Nat) : (four4 r).size = 1 := by
  unfold four4
  split
  · rfl
  · split
    · rfl
    · split <;> rfl
theorem four_new (w : World) (e : TypeId) (r : Nat) (hr : (r : Int) < 4) :
    (w.alloc (.cells #[.string ⟨#[128]⟩, .string ⟨#[0]⟩, .string ⟨#[1]⟩, .string ⟨#[255]⟩] e)).cell? ⟨w.heap.size, r, none⟩ = some (.string (four4 r)) := by
  rw [cell_of_row _ w.heap.size _ _ e (0, 0) (heap_alloc_new w _)]
  have h : r = 0 ∨ r = 1 ∨ r = 2 ∨ r = 3 := by omega
  rcases h with rfl | rfl | rfl | rfl <;> rfl

theorem one_byteU (w : World) (r : Nat) : ∃ F : ByteArray, F.size ≤ 1 ∧ (convert 22 9 (.slice (some ⟨w.heap.size, 0, none⟩) 1 1)).run Try.prog (w.alloc (.cells #[.int .u8 (r : Int)] 5)) = .ok (.string F) (w.alloc (.cells #[.int .u8 (r : Int)] 5)) := by
  refine ⟨[(r : Int)].foldl (fun b n => b.push (UInt8.ofNat n.toNat)) ByteArray.empty, ?_, ?_⟩
  rotate_left
  · rw [run_convert_bytes_string _ 22 9 5 _ 1 1 Try.ulB6 Try.ulb6 Try.uls6]
    have hl := run_loadCells_list (P := Try.prog) (w.alloc (.cells #[.int .u8 (r : Int)] 5)) ⟨w.heap.size, 0, none⟩ [.int .u8 (r : Int)] (fun j u hj => by
      rw [Addr.add_lit, cell_of_row _ w.heap.size (0 + j) _ 5 (0, 0) (heap_alloc_new w _)]
      simpa using hj)
    exact run_bytesToString _ ⟨w.heap.size, 0, none⟩ 1 1 [(r : Int)] hl
  · exact Nat.le_of_eq (by simp [ByteArray.size, ByteArray.push])

set_option maxRecDepth 4000 in
set_option maxHeartbeats 8000000 in
theorem DrawReadShelf_any (w : World) (a : Option Addr) (len cap : Nat) (zs : List Int) (h : IsRowK .u8 w a len cap zs) :
    Calls Try.prog 23 #[.slice a len cap] w fun e w' => ∃ s : ByteArray, e = .returned (.string s) ∧ s.size ≤ 2500 ∧ Below w.heap.size w w' := by
  go_enter Try.func23, Try.ntmps23
  go_wp2_with fail
  refine (open_any _ _ _ _ _ h).mono ?_
  rintro e w1 ⟨n, rfl, hrd, hb, hs⟩
  obtain ⟨g, hg⟩ : ∃ g, w.heap.size = g := ⟨_, rfl⟩
  have HBD := Lib.hid (show ∀ w2, w1.grownBy w2 (some g) → Below w.heap.size w w2 from fun w2 k => below_rdD hb hs (by rw [hg]; exact k))
  rw [hg] at hrd
  rw [hg]
  have hlt := hrd.lt
  clear h hb hs hg
  go_wp2_with fail
  refine (shelfD6_any _ _ a n cap 0 0 (by omega) hrd (by omega)).mono ?_
  rintro e w2 ⟨L, a2, n2, c2, hL, hok, hf, rfl, ho, hrd2, hg2⟩
  have hok := hok rfl
  have hE := enAt_of ho
  have hsm := text_small hok hf (by omega)
  have hsz := textB_size hok
  obtain ⟨R, hR⟩ : ∃ R, textB L = R := ⟨_, rfl⟩
  have ct := specText_any L a2 n2 c2 w2 hE.len (by have := hE.len; omega) hf hE.at_
  rw [hR] at ct hsm hsz
  have hR1 : 1 ≤ R.size := by omega
  clear hok hf hE ho hR hsz hrd hL
  go_wp2_with fail
  refine ct.mono ?_
  rintro e w3 ⟨rfl, b3⟩
  have hrd3 := hrd2.later b3
  have hg3 := grown_later hg2 b3
  clear ct hrd2 hg2 b3
  go_wp2_with fail
  refine (pick_pos _ _ a n cap _ 5 (by omega) hrd3 (by omega) (by omega)).mono ?_
  rintro e w4 ⟨r, hr, rfl, hrd4, hg4⟩
  have hg4 := grownBy_trans hg3 hg4
  clear hrd3 hg3
  obtain rfl | rfl | rfl | rfl | rfl : r = 0 ∨ r = 1 ∨ r = 2 ∨ r = 3 ∨ r = 4 := by omega
  · go_wp2_with fail
    refine (pick_pos _ _ a n cap _ ((R.size : Int) + 1) (by omega) hrd4 (by omega) (by omega)).mono ?_
    rintro e w5 ⟨k, hk, rfl, _, hg5⟩
    have hB := HBD.out _ (grownBy_trans hg4 hg5)
    have hk2 : (k : Int) ≤ (R.size : Int) := by omega
    have hk0 : (0 : Int) ≤ (k : Int) := by omega
    clear hrd4 hg4 hg5
    go_wp2
    go_ret
    exact ⟨_, rfl, by rw [ByteArray.size_extract]; omega, hB⟩
  · have hB := HBD.out _ hg4
    clear hrd4 hg4
    go_wp2
    go_ret
    exact ⟨_, rfl, by rw [ByteArray.size_append]; show R.size + 1 ≤ _; omega, hB⟩
  · go_wp2_with fail
    refine (pick_pos _ _ a n cap _ ((R.size : Int) + 1) (by omega) hrd4 (by omega) (by omega)).mono ?_
    rintro e w5 ⟨k, hk, rfl, hrd5, hg5⟩
    have hg5 := grownBy_trans hg4 hg5
    have hk2 : (k : Int) ≤ (R.size : Int) := by omega
    have hk0 : (0 : Int) ≤ (k : Int) := by omega
    clear hrd4 hg4
    go_wp2
    obtain ⟨P, hP⟩ : ∃ P, R.extract 0 k = P := ⟨_, rfl⟩
    obtain ⟨Q, hQ⟩ : ∃ Q, R.extract k R.size = Q := ⟨_, rfl⟩
    have hPz : P.size ≤ 1200 := by rw [← hP, ByteArray.size_extract]; omega
    have hQz : Q.size ≤ 1200 := by rw [← hQ, ByteArray.size_extract]; omega
    have sl1 : ∀ w, (Instr.slice 9 (.string R) none (some (.int .i64 (k : Int))) none).run Try.prog w = .ok (.string P) w := fun w => by
      have h1 := run_slice_string_h (P := Try.prog) w 9 R Try.uls6 .i64 (k : Int) (by omega) (by omega)
      rwa [Int.toNat_natCast, hP] at h1
    have sl2 : ∀ w, (Instr.slice 9 (.string R) (some (.int .i64 (k : Int))) none none).run Try.prog w = .ok (.string Q) w := fun w => by
      have h1 := run_slice_string_l (P := Try.prog) w 9 R Try.uls6 .i64 (k : Int) (by omega) (by omega)
      rwa [Int.toNat_natCast, hQ] at h1
    have HR5 := Lib.hid hrd5
    have HG5 := Lib.hid hg5
    have hlt5 := hrd5.lt
    clear hrd5 hg5 hP hQ
    refine wp_region_held_drew (S := fun _ => True) (by kernel_rfl) trivial (fun hHeld => ?_)
    refine wpAnyH_take (i := 0) (v := .string R) rfl (by kernel_rfl) (by kernel_rfl) (by kernel_rfl) (fun _ _ _ h => h) (Or.inl ⟨by kernel_rfl, fun w' hSw => ?_⟩) hHeld ?_
    · clear hSw; go_simp
    (try simp only [Act.put, List.setIfInBounds_toArray])
    refine wpAnyH_take (i := 1) (v := .int .i64 (k : Int)) rfl (by kernel_rfl) (by kernel_rfl) (by kernel_rfl) (fun _ _ _ h => h) (Or.inl ⟨by kernel_rfl, fun w' hSw => ?_⟩) hHeld ?_
    · clear hSw; go_simp
    (try simp only [Act.put])
    refine wpAnyH_take (i := 2) (v := .string P) rfl (by kernel_rfl) (by kernel_rfl) (by kernel_rfl) (fun _ _ _ h => h) (Or.inl ⟨by kernel_rfl, fun w' hSw => ?_⟩) hHeld ?_
    · clear hSw; go_simp
    (try simp only [Act.put])
    refine wpAnyH_take (i := 4) (v := .pointer (some ⟨g, 0, none⟩)) rfl (by kernel_rfl) (by kernel_rfl) (by kernel_rfl) (fun _ _ _ h => h) (Or.inl ⟨by kernel_rfl, fun w' hSw => ?_⟩) hHeld ?_
    · clear hSw; go_simp
    (try simp only [Act.put])
    refine wpAnyH_take (i := 9) (v := .string R) rfl (by kernel_rfl) (by kernel_rfl) (by kernel_rfl) (fun _ _ _ h => h) (Or.inl ⟨by kernel_rfl, fun w' hSw => ?_⟩) hHeld ?_
    · clear hSw; go_simp
    (try simp only [Act.put])
    refine wpAnyH_take (i := 10) (v := .int .i64 (k : Int)) rfl (by kernel_rfl) (by kernel_rfl) (by kernel_rfl) (fun _ _ _ h => h) (Or.inl ⟨by kernel_rfl, fun w' hSw => ?_⟩) hHeld ?_
    · clear hSw; go_simp
    (try simp only [Act.put])
    refine wpAnyH_take (i := 11) (v := .string Q) rfl (by kernel_rfl) (by kernel_rfl) (by kernel_rfl) (fun _ _ _ h => h) (Or.inl ⟨by kernel_rfl, fun w' hSw => ?_⟩) hHeld ?_
    · clear hSw; go_simp
    (try simp only [Act.put])
    refine wpAnyH_ready (rs := [3, 5]) (by kernel_rfl) (by simp) ?_
    refine AllReadyH.cons (o := _) rfl (fun K hK => ?_) ?_
    · go_simp
      (try dsimp only)
      refine hK.out _ _ trivial (fun hHeld => ?_)
      clear hK K
      (try simp only [Act.put, List.setIfInBounds_toArray, List.set_cons_zero, List.set_cons_succ])
      refine wpAnyH_ready (rs := [5]) (by kernel_rfl) (by simp) ?_
      refine AllReadyH.cons (o := _) rfl (fun K hK => ?_) AllReadyH.nil
      go_simp
      have HA : RdAt (w5.alloc (.cells #[.string ⟨#[128]⟩, .string ⟨#[0]⟩, .string ⟨#[1]⟩, .string ⟨#[255]⟩] 9)).drew g a n cap _ := (rd_alloc HR5.out (.cells #[.string ⟨#[128]⟩, .string ⟨#[0]⟩, .string ⟨#[1]⟩, .string ⟨#[255]⟩] 9)).kept (fun _ _ => rfl)
      refine (pick_pos _ _ a n cap _ 4 (by omega) HA (by omega) (by omega)).mono ?_
      rintro e w6 ⟨r, hr, rfl, _, hg6⟩
      have hg6 : (w5.alloc (.cells #[.string ⟨#[128]⟩, .string ⟨#[0]⟩, .string ⟨#[1]⟩, .string ⟨#[255]⟩] 9)).grownBy w6 (some g) := ⟨hg6.os, hg6.tape, hg6.output, hg6.size, hg6.block⟩
      have q1 : w6.cell? ⟨w5.heap.size, r, none⟩ = some (.string (four4 r)) := (World.cell?_of_block (w := w5.alloc (.cells #[.string ⟨#[128]⟩, .string ⟨#[0]⟩, .string ⟨#[1]⟩, .string ⟨#[255]⟩] 9)) (hg6.block w5.heap.size (by simp) (by simp; omega))).trans (four_new w5 9 r hr)
      have HBW := Lib.hid (HBD.out _ (grownBy_trans HG5.out (grownBy_trans (World.grownBy_alloc w5 _ _) hg6)))
      obtain ⟨F, hF⟩ : ∃ F, four4 r = F := ⟨_, rfl⟩
      have hFz : F.size ≤ 1 := by rw [← hF, four4_size]; exact Nat.le_refl _
      rw [hF] at q1
      have z2 : (r : Int) < 4 := by omega
      have z3 : (0 : Int) ≤ (r : Int) := by omega
      clear hF hg6
      (try dsimp only)
      refine hK.out _ _ trivial (fun hHeld => ?_)
      clear hK K
      (try simp only [Act.put, List.setIfInBounds_toArray, List.set_cons_zero, List.set_cons_succ])
      refine wpAnyH_take (i := 6) (v := .pointer (some ⟨w5.heap.size, r, none⟩)) rfl (by kernel_rfl) (by kernel_rfl) (by kernel_rfl) (fun _ _ _ h => h) (Or.inl ⟨by kernel_rfl, fun w' hSw => ?_⟩) hHeld ?_
      · clear hSw; go_simp
      (try simp only [Act.put, List.setIfInBounds_toArray])
      refine wpAnyH_ready (rs := [7]) (by kernel_rfl) (by simp) ?_
      refine AllReadyH.cons (o := _) rfl (fun K hK => ?_) AllReadyH.nil
      go_simp
      (try dsimp only)
      refine hK.out _ _ trivial (fun hHeld => ?_)
      clear hK K
      (try simp only [Act.put, List.setIfInBounds_toArray, List.set_cons_zero, List.set_cons_succ])
      refine wpAnyH_take (i := 8) (v := .string (P ++ F)) rfl (by kernel_rfl) (by kernel_rfl) (by kernel_rfl) (fun _ _ _ h => h) (Or.inl ⟨by kernel_rfl, fun w' hSw => ?_⟩) hHeld ?_
      · clear hSw; go_simp; omega
      (try simp only [Act.put, List.setIfInBounds_toArray])
      refine wpAnyH_take (i := 12) (v := .string (P ++ F ++ Q)) rfl (by kernel_rfl) (by kernel_rfl) (by kernel_rfl) (fun _ _ _ h => h) (Or.inl ⟨by kernel_rfl, fun w' hSw => ?_⟩) hHeld ?_
      · clear hSw; go_simp; omega
      (try simp only [Act.put])
      refine wpAnyH_take (i := 13) (v := .string (P ++ F ++ Q) ) rfl (by kernel_rfl) (by kernel_rfl) (by kernel_rfl) (fun _ _ _ h => h) (Or.inl ⟨by kernel_rfl, fun w' hSw => ?_⟩) hHeld ?_
      · clear hSw; go_simp
      (try simp only [Act.put])
      refine wpAnyH_done (by kernel_rfl) ?_ _
      go_wp2
      go_ret
      exact ⟨_, rfl, by rw [ByteArray.size_append, ByteArray.size_append]; omega, HBW.out⟩
    · refine AllReadyH.cons (o := _) rfl (fun K hK => ?_) AllReadyH.nil
      go_simp
      have HA : RdAt w5.drew g a n cap _ := HR5.out.kept (fun _ _ => rfl)
      refine (pick_pos _ _ a n cap _ 4 (by omega) HA (by omega) (by omega)).mono ?_
      rintro e w6 ⟨r, hr, rfl, _, hg6⟩
      have hg6 : w5.grownBy w6 (some g) := ⟨hg6.os, hg6.tape, hg6.output, hg6.size, hg6.block⟩
      have q1 := four_new w6 9 r hr
      have hB6 := HBD.out _ (grownBy_trans HG5.out hg6)
      have HBW := Lib.hid (hB6.alloc hB6.size (.cells #[.string ⟨#[128]⟩, .string ⟨#[0]⟩, .string ⟨#[1]⟩, .string ⟨#[255]⟩] 9))
      obtain ⟨F, hF⟩ : ∃ F, four4 r = F := ⟨_, rfl⟩
      have hFz : F.size ≤ 1 := by rw [← hF, four4_size]; exact Nat.le_refl _
      rw [hF] at q1
      have z2 : (r : Int) < 4 := by omega
      have z3 : (0 : Int) ≤ (r : Int) := by omega
      clear hF hg6 hB6
      (try dsimp only)
      refine hK.out _ _ trivial (fun hHeld => ?_)
      clear hK K
      (try simp only [Act.put, List.setIfInBounds_toArray, List.set_cons_zero, List.set_cons_succ])
      refine wpAnyH_ready (rs := [3]) (by kernel_rfl) (by simp) ?_
      refine AllReadyH.cons (o := _) rfl (fun K hK => ?_) AllReadyH.nil
      go_simp
      (try dsimp only)
      refine hK.out _ _ trivial (fun hHeld => ?_)
      clear hK K
      (try simp only [Act.put, List.setIfInBounds_toArray, List.set_cons_zero, List.set_cons_succ])
      refine wpAnyH_take (i := 6) (v := .pointer (some ⟨w6.heap.size, r, none⟩)) rfl (by kernel_rfl) (by kernel_rfl) (by kernel_rfl) (fun _ _ _ h => h) (Or.inl ⟨by kernel_rfl, fun w' hSw => ?_⟩) hHeld ?_
      · clear hSw; go_simp
      (try simp only [Act.put, List.setIfInBounds_toArray])
      refine wpAnyH_ready (rs := [7]) (by kernel_rfl) (by simp) ?_
      refine AllReadyH.cons (o := _) rfl (fun K hK => ?_) AllReadyH.nil
      go_simp
      (try dsimp only)
      refine hK.out _ _ trivial (fun hHeld => ?_)
      clear hK K
      (try simp only [Act.put, List.setIfInBounds_toArray, List.set_cons_zero, List.set_cons_succ])
      refine wpAnyH_take (i := 8) (v := .string (P ++ F)) rfl (by kernel_rfl) (by kernel_rfl) (by kernel_rfl) (fun _ _ _ h => h) (Or.inl ⟨by kernel_rfl, fun w' hSw => ?_⟩) hHeld ?_
      · clear hSw; go_simp; omega
      (try simp only [Act.put, List.setIfInBounds_toArray])
      refine wpAnyH_take (i := 12) (v := .string (P ++ F ++ Q)) rfl (by kernel_rfl) (by kernel_rfl) (by kernel_rfl) (fun _ _ _ h => h) (Or.inl ⟨by kernel_rfl, fun w' hSw => ?_⟩) hHeld ?_
      · clear hSw; go_simp; omega
      (try simp only [Act.put])
      refine wpAnyH_take (i := 13) (v := .string (P ++ F ++ Q) ) rfl (by kernel_rfl) (by kernel_rfl) (by kernel_rfl) (fun _ _ _ h => h) (Or.inl ⟨by kernel_rfl, fun w' hSw => ?_⟩) hHeld ?_
      · clear hSw; go_simp
      (try simp only [Act.put])
      refine wpAnyH_done (by kernel_rfl) ?_ _
      go_wp2
      go_ret
      exact ⟨_, rfl, by rw [ByteArray.size_append, ByteArray.size_append]; omega, HBW.out⟩
  · go_wp2_with fail
    refine (pick_pos _ _ a n cap _ (R.size : Int) (by omega) hrd4 (by omega) (by omega)).mono ?_
    rintro e w5 ⟨k, hk, rfl, hrd5, hg5⟩
    have hg5 := grownBy_trans hg4 hg5
    have hk2 : (k : Int) ≤ (R.size : Int) := by omega
    have hk3 : (k : Int) + 1 ≤ (R.size : Int) := by omega
    have hk0 : (0 : Int) ≤ (k : Int) := by omega
    clear hrd4 hg4
    go_wp2
    obtain ⟨P, hP⟩ : ∃ P, R.extract 0 k = P := ⟨_, rfl⟩
    obtain ⟨Q, hQ⟩ : ∃ Q, R.extract (k + 1) R.size = Q := ⟨_, rfl⟩
    have hPz : P.size ≤ 1200 := by rw [← hP, ByteArray.size_extract]; omega
    have hQz : Q.size ≤ 1200 := by rw [← hQ, ByteArray.size_extract]; omega
    have sl1 : ∀ w, (Instr.slice 9 (.string R) none (some (.int .i64 (k : Int))) none).run Try.prog w = .ok (.string P) w := fun w => by
      have h1 := run_slice_string_h (P := Try.prog) w 9 R Try.uls6 .i64 (k : Int) (by omega) (by omega)
      rwa [Int.toNat_natCast, hP] at h1
    have sl2 : ∀ w, (Instr.slice 9 (.string R) (some (.int .i64 ((k : Int) + 1))) none none).run Try.prog w = .ok (.string Q) w := fun w => by
      have h1 := run_slice_string_l (P := Try.prog) w 9 R Try.uls6 .i64 ((k : Int) + 1) (by omega) (by omega)
      rwa [show ((k : Int) + 1).toNat = k + 1 by omega, hQ] at h1
    have HR5 := Lib.hid hrd5
    have HG5 := Lib.hid hg5
    have hlt5 := hrd5.lt
    clear hrd5 hg5 hP hQ
    refine wp_region_held_drew (S := fun _ => True) (by kernel_rfl) trivial (fun hHeld => ?_)
    refine wpAnyH_take (i := 0) (v := .string R) rfl (by kernel_rfl) (by kernel_rfl) (by kernel_rfl) (fun _ _ _ h => h) (Or.inl ⟨by kernel_rfl, fun w' hSw => ?_⟩) hHeld ?_
    · clear hSw; go_simp
    (try simp only [Act.put, List.setIfInBounds_toArray])
    refine wpAnyH_take (i := 1) (v := .int .i64 (k : Int)) rfl (by kernel_rfl) (by kernel_rfl) (by kernel_rfl) (fun _ _ _ h => h) (Or.inl ⟨by kernel_rfl, fun w' hSw => ?_⟩) hHeld ?_
    · clear hSw; go_simp
    (try simp only [Act.put])
    refine wpAnyH_take (i := 2) (v := .string P) rfl (by kernel_rfl) (by kernel_rfl) (by kernel_rfl) (fun _ _ _ h => h) (Or.inl ⟨by kernel_rfl, fun w' hSw => ?_⟩) hHeld ?_
    · clear hSw; go_simp
    (try simp only [Act.put])
    refine wpAnyH_take (i := 3) (v := .pointer (some ⟨g, 0, none⟩)) rfl (by kernel_rfl) (by kernel_rfl) (by kernel_rfl) (fun _ _ _ h => h) (Or.inl ⟨by kernel_rfl, fun w' hSw => ?_⟩) hHeld ?_
    · clear hSw; go_simp
    (try simp only [Act.put])
    refine wpAnyH_take (i := 9) (v := .string R) rfl (by kernel_rfl) (by kernel_rfl) (by kernel_rfl) (fun _ _ _ h => h) (Or.inl ⟨by kernel_rfl, fun w' hSw => ?_⟩) hHeld ?_
    · clear hSw; go_simp
    (try simp only [Act.put])
    refine wpAnyH_take (i := 10) (v := .int .i64 (k : Int)) rfl (by kernel_rfl) (by kernel_rfl) (by kernel_rfl) (fun _ _ _ h => h) (Or.inl ⟨by kernel_rfl, fun w' hSw => ?_⟩) hHeld ?_
    · clear hSw; go_simp
    (try simp only [Act.put])
    refine wpAnyH_take (i := 11) (v := .int .i64 ((k : Int) + 1)) rfl (by kernel_rfl) (by kernel_rfl) (by kernel_rfl) (fun _ _ _ h => h) (Or.inl ⟨by kernel_rfl, fun w' hSw => ?_⟩) hHeld ?_
    · clear hSw; go_simp; exact IntWalk.i64_in _ (by omega)
    (try simp only [Act.put])
    refine wpAnyH_take (i := 12) (v := .string Q) rfl (by kernel_rfl) (by kernel_rfl) (by kernel_rfl) (fun _ _ _ h => h) (Or.inl ⟨by kernel_rfl, fun w' hSw => ?_⟩) hHeld ?_
    · clear hSw; go_simp
    (try simp only [Act.put])
    refine wpAnyH_ready (rs := [4]) (by kernel_rfl) (by simp) ?_
    refine AllReadyH.cons (o := _) rfl (fun K hK => ?_) AllReadyH.nil
    go_simp
    have HA : RdAt w5.drew g a n cap _ := HR5.out.kept (fun _ _ => rfl)
    refine (pick_pos _ _ a n cap _ 256 (by omega) HA (by omega) (by omega)).mono ?_
    rintro e w6 ⟨r, hr, rfl, _, hg6⟩
    have hg6 : w5.grownBy w6 (some g) := ⟨hg6.os, hg6.tape, hg6.output, hg6.size, hg6.block⟩
    have hB6 := HBD.out _ (grownBy_trans HG5.out hg6)
    have HBW := Lib.hid (hB6.alloc hB6.size (.cells #[.int .u8 (r : Int)] 5))
    have e3 : IntKind.u8.wrap (r : Int) = (r : Int) := by simp [IntKind.wrap, IntKind.bits, IntKind.signed]; omega
    obtain ⟨F, hFz, hcv⟩ := one_byteU w6 r
    have z3 : (0 : Int) ≤ (r : Int) := by omega
    clear hg6 hB6
    (try dsimp only)
    refine hK.out _ _ trivial (fun hHeld => ?_)
    clear hK K
    (try simp only [Act.put, List.setIfInBounds_toArray, List.set_cons_zero, List.set_cons_succ])
    refine wpAnyH_take (i := 5) (v := .int .u8 (r : Int)) rfl (by kernel_rfl) (by kernel_rfl) (by kernel_rfl) (fun _ _ _ h => h) (Or.inl ⟨by kernel_rfl, fun w' hSw => ?_⟩) hHeld ?_
    · clear hSw; go_simp
    (try simp only [Act.put, List.setIfInBounds_toArray])
    refine wpAnyH_ready (rs := [6]) (by kernel_rfl) (by simp) ?_
    refine AllReadyH.cons (o := _) rfl (fun K hK => ?_) AllReadyH.nil
    go_simp
    (try dsimp only)
    refine hK.out _ _ trivial (fun hHeld => ?_)
    clear hK K
    (try simp only [Act.put, List.setIfInBounds_toArray, List.set_cons_zero, List.set_cons_succ])
    refine wpAnyH_ready (rs := [7]) (by kernel_rfl) (by simp) ?_
    refine AllReadyH.cons (o := _) rfl (fun K hK => ?_) AllReadyH.nil
    go_simp
    (try dsimp only)
    refine hK.out _ _ trivial (fun hHeld => ?_)
    clear hK K
    (try simp only [Act.put, List.setIfInBounds_toArray, List.set_cons_zero, List.set_cons_succ])
    refine wpAnyH_take (i := 8) (v := .string (P ++ F)) rfl (by kernel_rfl) (by kernel_rfl) (by kernel_rfl) (fun _ _ _ h => h) (Or.inl ⟨by kernel_rfl, fun w' hSw => ?_⟩) hHeld ?_
    · clear hSw; go_simp; omega
    (try simp only [Act.put, List.setIfInBounds_toArray])
    refine wpAnyH_take (i := 13) (v := .string (P ++ F ++ Q)) rfl (by kernel_rfl) (by kernel_rfl) (by kernel_rfl) (fun _ _ _ h => h) (Or.inl ⟨by kernel_rfl, fun w' hSw => ?_⟩) hHeld ?_
    · clear hSw; go_simp; omega
    (try simp only [Act.put])
    refine wpAnyH_take (i := 14) (v := .string (P ++ F ++ Q)) rfl (by kernel_rfl) (by kernel_rfl) (by kernel_rfl) (fun _ _ _ h => h) (Or.inl ⟨by kernel_rfl, fun w' hSw => ?_⟩) hHeld ?_
    · clear hSw; go_simp
    (try simp only [Act.put])
    refine wpAnyH_done (by kernel_rfl) ?_ _
    go_wp2
    go_ret
    exact ⟨_, rfl, by rw [ByteArray.size_append, ByteArray.size_append]; omega, HBW.out⟩
  · have hB := HBD.out _ hg4
    clear hrd4 hg4
    go_wp2
    go_ret
    exact ⟨_, rfl, by omega, hB⟩

end Go.Proofs.Ytapombdkkcjodaa
