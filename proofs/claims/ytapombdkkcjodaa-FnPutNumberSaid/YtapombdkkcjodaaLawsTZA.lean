/-
  The walks of chapter 6's laws AnyReadShelf and AnyTakeNumber, over whatever texts: each returns true, and nothing that was there is written. No conditions.
-/
import Derived.Test.YtapombdkkcjodaaSixI
import Derived.Test.YtapombdkkcjodaaHelpE
namespace Go.Proofs.Ytapombdkkcjodaa
open Go.RowKit

theorem wf_boundsZ {n : Int} (h : (Lit.int .i64 n).wf = true) : -9223372036854775808 ≤ n ∧ n ≤ 9223372036854775807 := by
  simp [Lit.wf, IntKind.min, IntKind.max, IntKind.signed, IntKind.bits] at h
  omega
/-- What is read of a text: none, or the shelf whose text it is. -/
theorem read_cases (s : ByteArray) : (readT wrap64 s = ([], false)) ∨ ∃ R, readT wrap64 s = (R, true) ∧ shOk R ∧ (∀ x ∈ R, fits x) ∧ textB R = s ∧ 1 + 3 * R.length ≤ s.size := by
  rcases readT_is wrap_sums s with ⟨h1, _⟩ | ⟨l, h1, h2, h3, h4, h5⟩
  · exact .inl h1
  · exact .inr ⟨l, h1, h2, h3, h5, by rw [← h5]; exact textB_size h2⟩

set_option maxRecDepth 4000 in
set_option maxHeartbeats 4000000 in
theorem walkFnAnyReadShelf (a0 : ByteArray) (w : World) (_wi0 : a0.size ≤ maxLen) :
    Calls Try.prog 9 #[.string a0] w fun e w' => e = .returned (.bool true) ∧ Below w.heap.size w w' := by
  by_cases hs : 1000 < a0.size
  · have cb := fun w => bigText_is true a0 1000 w (decide_eq_true (by omega))
    go_enter Try.func9, Try.ntmps9
    go_wp2_with fail
    refine (cb _).mono ?_
    rintro e w1 ⟨rfl, rfl⟩
    go_wp2_with fail
    refine (alive_any _).mono ?_
    rintro e w1 ⟨rfl, rfl⟩
    go_wp2
    go_ret
    exact ⟨rfl, Below.refl _ _⟩
  have cb := fun w => bigText_is false a0 1000 w (decide_eq_false (by omega))
  rcases read_cases a0 with hR | ⟨R, hR, hok, hf, ht, hlen⟩
  · have c1 := fun w => implRead_any a0 [] false w hR (by omega)
    have c2 := fun w => specRead_any a0 [] false w hR (by omega)
    clear hR
    go_enter Try.func9, Try.ntmps9
    go_wp2_with fail
    refine (cb _).mono ?_
    rintro e w1 ⟨rfl, rfl⟩
    go_wp2_with fail
    refine (c1 _).mono ?_
    rintro e w1 ⟨a1, n1, d1, rfl, o1⟩
    have E1 := Lib.hid (enAt_of o1.own)
    have hn1 : n1 = 0 := E1.out.len
    subst hn1
    have B1 := o1.below
    clear o1
    go_wp2_with fail
    refine (c2 _).mono ?_
    rintro e w2 ⟨a2, n2, d2, rfl, o2⟩
    have E2 := Lib.hid (enAt_of o2.own)
    have E1 := Lib.hid (E1.out.later o2.below)
    have B2 := B1.trans (o2.below.mono B1.size)
    clear o2 B1
    go_wp2_with fail
    refine (sameEnts_w [] _ _ _ _ _ _ _ E1.out E2.out (by simp)).mono ?_
    rintro e w3 ⟨rfl, b3⟩
    have B3 := B2.trans (b3.mono B2.size)
    clear b3 B2
    go_wp2_with fail
    refine (alive_any _).mono ?_
    rintro e w1 ⟨rfl, rfl⟩
    go_wp2
    go_ret
    exact ⟨rfl, B3⟩
  · have c1 := fun w => implRead_any a0 R true w hR (by omega)
    have c2 := fun w => specRead_any a0 R true w hR (by omega)
    have HOK := Lib.hid hok
    have HF := Lib.hid hf
    have HT := Lib.hid ht
    clear hR hok hf ht
    go_enter Try.func9, Try.ntmps9
    go_wp2_with fail
    refine (cb _).mono ?_
    rintro e w1 ⟨rfl, rfl⟩
    go_wp2_with fail
    refine (c1 _).mono ?_
    rintro e w1 ⟨a1, n1, d1, rfl, o1⟩
    have E1 := Lib.hid (enAt_of o1.own)
    have B1 := o1.below
    clear o1
    go_wp2_with fail
    refine (c2 _).mono ?_
    rintro e w2 ⟨a2, n2, d2, rfl, o2⟩
    have E2 := Lib.hid (enAt_of o2.own)
    have E1 := Lib.hid (E1.out.later o2.below)
    have B2 := B1.trans (o2.below.mono B1.size)
    clear o2 B1
    go_wp2_with fail
    refine (sameEnts_w R _ _ _ _ _ _ _ E1.out E2.out (by omega)).mono ?_
    rintro e w3 ⟨rfl, b3⟩
    have E1 := Lib.hid (E1.out.later b3)
    have B3 := B2.trans (b3.mono B2.size)
    clear b3 B2
    go_wp2_with fail
    refine (implOk_w true R _ _ _ _ ⟨fun _ => HOK.out, fun _ => rfl⟩ E1.out (by omega)).mono ?_
    rintro e w4 ⟨rfl, b4⟩
    have E1 := Lib.hid (E1.out.later b4)
    have B4 := B3.trans (b4.mono B3.size)
    clear b4 B3
    have ct := implText_any R _ _ d1 w4 E1.out.len (by have := E1.out.len; omega) HF.out E1.out.at_
    rw [HT.out] at ct
    go_wp2_with fail
    refine ct.mono ?_
    rintro e w5 ⟨rfl, b5⟩
    have B5 := B4.trans (b5.mono B4.size)
    clear b5 B4 ct
    go_wp2_with fail
    refine (alive_any _).mono ?_
    rintro e w1 ⟨rfl, rfl⟩
    go_wp2
    go_ret
    exact ⟨rfl, B5⟩

theorem bytesN_extract (s : ByteArray) (i j : Nat) : bytesN (s.extract i j) = ((bytesN s).take j).drop i := by
  rw [bytesN, ByteArray.data_extract, Array.toList_extract, List.extract_eq_take_drop, List.map_take, List.map_drop, List.drop_take]
  rfl
/-- What is read stands in the text as it would be written. -/
theorem take_cases (s : ByteArray) (i : Int) : (takeT s i = (0, 0, false)) ∨ ∃ n j k : Nat, i = k ∧ takeT s i = ((n : Int), (j : Int), true) ∧ k < j ∧ j ≤ s.size ∧ (n : Int) ≤ 9223372036854775807 ∧ s.extract k j = putB n := by
  rcases takeT_is s i with h | ⟨n, j, k, h1, h2, h3, h4, h5, h6⟩
  · exact .inl h
  · refine .inr ⟨n, j, k, h1, h2, h3, h4, by omega, bytesN_inj ?_⟩
    rw [bytesN_extract, bytesN_putB, putL_nat]
    have e1 : (bytesN s).take j = (bytesN s).take k ++ putN n := by
      have hl : j ≤ (bytesN s).length := by rw [bytesN_len]; exact h4
      have e2 : (bytesN s).take j ++ (bytesN s).drop j = ((bytesN s).take k ++ putN n) ++ (bytesN s).drop j := by
        rw [List.take_append_drop, List.append_assoc]; exact h6
      exact List.append_cancel_right e2
    rw [e1, List.drop_left' (by rw [List.length_take, bytesN_len]; omega)]

set_option maxRecDepth 4000 in
set_option maxHeartbeats 16000000 in
theorem walkFnAnyTakeNumber (a0 : ByteArray) (a1 : Int) (w : World) (_wi0 : a0.size ≤ maxLen) (wi1 : (Lit.int .i64 a1).wf = true) :
    Calls Try.prog 8 #[.string a0, .int .i64 a1] w fun e w' => e = .returned (.bool true) ∧ Below w.heap.size w w' := by
  have wi1 := (wf_boundsZ wi1).2
  by_cases hs : 1000 < a0.size
  · have cb := fun w => bigText_is true a0 1000 w (decide_eq_true (by omega))
    go_enter Try.func8, Try.ntmps8
    go_wp2_with fail
    refine (cb _).mono ?_
    rintro e w1 ⟨rfl, rfl⟩
    go_wp2_with fail
    refine (alive_any _).mono ?_
    rintro e w1 ⟨rfl, rfl⟩
    go_wp2
    go_ret
    exact ⟨rfl, Below.refl _ _⟩
  have cb := fun w => bigText_is false a0 1000 w (decide_eq_false (by omega))
  rcases take_cases a0 a1 with h0 | ⟨n, j, k, rfl, h0, hkj, hj9, hn9, hx⟩
  · have c1 := fun w => implTake_any a0 a1 0 0 false w h0 (by omega) wi1
    have c2 := fun w => specTake_any a0 a1 0 0 false w h0 (by omega)
    clear h0
    go_enter Try.func8, Try.ntmps8
    go_wp2_with fail
    refine (cb _).mono ?_
    rintro e w1 ⟨rfl, rfl⟩
    go_wp2_with fail
    refine (c1 _).mono ?_
    rintro e w1 ⟨rfl, b1⟩
    go_wp2_with fail
    refine (c2 _).mono ?_
    rintro e w2 ⟨rfl, b2⟩
    have B2 := b1.trans (b2.mono b1.size)
    clear b1 b2
    go_wp2
    go_quiet (first | (go_at_call 13; exact Calls.quiet_of_same ((alive_any _).mono (fun _ _ h => ⟨h.1, h.2.symm⟩))))
    go_wp2
    go_ret
    exact ⟨rfl, below_drewN' B2 _⟩
  · have c1 := fun w => implTake_any a0 k n j true w h0 (by omega) wi1
    have c2 := fun w => specTake_any a0 k n j true w h0 (by omega)
    have cp := fun w => implPut_any n w hn9
    obtain ⟨R, hR⟩ : ∃ R, putB (n : Int) = R := ⟨_, rfl⟩
    rw [hR] at hx cp
    have hkj2 : (k : Int) < (j : Int) := by omega
    have hj92 : (j : Int) ≤ (a0.size : Int) := by omega
    have hk0 : (0 : Int) ≤ (k : Int) := by omega
    have hsl : ∀ w : World, (Instr.slice 9 (.string a0) (some (.int .i64 (k : Int))) (some (.int .i64 (j : Int))) none).run Try.prog w = .ok (.string R) w := fun w => by
      have h1 := run_slice_string (P := Try.prog) w 9 a0 .i64 .i64 (k : Int) (j : Int) Try.uls6 (by omega) (by omega) (by omega)
      rw [Int.toNat_natCast, Int.toNat_natCast, hx] at h1
      exact h1
    clear h0 hR
    go_enter Try.func8, Try.ntmps8
    go_wp2_with fail
    refine (cb _).mono ?_
    rintro e w1 ⟨rfl, rfl⟩
    go_wp2_with fail
    refine (c1 _).mono ?_
    rintro e w1 ⟨rfl, b1⟩
    go_wp2_with fail
    refine (c2 _).mono ?_
    rintro e w2 ⟨rfl, b2⟩
    have B2 := b1.trans (b2.mono b1.size)
    clear b1 b2
    go_wp2
    refine wp_region_held_drew (S := fun _ => True) (by kernel_rfl) (trivial) (fun hHeld => ?_)
    refine wpAnyH_take (i := 0) (v := .bool true) rfl (by kernel_rfl) (by kernel_rfl) (by kernel_rfl) (fun _ _ _ h => h) (Or.inl ⟨by kernel_rfl, fun w' hSw => ?_⟩) hHeld ?_
    · clear hSw; go_simp
    (try simp only [Act.put, List.setIfInBounds_toArray])
    refine wpAnyH_take (i := 1) (v := .bool false) rfl (by kernel_rfl) (by kernel_rfl) (by kernel_rfl) (fun _ _ _ h => h) (Or.inl ⟨by kernel_rfl, fun w' hSw => ?_⟩) hHeld ?_
    · clear hSw; go_simp
    (try simp only [Act.put])
    refine wpAnyH_take (i := 2) (v := .bool false) rfl (by kernel_rfl) (by kernel_rfl) (by kernel_rfl) (fun _ _ _ h => h) (Or.inl ⟨by kernel_rfl, fun w' hSw => ?_⟩) hHeld ?_
    · clear hSw; go_simp
    (try simp only [Act.put])
    refine wpAnyH_take (i := 3) (v := undef) rfl (by kernel_rfl) (by kernel_rfl) (by kernel_rfl) (fun _ _ _ h => h) (Or.inr ⟨by kernel_rfl, rfl⟩) hHeld ?_
    (try simp only [Act.put])
    refine wpAnyH_take (i := 4) (v := undef) rfl (by kernel_rfl) (by kernel_rfl) (by kernel_rfl) (fun _ _ _ h => h) (Or.inr ⟨by kernel_rfl, rfl⟩) hHeld ?_
    (try simp only [Act.put])
    refine wpAnyH_take (i := 5) (v := .bool false) rfl (by kernel_rfl) (by kernel_rfl) (by kernel_rfl) (fun _ _ _ h => h) (Or.inl ⟨by kernel_rfl, fun w' hSw => ?_⟩) hHeld ?_
    · clear hSw; go_simp
    (try simp only [Act.put])
    refine wpAnyH_take (i := 6) (v := .bool false) rfl (by kernel_rfl) (by kernel_rfl) (by kernel_rfl) (fun _ _ _ h => h) (Or.inl ⟨by kernel_rfl, fun w' hSw => ?_⟩) hHeld ?_
    · clear hSw; go_simp
    (try simp only [Act.put])
    refine wpAnyH_take (i := 7) (v := undef) rfl (by kernel_rfl) (by kernel_rfl) (by kernel_rfl) (fun _ _ _ h => h) (Or.inr ⟨by kernel_rfl, rfl⟩) hHeld ?_
    (try simp only [Act.put])
    refine wpAnyH_take (i := 8) (v := undef) rfl (by kernel_rfl) (by kernel_rfl) (by kernel_rfl) (fun _ _ _ h => h) (Or.inr ⟨by kernel_rfl, rfl⟩) hHeld ?_
    (try simp only [Act.put])
    refine wpAnyH_take (i := 9) (v := .bool false) rfl (by kernel_rfl) (by kernel_rfl) (by kernel_rfl) (fun _ _ _ h => h) (Or.inl ⟨by kernel_rfl, fun w' hSw => ?_⟩) hHeld ?_
    · clear hSw; go_simp
    (try simp only [Act.put])
    refine wpAnyH_take (i := 10) (v := .bool false) rfl (by kernel_rfl) (by kernel_rfl) (by kernel_rfl) (fun _ _ _ h => h) (Or.inl ⟨by kernel_rfl, fun w' hSw => ?_⟩) hHeld ?_
    · clear hSw; go_simp
    (try simp only [Act.put])
    refine wpAnyH_take (i := 11) (v := .bool true) rfl (by kernel_rfl) (by kernel_rfl) (by kernel_rfl) (fun _ _ _ h => h) (Or.inl ⟨by kernel_rfl, fun w' hSw => ?_⟩) hHeld ?_
    · clear hSw; go_simp
    (try simp only [Act.put])
    refine wpAnyH_take (i := 12) (v := .bool true) rfl (by kernel_rfl) (by kernel_rfl) (by kernel_rfl) (fun _ _ _ h => h) (Or.inl ⟨by kernel_rfl, fun w' hSw => ?_⟩) hHeld ?_
    · clear hSw; go_simp
    (try simp only [Act.put])
    refine wpAnyH_take (i := 13) (v := .int .i64 (k : Int)) rfl (by kernel_rfl) (by kernel_rfl) (by kernel_rfl) (fun _ _ _ h => h) (Or.inl ⟨by kernel_rfl, fun w' hSw => ?_⟩) hHeld ?_
    · clear hSw; go_simp
    (try simp only [Act.put])
    refine wpAnyH_take (i := 14) (v := .bool true) rfl (by kernel_rfl) (by kernel_rfl) (by kernel_rfl) (fun _ _ _ h => h) (Or.inl ⟨by kernel_rfl, fun w' hSw => ?_⟩) hHeld ?_
    · clear hSw; go_simp
    (try simp only [Act.put])
    refine wpAnyH_take (i := 15) (v := .bool true) rfl (by kernel_rfl) (by kernel_rfl) (by kernel_rfl) (fun _ _ _ h => h) (Or.inl ⟨by kernel_rfl, fun w' hSw => ?_⟩) hHeld ?_
    · clear hSw; go_simp
    (try simp only [Act.put])
    refine wpAnyH_take (i := 16) (v := .bool true) rfl (by kernel_rfl) (by kernel_rfl) (by kernel_rfl) (fun _ _ _ h => h) (Or.inl ⟨by kernel_rfl, fun w' hSw => ?_⟩) hHeld ?_
    · clear hSw; go_simp
    (try simp only [Act.put])
    refine wpAnyH_take (i := 17) (v := .int .i64 (j : Int)) rfl (by kernel_rfl) (by kernel_rfl) (by kernel_rfl) (fun _ _ _ h => h) (Or.inl ⟨by kernel_rfl, fun w' hSw => ?_⟩) hHeld ?_
    · clear hSw; go_simp
    (try simp only [Act.put])
    refine wpAnyH_take (i := 18) (v := .int .i64 (k : Int)) rfl (by kernel_rfl) (by kernel_rfl) (by kernel_rfl) (fun _ _ _ h => h) (Or.inl ⟨by kernel_rfl, fun w' hSw => ?_⟩) hHeld ?_
    · clear hSw; go_simp
    (try simp only [Act.put])
    refine wpAnyH_take (i := 19) (v := .bool true) rfl (by kernel_rfl) (by kernel_rfl) (by kernel_rfl) (fun _ _ _ h => h) (Or.inl ⟨by kernel_rfl, fun w' hSw => ?_⟩) hHeld ?_
    · clear hSw; go_simp
    (try simp only [Act.put])
    refine wpAnyH_take (i := 20) (v := .bool true) rfl (by kernel_rfl) (by kernel_rfl) (by kernel_rfl) (fun _ _ _ h => h) (Or.inl ⟨by kernel_rfl, fun w' hSw => ?_⟩) hHeld ?_
    · clear hSw; go_simp
    (try simp only [Act.put])
    refine wpAnyH_take (i := 21) (v := .bool true) rfl (by kernel_rfl) (by kernel_rfl) (by kernel_rfl) (fun _ _ _ h => h) (Or.inl ⟨by kernel_rfl, fun w' hSw => ?_⟩) hHeld ?_
    · clear hSw; go_simp
    (try simp only [Act.put])
    refine wpAnyH_take (i := 22) (v := .int .i64 (j : Int)) rfl (by kernel_rfl) (by kernel_rfl) (by kernel_rfl) (fun _ _ _ h => h) (Or.inl ⟨by kernel_rfl, fun w' hSw => ?_⟩) hHeld ?_
    · clear hSw; go_simp
    (try simp only [Act.put])
    refine wpAnyH_take (i := 23) (v := .string a0) rfl (by kernel_rfl) (by kernel_rfl) (by kernel_rfl) (fun _ _ _ h => h) (Or.inl ⟨by kernel_rfl, fun w' hSw => ?_⟩) hHeld ?_
    · clear hSw; go_simp
    (try simp only [Act.put])
    refine wpAnyH_take (i := 24) (v := .int .i64 (a0.size : Int)) rfl (by kernel_rfl) (by kernel_rfl) (by kernel_rfl) (fun _ _ _ h => h) (Or.inl ⟨by kernel_rfl, fun w' hSw => ?_⟩) hHeld ?_
    · clear hSw; go_simp
    (try simp only [Act.put])
    refine wpAnyH_take (i := 25) (v := .bool true) rfl (by kernel_rfl) (by kernel_rfl) (by kernel_rfl) (fun _ _ _ h => h) (Or.inl ⟨by kernel_rfl, fun w' hSw => ?_⟩) hHeld ?_
    · clear hSw; go_simp
    (try simp only [Act.put])
    refine wpAnyH_take (i := 26) (v := .bool true) rfl (by kernel_rfl) (by kernel_rfl) (by kernel_rfl) (fun _ _ _ h => h) (Or.inl ⟨by kernel_rfl, fun w' hSw => ?_⟩) hHeld ?_
    · clear hSw; go_simp
    (try simp only [Act.put])
    refine wpAnyH_take (i := 27) (v := .bool true) rfl (by kernel_rfl) (by kernel_rfl) (by kernel_rfl) (fun _ _ _ h => h) (Or.inl ⟨by kernel_rfl, fun w' hSw => ?_⟩) hHeld ?_
    · clear hSw; go_simp
    (try simp only [Act.put])
    refine wpAnyH_take (i := 28) (v := .string a0) rfl (by kernel_rfl) (by kernel_rfl) (by kernel_rfl) (fun _ _ _ h => h) (Or.inl ⟨by kernel_rfl, fun w' hSw => ?_⟩) hHeld ?_
    · clear hSw; go_simp
    (try simp only [Act.put])
    refine wpAnyH_take (i := 29) (v := .int .i64 (k : Int)) rfl (by kernel_rfl) (by kernel_rfl) (by kernel_rfl) (fun _ _ _ h => h) (Or.inl ⟨by kernel_rfl, fun w' hSw => ?_⟩) hHeld ?_
    · clear hSw; go_simp
    (try simp only [Act.put])
    refine wpAnyH_take (i := 30) (v := .int .i64 (j : Int)) rfl (by kernel_rfl) (by kernel_rfl) (by kernel_rfl) (fun _ _ _ h => h) (Or.inl ⟨by kernel_rfl, fun w' hSw => ?_⟩) hHeld ?_
    · clear hSw; go_simp
    (try simp only [Act.put])
    refine wpAnyH_take (i := 31) (v := .string R) rfl (by kernel_rfl) (by kernel_rfl) (by kernel_rfl) (fun _ _ _ h => h) (Or.inl ⟨by kernel_rfl, fun w' hSw => ?_⟩) hHeld ?_
    · clear hSw; go_simp
    (try simp only [Act.put, List.getElem_toArray, List.getElem_cons_succ, List.getElem_cons_zero, List.setIfInBounds_toArray, List.set_cons_zero, List.set_cons_succ])
    refine wpAnyH_take (i := 32) (v := .int .i64 (n : Int)) rfl (by kernel_rfl) (by kernel_rfl) (by kernel_rfl) (fun _ _ _ h => h) (Or.inl ⟨by kernel_rfl, fun w' hSw => ?_⟩) hHeld ?_
    · clear hSw; go_simp
    (try simp only [Act.put, List.getElem_toArray, List.getElem_cons_succ, List.getElem_cons_zero, List.setIfInBounds_toArray, List.set_cons_zero, List.set_cons_succ])
    refine wpAnyH_ready (rs := [33]) (by kernel_rfl) (by simp) ?_
    refine AllReadyH.cons (o := _) rfl (fun K hK => ?_) AllReadyH.nil
    go_simp
    refine (cp _).mono ?_
    rintro e w5 ⟨rfl, hb5⟩
    (try dsimp only)
    refine hK.out _ _ trivial (fun hHeld => ?_)
    clear hK K
    (try simp only [Act.put, List.setIfInBounds_toArray, List.set_cons_zero, List.set_cons_succ])
    refine wpAnyH_take (i := 34) (v := .bool true) rfl (by kernel_rfl) (by kernel_rfl) (by kernel_rfl) (fun _ _ _ h => h) (Or.inl ⟨by kernel_rfl, fun w' hSw => ?_⟩) hHeld ?_
    · clear hSw; go_simp
    (try simp only [Act.put, List.getElem_toArray, List.getElem_cons_succ, List.getElem_cons_zero, List.setIfInBounds_toArray, List.set_cons_zero, List.set_cons_succ])
    refine wpAnyH_take (i := 35) (v := .bool true) rfl (by kernel_rfl) (by kernel_rfl) (by kernel_rfl) (fun _ _ _ h => h) (Or.inl ⟨by kernel_rfl, fun w' hSw => ?_⟩) hHeld ?_
    · clear hSw; go_simp
    (try simp only [Act.put, List.getElem_toArray, List.getElem_cons_succ, List.getElem_cons_zero, List.setIfInBounds_toArray, List.set_cons_zero, List.set_cons_succ])
    refine wpAnyH_take (i := 36) (v := .bool true) rfl (by kernel_rfl) (by kernel_rfl) (by kernel_rfl) (fun _ _ _ h => h) (Or.inl ⟨by kernel_rfl, fun w' hSw => ?_⟩) hHeld ?_
    · clear hSw; go_simp
    (try simp only [Act.put, List.getElem_toArray, List.getElem_cons_succ, List.getElem_cons_zero, List.setIfInBounds_toArray, List.set_cons_zero, List.set_cons_succ])
    refine wpAnyH_take (i := 37) (v := .bool true) rfl (by kernel_rfl) (by kernel_rfl) (by kernel_rfl) (fun _ _ _ h => h) (Or.inl ⟨by kernel_rfl, fun w' hSw => ?_⟩) hHeld ?_
    · clear hSw; go_simp
    (try simp only [Act.put, List.getElem_toArray, List.getElem_cons_succ, List.getElem_cons_zero, List.setIfInBounds_toArray, List.set_cons_zero, List.set_cons_succ])
    refine wpAnyH_ready (rs := [38]) (by kernel_rfl) (by simp) ?_
    refine AllReadyH.cons (o := _) rfl (fun K hK => ?_) AllReadyH.nil
    go_simp
    refine (alive_any _).mono ?_
    rintro e w9 ⟨rfl, rfl⟩
    (try dsimp only)
    refine hK.out _ _ trivial (fun hHeld => ?_)
    clear hK K
    (try simp only [Act.put, List.setIfInBounds_toArray, List.set_cons_zero, List.set_cons_succ])
    refine wpAnyH_take (i := 39) (v := .bool true) rfl (by kernel_rfl) (by kernel_rfl) (by kernel_rfl) (fun _ _ _ h => h) (Or.inl ⟨by kernel_rfl, fun w' hSw => ?_⟩) hHeld ?_
    · clear hSw; go_simp
    (try simp only [Act.put, List.getElem_toArray, List.getElem_cons_succ, List.getElem_cons_zero, List.setIfInBounds_toArray, List.set_cons_zero, List.set_cons_succ])
    refine wpAnyH_take (i := 40) (v := .bool true) rfl (by kernel_rfl) (by kernel_rfl) (by kernel_rfl) (fun _ _ _ h => h) (Or.inl ⟨by kernel_rfl, fun w' hSw => ?_⟩) hHeld ?_
    · clear hSw; go_simp
    (try simp only [Act.put, List.getElem_toArray, List.getElem_cons_succ, List.getElem_cons_zero, List.setIfInBounds_toArray, List.set_cons_zero, List.set_cons_succ])
    refine wpAnyH_done (by kernel_rfl) ?_ _
    go_wp2
    go_ret
    exact ⟨rfl, (Below.drew B2).trans (hb5.mono B2.size)⟩

end Go.Proofs.Ytapombdkkcjodaa
