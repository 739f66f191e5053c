/-
  The walks of the laws LongestEnds and AnyLongestEnds: each answers true, and nothing that was there is written. No conditions. (Written by wip/tools/ch9_laws.py.)
-/
import Derived.Test.YtehppjilnacjlaaExt9
import Derived.Test.YtehppjilnacjlaaDraw9
import Derived.Test.YtehppjilnacjlaaEndsI
import Derived.Test.YtehppjilnacjlaaPieceE
import Derived.Test.YtehppjilnacjlaaHelpS
namespace Go.Proofs.Ytehppjilnacjlaa
open Go.RowKit

noncomputable def bestTo (u y : Wd) : Nat → Nat
  | 0 => 0
  | k + 1 => max (bestTo u y k) (lsN u (y.take (k + 1)))
theorem ends_facts (u : Wd) (t : ByteArray) {k n : Nat} (hk : k < t.size) (hn : lsN u (t.data.toList.take (k + 1)) = n) : n ≤ k + 1 ∧ pcIn u (t.extract (k + 1 - n) (k + 1)).data.toList ∧ (n ≤ k → ¬ pcIn u (t.extract (k - n) (k + 1)).data.toList) := by
  obtain ⟨w, hw⟩ := longEnd_ex u (t.data.toList.take (k + 1))
  have hl := lsN_is hw
  rw [hn] at hl
  have htl : t.data.toList.length = t.size := rfl
  have hlen : (t.data.toList.take (k + 1)).length = k + 1 := by rw [List.length_take]; omega
  have h1 := hw.suf.length_le
  rw [hlen] at h1
  have h2 := List.suffix_iff_eq_drop.1 hw.suf
  rw [hlen, ← hl] at h2
  refine ⟨by omega, ?_, fun hnk hp => ?_⟩
  · rw [ext_drop t (k + 1 - n) (k + 1) (by omega), ← h2]
    exact hw.pc
  · rw [ext_drop t (k - n) (k + 1) (by omega)] at hp
    have h3 := (hw.top _ (List.drop_suffix _ _) hp).length_le
    rw [List.length_drop, hlen] at h3
    omega
theorem best_le (u : Wd) (t : ByteArray) {k : Nat} (hk : k ≤ t.size) : bestTo u t.data.toList k ≤ k := by
  induction k with
  | zero => exact Nat.le_refl _
  | succ k ih =>
    have h1 := ih (by omega)
    have h2 := (ends_facts u t (k := k) (by omega) rfl).1
    rw [bestTo]; omega
theorem best_ge (u y : Wd) {k n : Nat} (h : k < n) : lsN u (y.take (k + 1)) ≤ bestTo u y n := by
  induction n with
  | zero => omega
  | succ n ih =>
    rw [bestTo]
    by_cases e : k = n
    · subst e; omega
    · have := ih (by omega); omega
theorem ext_eq {s t : ByteArray} (h : s.data.toList = t.data.toList) : s = t := by
  have h1 : s.data = t.data := Array.toList_inj.1 h
  cases s; cases t; simp at h1; rw [h1]
theorem best_all (s t : ByteArray) : (longT s t).2.2 = (bestTo s.data.toList t.data.toList t.size : Int) := by
  have hsl : s.data.toList.length = s.size := rfl
  have htl : t.data.toList.length = t.size := rfl
  refine Int.le_antisymm ?_ ?_
  · rcases longT_ok s t with h | h
    · rw [h]; omega
    · obtain ⟨x, y, z, hxyz⟩ : ∃ x y z, longT s t = (x, y, z) := ⟨_, _, _, rfl⟩
      rw [hxyz] at h ⊢
      obtain ⟨h1, h2, h3, h4, h5, h6⟩ := okP_iff.1 h
      obtain ⟨n, hn⟩ : ∃ n : Nat, z.toNat = n := ⟨_, rfl⟩
      have h7 := (extract_same (s := s) (t := t) (i := x.toNat) (j := y.toNat) (n := n) (by omega) (by omega)).2 (by omega)
      have hpc : pcIn s.data.toList (t.extract y.toNat (y.toNat + n)).data.toList := by
        rw [← h7]
        refine pc_cut.2 ⟨x.toNat, ?_, ?_⟩
        · rw [ext_list, List.length_take, List.length_drop]; omega
        · rw [ext_list, List.length_take, List.length_drop, show min n (s.data.toList.length - x.toNat) = n by omega]
      obtain ⟨m, hm⟩ : ∃ m, y.toNat + n = m + 1 := ⟨y.toNat + n - 1, by omega⟩
      rw [hm] at hpc
      rw [ext_drop t y.toNat (m + 1) (by omega)] at hpc
      obtain ⟨w, hw⟩ := longEnd_ex s.data.toList (t.data.toList.take (m + 1))
      have h8 := (hw.top _ (List.drop_suffix _ _) hpc).length_le
      rw [List.length_drop, List.length_take, ← lsN_is hw] at h8
      have h9 := best_ge s.data.toList t.data.toList (k := m) (n := t.size) (by omega)
      show z ≤ _
      omega
  · suffices H : ∀ k, k ≤ t.size → (bestTo s.data.toList t.data.toList k : Int) ≤ (longT s t).2.2 from H t.size (Nat.le_refl _)
    intro k hk
    induction k with
    | zero => exact longT_nonneg s t
    | succ k ih =>
      have h1 := ih (by omega)
      obtain ⟨n, hn⟩ : ∃ n, lsN s.data.toList (t.data.toList.take (k + 1)) = n := ⟨_, rfl⟩
      obtain ⟨f1, f2, _⟩ := ends_facts s.data.toList t (by omega) hn
      obtain ⟨i, g1, g2⟩ := pc_cut.1 f2
      have hle : (t.extract (k + 1 - n) (k + 1)).data.toList.length = n := by rw [ext_drop t _ _ (by omega), List.length_drop, List.length_take]; omega
      rw [hle] at g1 g2
      have h2 : s.extract i (i + n) = t.extract (k + 1 - n) (k + 1 - n + n) := by
        apply ext_eq
        rw [ext_list, g2, show k + 1 - n + n = k + 1 by omega]
      have h3 := (extract_same (s := s) (t := t) (by omega) (by omega)).1 h2
      have h4 := longT_most s t i (k + 1 - n)
      rw [bestTo, hn]
      omega

set_option maxRecDepth 4000 in
set_option maxHeartbeats 8000000 in
theorem walkFnLongestEnds (a : Option Addr) (len cap : Nat) (zs : List Int) (w : World) (h : IsRowK .u8 w a len cap zs) :
    Calls Try.prog 8 #[.slice a len cap] w fun e w' => e = .returned (.bool true) ∧ Below w.heap.size w w' := by
  by_cases hs : 1048576 < len
  · have h2 : (1048576 : Int) < (len : Int) := by omega
    go_enter Try.func8, Try.ntmps8
    go_wp2
    go_ret
    exact ⟨rfl, Below.refl _ _⟩
  go_enter Try.func8, Try.ntmps8
  go_wp2_with fail
  refine (DrawLongestEnds_any _ _ _ _ _ h).mono ?_
  rintro e w0 ⟨s, t, hss, htt, rfl, BB⟩
  clear h hs
  have BBH := Lib.hid BB
  obtain ⟨⟨x, y, z⟩, hR⟩ : ∃ R, longT s t = R := ⟨_, rfl⟩
  have hz := best_all s t
  rw [hR] at hz
  replace hz : z = (bestTo s.data.toList t.data.toList t.size : Int) := hz
  have c1 := fun w => implLng_any s t w (by omega) (by omega)
  have c2 := fun w => specLng_any s t w (by omega) (by omega)
  have c5 := fun w => implLongest_any s t x y z w hR (by omega) (by omega)
  have hf1 : ∀ w : World, (Instr.field 45 (.agg #[.int .i64 x, .int .i64 y, .int .i64 z]) 2).run Try.prog w = .ok (.int .i64 z) w := fun _ => by kernel_rfl
  have HZ := Lib.hid hz
  obtain ⟨l, hl⟩ : ∃ l, lsL s.data.toList t.data.toList = l := ⟨_, rfl⟩
  have HL := Lib.hid hl
  have HLN := Lib.hid (show l.length = t.size by rw [← hl, lsL_len]; rfl)
  obtain ⟨m, hm⟩ : ∃ m, t.size = m := ⟨_, rfl⟩
  have HM := Lib.hid hm
  rw [hl, hm] at c1 c2
  have hm9 : m ≤ 1000 := by omega
  have tm : ((m : Int) == (m : Int)) = true := beq_self_eq_true _
  have tm' : ((m : Int) != (m : Int)) = false := by rw [bne, tm]; rfl
  have TM := Lib.hid (show (((t.size : Nat) : Int) == ((t.size : Nat) : Int)) = true from beq_self_eq_true _)
  clear hz hl hm hR BB
  go_wp2_with fail
  refine (c1 _).mono ?_
  rintro e w1 ⟨a1, d1, rfl, o1⟩
  have O1 := Lib.hid o1
  have B1 := Lib.hid (BBH.out.trans (o1.below.mono BBH.out.size))
  clear c1 o1 BBH
  go_wp2_with fail
  refine (c2 _).mono ?_
  rintro e w2 ⟨a2, d2, rfl, o2⟩
  have O2 := Lib.hid (O1.out.later o2.below)
  have B2 := Lib.hid (B1.out.trans (o2.below.mono B1.out.size))
  have cS := sameInts_same a1 a2 d1 d2 l w2 (by have := HLN.out; have := HM.out; omega) (intsAt_own O2.out.own).2 (intsAt_own o2.own).2
  rw [HLN.out, HM.out] at cS
  clear c2 o2 O1 B1
  go_wp2_with fail
  refine cS.mono ?_
  rintro e w3 ⟨rfl, q3, rfl⟩
  have O3 := Lib.hid (O2.out.later (below_drewN' (Below.refl _ _) q3))
  have B3 := Lib.hid (below_drewN' B2.out q3)
  have hmt : ((m : Int) == ((t.size : Nat) : Int)) = true := by rw [HM.out]; exact tm
  have hmt' : ((m : Int) != ((t.size : Nat) : Int)) = false := by rw [bne, hmt]; rfl
  clear cS O2 B2
  generalize w2.drewN q3 = w4 at O3 B3 ⊢
  have HIN := Lib.hid (intsAt_own O3.out.own).2
  clear O3
  go_wp2
  go_loopw [6, 7, 8] (fun b_ k_ _ wr => ∃ k b : Nat, k ≤ m ∧ b ≤ k ∧ b_ = .int .i64 (b : Int) ∧ k_ = .int .i64 (k : Int) ∧ Hid (b = bestTo s.data.toList t.data.toList k) ∧ Hid (wr = w4)) (fun _ k_ _ _ => m - (intOf k_).toNat)
  case atStart => exact ⟨0, 0, Nat.zero_le _, Nat.le_refl _, rfl, rfl, Lib.hid rfl, Lib.hid rfl⟩
  case round =>
    obtain ⟨k, b, hk, hb, rfl, rfl, HBE, HW⟩ := hrel
    obtain rfl := HW.out
    clear HW
    have HMS := Lib.hid (show ((t.size : Nat) : Int) = (m : Int) by rw [HM.out])
    by_cases hlt : k < m
    · have z1 : (k : Int) < ((t.size : Nat) : Int) := by rw [HMS.out]; omega
      obtain ⟨n, hn⟩ : ∃ n, lsN s.data.toList (t.data.toList.take (k + 1)) = n := ⟨_, rfl⟩
      obtain ⟨f1, f2, f3⟩ := ends_facts s.data.toList t (by have := HM.out; omega) hn
      have hll : k < l.length := by have := HLN.out; have := HM.out; omega
      have hlk : l.getD k 0 = (n : Int) := by
        rw [← HL.out, lsL, List.getD_eq_getElem?_getD, List.getElem?_map, List.getElem?_range (by have : t.data.toList.length = t.size := rfl; have := HM.out; omega)]
        simp [hn]
      obtain ⟨ba, oa, rfl, hca⟩ := HIN.out.spot (fun e => by rw [e] at hll; simp at hll)
      have x1 := hca k hll
      rw [hlk] at x1
      have HB2 := Lib.hid (show max b n = bestTo s.data.toList t.data.toList (k + 1) by rw [bestTo, hn, ← HBE.out])
      have sl1 : ∀ w, (Instr.slice 9 (.string t) (some (.int .i64 ((k : Int) + 1 - (n : Int)))) (some (.int .i64 ((k : Int) + 1))) none).run Try.prog w = .ok (.string (t.extract (k + 1 - n) (k + 1))) w := fun w => by
        have h1 := run_slice_string (P := Try.prog) w 9 t .i64 .i64 ((k : Int) + 1 - (n : Int)) ((k : Int) + 1) Try.ulsQ (by omega) (by omega) (by omega)
        rwa [show ((k : Int) + 1 - (n : Int)).toNat = k + 1 - n by omega, show ((k : Int) + 1).toNat = k + 1 by omega] at h1
      have hxs : (t.extract (k + 1 - n) (k + 1)).size ≤ 1048577 := by rw [ByteArray.size_extract]; omega
      have cI := fun w => isIn_is true s (t.extract (k + 1 - n) (k + 1)) w ⟨fun _ => f2, fun _ => rfl⟩ (by omega) hxs
      obtain ⟨p1, hp1⟩ : ∃ p, t.extract (k + 1 - n) (k + 1) = p := ⟨_, rfl⟩
      rw [hp1] at sl1 cI
      have t0 : ¬ ((n : Int) < 0) := by omega
      have t2 : ¬ ((n : Int) > (k : Int) + 1) := by omega
      have v1 : IntKind.i64.wrap ((k : Int) + 1) = (k : Int) + 1 := IntWalk.i64_in _ (by omega)
      have v2 : IntKind.i64.wrap ((k : Int) + 1 - (n : Int)) = (k : Int) + 1 - (n : Int) := IntWalk.i64_in _ (by omega)
      have z0 : (0 : Int) ≤ (k : Int) := by omega
      have z2 : (k : Int) < (m : Int) := by omega
      by_cases hnk : n ≤ k
      · have t3 : (n : Int) ≤ (k : Int) := by omega
        have sl2 : ∀ w, (Instr.slice 9 (.string t) (some (.int .i64 ((k : Int) - (n : Int)))) (some (.int .i64 ((k : Int) + 1))) none).run Try.prog w = .ok (.string (t.extract (k - n) (k + 1))) w := fun w => by
          have h1 := run_slice_string (P := Try.prog) w 9 t .i64 .i64 ((k : Int) - (n : Int)) ((k : Int) + 1) Try.ulsQ (by omega) (by omega) (by omega)
          rwa [show ((k : Int) - (n : Int)).toNat = k - n by omega, show ((k : Int) + 1).toNat = k + 1 by omega] at h1
        have hxs2 : (t.extract (k - n) (k + 1)).size ≤ 1048577 := by rw [ByteArray.size_extract]; omega
        have f4 := f3 hnk
        have cJ := fun w => isIn_is false s (t.extract (k - n) (k + 1)) w ⟨(fun e => absurd e (by decide)), (fun e => absurd e f4)⟩ (by omega) hxs2
        obtain ⟨p2, hp2⟩ : ∃ p, t.extract (k - n) (k + 1) = p := ⟨_, rfl⟩
        rw [hp2] at sl2 cJ
        have v3 : IntKind.i64.wrap ((k : Int) - (n : Int)) = (k : Int) - (n : Int) := IntWalk.i64_in _ (by omega)
        clear hp1 hp2 hxs hxs2 f2 f3 f4 hn hll hlk hca hnk
        go_wp2_with fail
        refine (cI _).mono ?_
        rintro e wq ⟨rfl, rfl⟩
        go_wp2_with fail
        refine (cJ _).mono ?_
        rintro e wq ⟨rfl, rfl⟩
        clear cI cJ
        go_wp2
        go_roundw
        case rel => exact ⟨k + 1, max b n, by omega, by omega, by first | (congr 1; omega) | (simp; omega) | simp, by go_num, HB2, Lib.hid (by trivial)⟩
        case measure => simp [intOf]; omega
      · have t3 : ¬ ((n : Int) ≤ (k : Int)) := by omega
        clear hp1 hxs f2 f3 hn hll hlk hca hnk
        go_wp2_with fail
        refine (cI _).mono ?_
        rintro e wq ⟨rfl, rfl⟩
        clear cI
        go_wp2
        go_roundw
        case rel => exact ⟨k + 1, max b n, by omega, by omega, by first | (congr 1; omega) | (simp; omega) | simp, by go_num, HB2, Lib.hid (by trivial)⟩
        case measure => simp [intOf]; omega
    · have z1 : ¬ ((k : Int) < ((t.size : Nat) : Int)) := by rw [HMS.out]; omega
      obtain rfl : k = m := by omega
      have hzb : z = (b : Int) := by rw [HZ.out, HBE.out, HM.out]
      subst hzb
      have BB := B3.out
      have t5 : ((b : Int) == (b : Int)) = true := beq_self_eq_true _
      clear HBE HZ B3 HIN
      go_wp2_with fail
      refine (c5 _).mono ?_
      rintro e wq ⟨rfl, hb⟩
      replace BB := BB.trans (hb.mono BB.size)
      clear hb
      go_wp2_with fail
      refine (alive_any _).mono ?_
      rintro e wq ⟨rfl, rfl⟩
      go_wp2
      go_ret
      exact ⟨rfl, BB⟩

set_option maxRecDepth 4000 in
set_option maxHeartbeats 8000000 in
theorem walkFnAnyLongestEnds (s : ByteArray) (t : ByteArray) (w : World) (_ws : s.size ≤ maxLen) (_wt : t.size ≤ maxLen) :
    Calls Try.prog 13 #[.string s, .string t] w fun e w' => e = .returned (.bool true) ∧ Below w.heap.size w w' := by
  by_cases hs : 1000 < s.size
  · have cb := fun w => bigText_is true s 1000 w (decide_eq_true (by omega))
    have BB : Below w.heap.size w w := Below.refl _ _
    go_enter Try.func13, Try.ntmps13
    go_wp2_with fail
    refine (cb _).mono ?_
    rintro e wq ⟨rfl, rfl⟩
    go_wp2_with fail
    refine (alive_any _).mono ?_
    rintro e wq ⟨rfl, rfl⟩
    go_wp2
    go_ret
    exact ⟨rfl, BB⟩
  have cbs := fun w => bigText_is false s 1000 w (decide_eq_false (by omega))
  have hs9 : s.size ≤ 1000 := by omega
  clear hs
  by_cases ht : 1000 < t.size
  · have cb := fun w => bigText_is true t 1000 w (decide_eq_true (by omega))
    have BB : Below w.heap.size w w := Below.refl _ _
    go_enter Try.func13, Try.ntmps13
    go_wp2_with fail
    refine (cbs _).mono ?_
    rintro e wq ⟨rfl, rfl⟩
    go_wp2_with fail
    refine (cb _).mono ?_
    rintro e wq ⟨rfl, rfl⟩
    go_wp2_with fail
    refine (alive_any _).mono ?_
    rintro e wq ⟨rfl, rfl⟩
    go_wp2
    go_ret
    exact ⟨rfl, BB⟩
  have cbt := fun w => bigText_is false t 1000 w (decide_eq_false (by omega))
  have ht9 : t.size ≤ 1000 := by omega
  clear ht
  go_enter Try.func13, Try.ntmps13
  go_wp2_with fail
  refine (cbs _).mono ?_
  rintro e wq ⟨rfl, rfl⟩
  go_wp2_with fail
  refine (cbt _).mono ?_
  rintro e wq ⟨rfl, rfl⟩
  have BB : Below w.heap.size w w := Below.refl _ _
  clear cbs cbt
  have BBH := Lib.hid BB
  obtain ⟨⟨x, y, z⟩, hR⟩ : ∃ R, longT s t = R := ⟨_, rfl⟩
  have hz := best_all s t
  rw [hR] at hz
  replace hz : z = (bestTo s.data.toList t.data.toList t.size : Int) := hz
  have c1 := fun w => implLng_any s t w (by omega) (by omega)
  have c2 := fun w => specLng_any s t w (by omega) (by omega)
  have c5 := fun w => implLongest_any s t x y z w hR (by omega) (by omega)
  have hf1 : ∀ w : World, (Instr.field 45 (.agg #[.int .i64 x, .int .i64 y, .int .i64 z]) 2).run Try.prog w = .ok (.int .i64 z) w := fun _ => by kernel_rfl
  have HZ := Lib.hid hz
  obtain ⟨l, hl⟩ : ∃ l, lsL s.data.toList t.data.toList = l := ⟨_, rfl⟩
  have HL := Lib.hid hl
  have HLN := Lib.hid (show l.length = t.size by rw [← hl, lsL_len]; rfl)
  obtain ⟨m, hm⟩ : ∃ m, t.size = m := ⟨_, rfl⟩
  have HM := Lib.hid hm
  rw [hl, hm] at c1 c2
  have hm9 : m ≤ 1000 := by omega
  have tm : ((m : Int) == (m : Int)) = true := beq_self_eq_true _
  have tm' : ((m : Int) != (m : Int)) = false := by rw [bne, tm]; rfl
  have TM := Lib.hid (show (((t.size : Nat) : Int) == ((t.size : Nat) : Int)) = true from beq_self_eq_true _)
  clear hz hl hm hR BB
  go_wp2_with fail
  refine (c1 _).mono ?_
  rintro e w1 ⟨a1, d1, rfl, o1⟩
  have O1 := Lib.hid o1
  have B1 := Lib.hid (BBH.out.trans (o1.below.mono BBH.out.size))
  clear c1 o1 BBH
  go_wp2_with fail
  refine (c2 _).mono ?_
  rintro e w2 ⟨a2, d2, rfl, o2⟩
  have O2 := Lib.hid (O1.out.later o2.below)
  have B2 := Lib.hid (B1.out.trans (o2.below.mono B1.out.size))
  have cS := sameInts_same a1 a2 d1 d2 l w2 (by have := HLN.out; have := HM.out; omega) (intsAt_own O2.out.own).2 (intsAt_own o2.own).2
  rw [HLN.out, HM.out] at cS
  clear c2 o2 O1 B1
  go_wp2_with fail
  refine cS.mono ?_
  rintro e w3 ⟨rfl, q3, rfl⟩
  have O3 := Lib.hid (O2.out.later (below_drewN' (Below.refl _ _) q3))
  have B3 := Lib.hid (below_drewN' B2.out q3)
  have hmt : ((m : Int) == ((t.size : Nat) : Int)) = true := by rw [HM.out]; exact tm
  have hmt' : ((m : Int) != ((t.size : Nat) : Int)) = false := by rw [bne, hmt]; rfl
  clear cS O2 B2
  generalize w2.drewN q3 = w4 at O3 B3 ⊢
  have HIN := Lib.hid (intsAt_own O3.out.own).2
  clear O3
  go_wp2
  go_loopw [6, 7, 8] (fun b_ k_ _ wr => ∃ k b : Nat, k ≤ m ∧ b ≤ k ∧ b_ = .int .i64 (b : Int) ∧ k_ = .int .i64 (k : Int) ∧ Hid (b = bestTo s.data.toList t.data.toList k) ∧ Hid (wr = w4)) (fun _ k_ _ _ => m - (intOf k_).toNat)
  case atStart => exact ⟨0, 0, Nat.zero_le _, Nat.le_refl _, rfl, rfl, Lib.hid rfl, Lib.hid rfl⟩
  case round =>
    obtain ⟨k, b, hk, hb, rfl, rfl, HBE, HW⟩ := hrel
    obtain rfl := HW.out
    clear HW
    have HMS := Lib.hid (show ((t.size : Nat) : Int) = (m : Int) by rw [HM.out])
    by_cases hlt : k < m
    · have z1 : (k : Int) < ((t.size : Nat) : Int) := by rw [HMS.out]; omega
      obtain ⟨n, hn⟩ : ∃ n, lsN s.data.toList (t.data.toList.take (k + 1)) = n := ⟨_, rfl⟩
      obtain ⟨f1, f2, f3⟩ := ends_facts s.data.toList t (by have := HM.out; omega) hn
      have hll : k < l.length := by have := HLN.out; have := HM.out; omega
      have hlk : l.getD k 0 = (n : Int) := by
        rw [← HL.out, lsL, List.getD_eq_getElem?_getD, List.getElem?_map, List.getElem?_range (by have : t.data.toList.length = t.size := rfl; have := HM.out; omega)]
        simp [hn]
      obtain ⟨ba, oa, rfl, hca⟩ := HIN.out.spot (fun e => by rw [e] at hll; simp at hll)
      have x1 := hca k hll
      rw [hlk] at x1
      have HB2 := Lib.hid (show max b n = bestTo s.data.toList t.data.toList (k + 1) by rw [bestTo, hn, ← HBE.out])
      have sl1 : ∀ w, (Instr.slice 9 (.string t) (some (.int .i64 ((k : Int) + 1 - (n : Int)))) (some (.int .i64 ((k : Int) + 1))) none).run Try.prog w = .ok (.string (t.extract (k + 1 - n) (k + 1))) w := fun w => by
        have h1 := run_slice_string (P := Try.prog) w 9 t .i64 .i64 ((k : Int) + 1 - (n : Int)) ((k : Int) + 1) Try.ulsQ (by omega) (by omega) (by omega)
        rwa [show ((k : Int) + 1 - (n : Int)).toNat = k + 1 - n by omega, show ((k : Int) + 1).toNat = k + 1 by omega] at h1
      have hxs : (t.extract (k + 1 - n) (k + 1)).size ≤ 1048577 := by rw [ByteArray.size_extract]; omega
      have cI := fun w => isIn_is true s (t.extract (k + 1 - n) (k + 1)) w ⟨fun _ => f2, fun _ => rfl⟩ (by omega) hxs
      obtain ⟨p1, hp1⟩ : ∃ p, t.extract (k + 1 - n) (k + 1) = p := ⟨_, rfl⟩
      rw [hp1] at sl1 cI
      have t0 : ¬ ((n : Int) < 0) := by omega
      have t2 : ¬ ((n : Int) > (k : Int) + 1) := by omega
      have v1 : IntKind.i64.wrap ((k : Int) + 1) = (k : Int) + 1 := IntWalk.i64_in _ (by omega)
      have v2 : IntKind.i64.wrap ((k : Int) + 1 - (n : Int)) = (k : Int) + 1 - (n : Int) := IntWalk.i64_in _ (by omega)
      have z0 : (0 : Int) ≤ (k : Int) := by omega
      have z2 : (k : Int) < (m : Int) := by omega
      by_cases hnk : n ≤ k
      · have t3 : (n : Int) ≤ (k : Int) := by omega
        have sl2 : ∀ w, (Instr.slice 9 (.string t) (some (.int .i64 ((k : Int) - (n : Int)))) (some (.int .i64 ((k : Int) + 1))) none).run Try.prog w = .ok (.string (t.extract (k - n) (k + 1))) w := fun w => by
          have h1 := run_slice_string (P := Try.prog) w 9 t .i64 .i64 ((k : Int) - (n : Int)) ((k : Int) + 1) Try.ulsQ (by omega) (by omega) (by omega)
          rwa [show ((k : Int) - (n : Int)).toNat = k - n by omega, show ((k : Int) + 1).toNat = k + 1 by omega] at h1
        have hxs2 : (t.extract (k - n) (k + 1)).size ≤ 1048577 := by rw [ByteArray.size_extract]; omega
        have f4 := f3 hnk
        have cJ := fun w => isIn_is false s (t.extract (k - n) (k + 1)) w ⟨(fun e => absurd e (by decide)), (fun e => absurd e f4)⟩ (by omega) hxs2
        obtain ⟨p2, hp2⟩ : ∃ p, t.extract (k - n) (k + 1) = p := ⟨_, rfl⟩
        rw [hp2] at sl2 cJ
        have v3 : IntKind.i64.wrap ((k : Int) - (n : Int)) = (k : Int) - (n : Int) := IntWalk.i64_in _ (by omega)
        clear hp1 hp2 hxs hxs2 f2 f3 f4 hn hll hlk hca hnk
        go_wp2_with fail
        refine (cI _).mono ?_
        rintro e wq ⟨rfl, rfl⟩
        go_wp2_with fail
        refine (cJ _).mono ?_
        rintro e wq ⟨rfl, rfl⟩
        clear cI cJ
        go_wp2
        go_roundw
        case rel => exact ⟨k + 1, max b n, by omega, by omega, by first | (congr 1; omega) | (simp; omega) | simp, by go_num, HB2, Lib.hid (by trivial)⟩
        case measure => simp [intOf]; omega
      · have t3 : ¬ ((n : Int) ≤ (k : Int)) := by omega
        clear hp1 hxs f2 f3 hn hll hlk hca hnk
        go_wp2_with fail
        refine (cI _).mono ?_
        rintro e wq ⟨rfl, rfl⟩
        clear cI
        go_wp2
        go_roundw
        case rel => exact ⟨k + 1, max b n, by omega, by omega, by first | (congr 1; omega) | (simp; omega) | simp, by go_num, HB2, Lib.hid (by trivial)⟩
        case measure => simp [intOf]; omega
    · have z1 : ¬ ((k : Int) < ((t.size : Nat) : Int)) := by rw [HMS.out]; omega
      obtain rfl : k = m := by omega
      have hzb : z = (b : Int) := by rw [HZ.out, HBE.out, HM.out]
      subst hzb
      have BB := B3.out
      have t5 : ((b : Int) == (b : Int)) = true := beq_self_eq_true _
      clear HBE HZ B3 HIN
      go_wp2_with fail
      refine (c5 _).mono ?_
      rintro e wq ⟨rfl, hb⟩
      replace BB := BB.trans (hb.mono BB.size)
      clear hb
      go_wp2_with fail
      refine (alive_any _).mono ?_
      rintro e wq ⟨rfl, rfl⟩
      go_wp2
      go_ret
      exact ⟨rfl, BB⟩

end Go.Proofs.Ytehppjilnacjlaa
