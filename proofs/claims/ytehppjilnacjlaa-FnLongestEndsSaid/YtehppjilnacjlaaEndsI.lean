/-
  The contract of the program's function LongestEnds. Condition: texts have at most 2^20 bytes.
-/
import Derived.Test.YtehppjilnacjlaaPcsI
import Derived.Test.YtehppjilnacjlaaEndsM
namespace Go.Proofs.Ytehppjilnacjlaa
open Go.RowKit

/-- By links to the first state that goes on, and by its edge: what is met is the longest end. -/
theorem ends_going {s : Wd} {L : List Sta} (hM : MInv s L) {y : Wd} {b : UInt8} : ∀ (d i n : Nat), (tW L i).length = d → EndsI s L y b i n →
    ∃ p : Int, Going (datL L) (b.toNat : Int) (i : Int) p ∧ ((p = -1 ∧ LongEnd s (y ++ [b]) [] ∧ sameE s [] (tW L 0)) ∨ ∃ (j r m : Nat), p = (j : Int) ∧ j < L.length ∧ toE (tE L j) (b.toNat : Int) = (r : Int) ∧ r < L.length ∧ m = (if j = i then n else (tW L j).length) ∧ ∃ w, LongEnd s (y ++ [b]) w ∧ w.length = m + 1 ∧ sameE s w (tW L r)) := by
  intro d
  induction d using Nat.strongRecOn with
  | _ d ih =>
    intro i n hd hE
    have hi := hE.lt
    have hid : i < (datL L).length := by rw [datL_len]; exact hi
    by_cases hyes : 0 ≤ tT L i b
    · obtain ⟨r, hr, e1, w, e2, e3, e4⟩ := hE.edge hM hyes
      exact ⟨(i : Int), .stay hid (by rw [datL_at hi]; exact hyes), .inr ⟨i, r, n, rfl, hi, e1, hr, by rw [if_pos rfl], w, e2, e3, e4⟩⟩
    · have hno : tT L i b < 0 := by omega
      have hneg : toE (dtA (datL L) i).2.2 (b.toNat : Int) < 0 := by rw [datL_at hi]; exact hno
      rcases Nat.eq_zero_or_pos i with h0 | h0
      · subst h0
        obtain ⟨e1, e2, e3⟩ := hE.none_ hM hno
        refine ⟨-1, .link hid hneg ?_, .inl ⟨rfl, e2, e3⟩⟩
        rw [datL_at hi, show tK L 0 = -1 from hM.inv.k0]
        exact .off
      · obtain ⟨j, hj, e1, e2, e3⟩ := hE.link hM h0 hno
        obtain ⟨p, g1, g2⟩ := ih (tW L j).length (by omega) j (tW L j).length rfl e3
        refine ⟨p, .link hid hneg ?_, ?_⟩
        · rw [datL_at hi]
          show Going _ _ (tK L i) p
          rw [e1]
          exact g1
        · rcases g2 with ⟨k1, k2, k3⟩ | ⟨j2, r, m, k1, k2, k3, k4, k5, w, k6, k7, k8⟩
          · exact .inl ⟨k1, k2, k3⟩
          · refine .inr ⟨j2, r, m, k1, k2, k3, k4, ?_, w, k6, k7, k8⟩
            have hm : m = (tW L j2).length := by
              by_cases h : j2 = j
              · subst h; rw [k5, if_pos rfl]
              · rw [k5, if_neg h]
            by_cases h : j2 = i
            · exfalso
              subst h
              have hle : 0 ≤ tT L j2 b := by show 0 ≤ toE (tE L j2) (b.toNat : Int); omega
              omega
            · rw [if_neg h]; exact hm

set_option maxHeartbeats 16000000 in
theorem implLng_any (s t : ByteArray) (w : World) (hs : s.size ≤ 1048576) (ht : t.size ≤ 1048576) :
    Calls Try.prog 30 #[.string s, .string t] w fun e w' => ∃ a' c', e = .returned (.slice a' t.size c') ∧ One w w.heap.size w' 3 1 a' t.size c' (intCells (lsL s.data.toList t.data.toList)) := by
  have hsz : s.data.toList.length = s.size := rfl
  have htz : t.data.toList.length = t.size := rfl
  have c1 := implMach_any s w hs
  obtain ⟨u, hu⟩ : ∃ u, s.data.toList = u := ⟨_, rfl⟩
  obtain ⟨y, hy⟩ : ∃ y, t.data.toList = y := ⟨_, rfl⟩
  have HY := Lib.hid hy
  rw [hu] at hsz c1 ⊢
  rw [hy] at htz ⊢
  have hm := mach_most u (by omega)
  have hi := machL_inv u
  obtain ⟨L, hL⟩ : ∃ L, machL u = L := ⟨_, rfl⟩
  rw [hL] at hm hi c1
  have HI := Lib.hid hi
  have HYS := Lib.hid htz
  have HUS := Lib.hid hsz
  have h0 : 0 < L.length := hi.inv.pos
  have HE0 := Lib.hid (show ∃ wd, LongEnd u (y.take 0) wd ∧ wd.length = 0 ∧ sameE u wd (tW L 0) from ⟨[], ⟨List.nil_suffix, pc_nil u, fun x hx _ => hx⟩, rfl, by rw [hi.inv.w0]; exact sameE.refl _ _⟩)
  clear hu hsz hL hy htz hi
  go_enter Try.func30, Try.ntmps30
  go_wp2_with fail
  refine c1.mono ?_
  rintro e w2 ⟨g, c, A, rfl, hS⟩
  have HS := Lib.hid hS
  have HAT := Lib.hid hS.at_
  have HO0 := Lib.hid (show One w2 w2.heap.size w2 3 1 none 0 0 (intCells ((lsL u y).take 0)) from One.nil w2 3 1)
  clear c1 hS
  go_wp2
  go_loopw [6, 7, 8, 9] (fun out_ at_ long_ k_ wr => ∃ (k i m : Nat) (a : Option Addr) (cc : Nat), k ≤ t.size ∧ i < L.length ∧ out_ = .slice a k cc ∧ at_ = .int .i64 (i : Int) ∧ long_ = .int .i64 (m : Int) ∧ k_ = .int .i64 (k : Int) ∧ Hid (∃ wd, LongEnd u (y.take k) wd ∧ wd.length = m ∧ sameE u wd (tW L i)) ∧ m ≤ 1048576 ∧ Hid (One w2 w2.heap.size wr 3 1 a k cc (intCells ((lsL u y).take k)))) (fun _ _ _ k_ _ => t.size - (intOf k_).toNat)
  case atStart => exact ⟨0, 0, 0, _, 0, Nat.zero_le _, h0, rfl, rfl, rfl, rfl, HE0, by omega, HO0⟩
  case round =>
    clear HO0 HE0
    obtain ⟨k, i, m, a, cc, hk, hil, rfl, rfl, rfl, rfl, HWD, hm9, HO⟩ := hrel
    by_cases hlt : k < t.size
    · obtain ⟨x, hx⟩ : ∃ x, t[k] = x := ⟨_, rfl⟩
      have hky : k < y.length := by have := HYS.out; omega
      have hyx : y.take (k + 1) = y.take k ++ [x] := by
        rw [List.take_succ_eq_append_getElem hky, ← hx]
        have h1 := HY.out
        subst h1
        rfl
      have hE : EndsI u L (y.take k) x i m := by
        obtain ⟨wd, w1, w2, w3⟩ := HWD.out
        rw [← w2]
        exact ends_start w1 hil w3 x
      obtain ⟨p, hgo, hcase⟩ := ends_going HI.out (tW L i).length i m rfl hE
      clear hE
      have hat := HAT.out.below HO.out.below
      have cG := implGo_any (datL L) (i : Int) p (x.toNat : Int) (some ⟨g, 0, none⟩) L.length c A wr (datL_len _).symm (mach_few9 HI.out) (mach_links HI.out) hgo hat
      have hb9 : (x.toNat : Int) ≤ 255 := by have := x.toNat_lt; omega
      have va : IntKind.i64.wrap (x.toNat : Int) = (x.toNat : Int) := IntWalk.i64_in _ (by omega)
      have z0 : (0 : Int) ≤ (k : Int) := by omega
      have z1 : (k : Int) < (t.size : Int) := by omega
      rcases hcase with ⟨rfl, hLE, hsm⟩ | ⟨j, r, m2, rfl, hj, hr, hrl, hm2, wd, hLE, hwl, hsm⟩
      · have HWD2 := Lib.hid (show ∃ wd, LongEnd u (y.take (k + 1)) wd ∧ wd.length = 0 ∧ sameE u wd (tW L 0) from ⟨[], by rw [hyx]; exact hLE, rfl, hsm⟩)
        have HNX := Lib.hid (show intCells ((lsL u y).take k) ++ [.int .i64 0] = intCells ((lsL u y).take (k + 1)) by rw [lsL_next hky, hyx, lsN_is hLE, intCells_append]; rfl)
        clear hgo hat hLE hsm hyx hky HWD
        go_wp2_with fail
        refine cG.mono ?_
        rintro e w5 ⟨rfl, rfl⟩
        clear cG hx
        go_wp2_with (at_builtin; refine wpList_append_row rfl (.tmp 47) (.tmp 49) 41 rfl Try.ulI9 Try.infoI9 rfl (by decide) HO.out rfl #[.int .i64 0] rfl rfl (by simp [Value.oneCell']) (by unfold maxLen; omega) (by omega) ?_; intro a6 c6 w6 h6)
        have HO6 := Lib.hid (show One w2 w2.heap.size w6 3 1 a6 (k + 1) c6 (intCells ((lsL u y).take (k + 1))) by rw [← HNX.out]; exact h6)
        clear h6
        go_roundw
        case rel => exact ⟨k + 1, 0, 0, a6, c6, by omega, h0, rfl, rfl, rfl, by go_num, HWD2, by omega, HO6⟩
        case measure => simp [intOf]; omega
      · have hm20 : m2 + 1 ≤ 1048576 := by
          obtain ⟨e, he⟩ := hLE.pc
          have := endsAt_len he
          have := he.1
          have := HUS.out
          omega
        have HWD2 := Lib.hid (show ∃ wd, LongEnd u (y.take (k + 1)) wd ∧ wd.length = m2 + 1 ∧ sameE u wd (tW L r) from ⟨wd, by rw [hyx]; exact hLE, hwl, hsm⟩)
        have HNX := Lib.hid (show intCells ((lsL u y).take k) ++ [.int .i64 ((m2 : Int) + 1)] = intCells ((lsL u y).take (k + 1)) by
          rw [lsL_next hky, hyx, lsN_is hLE, hwl, intCells_append]; rfl)
        have hS := HS.out.later HO.out.below
        have hone := hS.one hj
        obtain ⟨aj, nj, cj, hAj⟩ : ∃ a n c, A j = (a, n, c) := ⟨_, _, _, rfl⟩
        rw [hAj] at hone
        have hnj : nj = (tE L j).length := pairs_len hone.own
        have hfew := edges_few HI.out hj
        have cB := implBy_any (tE L j) (x.toNat : Int) aj nj cj wr hnj (by omega) hone.at_
        rw [hr] at cB
        obtain ⟨q1, q2, q3⟩ := hS.cells hj
        rw [hAj] at q3
        replace q3 : wr.cell? ⟨g, j * 3 + 2, none⟩ = some (.slice aj nj cj) := q3
        have hnj9 : nj ≤ 256 := by omega
        have z2 : (0 : Int) ≤ (j : Int) := by omega
        have z3 : (j : Int) < (L.length : Int) := by omega
        have v1 : IntKind.i64.wrap ((m2 : Int) + 1) = (m2 : Int) + 1 := IntWalk.i64_in _ (by omega)
        by_cases hji : j = i
        · have t1 : ((j : Int) == (i : Int)) = true := by rw [beq_iff_eq]; omega
          have t1' : ((j : Int) != (i : Int)) = false := by rw [bne, t1]; rfl
          have hmm : m2 = m := by rw [hm2, if_pos hji]
          subst hmm
          subst hji
          clear hgo hat hLE hsm hyx hky HWD hm2 hwl hS hone hnj hfew hAj q1 q2 hr
          go_wp2_with fail
          refine cG.mono ?_
          rintro e w5 ⟨rfl, rfl⟩
          clear cG hx
          go_wp2_with fail
          refine cB.mono ?_
          rintro e w7 ⟨rfl, rfl⟩
          clear cB q3
          go_wp2_with (at_builtin; refine wpList_append_row rfl (.tmp 47) (.tmp 49) 41 rfl Try.ulI9 Try.infoI9 rfl (by decide) HO.out rfl #[.int .i64 ((m2 : Int) + 1)] rfl rfl (by simp [Value.oneCell']) (by unfold maxLen; omega) (by omega) ?_; intro a6 c6 w6 h6)
          have HO6 := Lib.hid (show One w2 w2.heap.size w6 3 1 a6 (k + 1) c6 (intCells ((lsL u y).take (k + 1))) by rw [← HNX.out]; exact h6)
          clear h6
          go_roundw
          case rel => exact ⟨k + 1, r, m2 + 1, a6, c6, by omega, hrl, rfl, rfl, by go_num, by go_num, HWD2, by omega, HO6⟩
          case measure => simp [intOf]; omega
        · have t1 : ((j : Int) == (i : Int)) = false := beq_eq_false_iff_ne.2 (by omega)
          have t1' : ((j : Int) != (i : Int)) = true := by rw [bne, t1]; rfl
          have hmm : (tW L j).length = m2 := by rw [hm2, if_neg hji]
          rw [dOf, hmm] at q1
          replace q1 : wr.cell? ⟨g, j * 3, none⟩ = some (.int .i64 (m2 : Int)) := q1
          clear hgo hat hLE hsm hyx hky HWD hm2 hwl hS hone hnj hfew hAj q2 hr hmm hji
          go_wp2_with fail
          refine cG.mono ?_
          rintro e w5 ⟨rfl, rfl⟩
          clear cG hx
          go_wp2_with fail
          refine cB.mono ?_
          rintro e w7 ⟨rfl, rfl⟩
          clear cB q3 q1
          go_wp2_with (at_builtin; refine wpList_append_row rfl (.tmp 47) (.tmp 49) 41 rfl Try.ulI9 Try.infoI9 rfl (by decide) HO.out rfl #[.int .i64 ((m2 : Int) + 1)] rfl rfl (by simp [Value.oneCell']) (by unfold maxLen; omega) (by omega) ?_; intro a6 c6 w6 h6)
          have HO6 := Lib.hid (show One w2 w2.heap.size w6 3 1 a6 (k + 1) c6 (intCells ((lsL u y).take (k + 1))) by rw [← HNX.out]; exact h6)
          clear h6
          go_roundw
          case rel => exact ⟨k + 1, r, m2 + 1, a6, c6, by omega, hrl, rfl, rfl, by go_num, by go_num, HWD2, by omega, HO6⟩
          case measure => simp [intOf]; omega
    · have HE := Lib.hid (show (lsL u y).take k = lsL u y from List.take_of_length_le (by rw [lsL_len]; have := HYS.out; omega))
      have HF := Lib.hid (show One w w.heap.size wr 3 1 a k cc (intCells (lsL u y)) by
        have h := HO.out
        rw [HE.out] at h
        exact h.under HS.out.outer.below HS.out.outer.base)
      have HK := Lib.hid (show k = t.size by omega)
      clear HO HWD
      go_wp2
      go_ret
      exact ⟨a, cc, by rw [← HK.out]; rfl, by rw [← HK.out]; exact HF.out⟩

end Go.Proofs.Ytehppjilnacjlaa
