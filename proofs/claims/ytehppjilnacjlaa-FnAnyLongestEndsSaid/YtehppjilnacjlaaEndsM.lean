/-
  The contract of the model's function LongestEnds. Condition: texts have at most 2^20 bytes.
-/
import Derived.Test.YtehppjilnacjlaaHowM
namespace Go.Proofs.Ytehppjilnacjlaa
open Go.RowKit

theorem Try.ulI9 : Try.prog.underlying 41 = some (.slice 3) := by kernel_rfl
theorem Try.infoI9 : (Try.prog.info? 3).map (fun i => (i.zero, i.size, i.bytes)) = some (some (.int .i64 0), 1, 8) := by kernel_rfl
theorem lsL_len (s t : Wd) : (lsL s t).length = t.length := by simp [lsL]
theorem lsL_next {s t : Wd} {k : Nat} (hk : k < t.length) : (lsL s t).take (k + 1) = (lsL s t).take k ++ [(lsN s (t.take (k + 1)) : Int)] := by
  rw [List.take_succ_eq_append_getElem (by rw [lsL_len]; exact hk)]
  simp [lsL]

theorem ownsRow_down {w : World} {B B' : Nat} {e : TypeId} {s : Nat} {v : Value} {n : Nat} {xs : List Value} (h : w.ownsRow B e s v n xs) (hb : B' ≤ B) : w.ownsRow B' e s v n xs := by
  refine ⟨h.1, ?_⟩
  rcases h.2 with h0 | ⟨g, cap, cur, h1, h2, h3⟩
  · exact .inl h0
  · exact .inr ⟨g, cap, cur, h1, Nat.le_trans hb h2, h3⟩

set_option maxHeartbeats 16000000 in
theorem specLng_any (s t : ByteArray) (w : World) (hs : s.size ≤ 1048576) (ht : t.size ≤ 1048576) :
    Calls Try.prog 32 #[.string s, .string t] w fun e w' => ∃ a' c', e = .returned (.slice a' t.size c') ∧ One w w.heap.size w' 3 1 a' t.size c' (intCells (lsL s.data.toList t.data.toList)) := by
  have hsz : s.data.toList.length = s.size := rfl
  have htz : t.data.toList.length = t.size := rfl
  have c1 := specMach_any s w hs
  obtain ⟨u, hu⟩ : ∃ u, s.data.toList = u := ⟨_, rfl⟩
  obtain ⟨y, hy⟩ : ∃ y, t.data.toList = y := ⟨_, rfl⟩
  have HY := Lib.hid hy
  rw [hu] at hsz c1 ⊢
  rw [hy] at htz ⊢
  have hm := mach_most u (by omega)
  have hi := machL_inv u
  obtain ⟨L, hL⟩ : ∃ L, machL u = L := ⟨_, rfl⟩
  rw [hL] at hm hi c1
  have HI := Lib.hid hi
  have HYS := Lib.hid htz
  have HUS := Lib.hid hsz
  have h0 : 0 < L.length := hi.inv.pos
  have HE0 := Lib.hid (show ∃ wd, LongEnd u (y.take 0) wd ∧ wd.length = 0 ∧ sameE u wd (tW L 0) from ⟨[], ⟨List.nil_suffix, pc_nil u, fun x hx _ => hx⟩, rfl, by rw [hi.inv.w0]; exact sameE.refl _ _⟩)
  clear hu hsz hL hy htz hi
  go_enter Try.func32, Try.ntmps32
  go_wp2_with fail
  refine c1.mono ?_
  rintro e w2 ⟨g, c, A, rfl, hS⟩
  have HS := Lib.hid hS
  have HO0 := Lib.hid (show One w2 w2.heap.size (w2.alloc (.cells #[] 3)) 3 1 (some ⟨w2.heap.size, 0, none⟩) 0 0 (intCells ((lsL u y).take 0)) from One.empty w2 3 1)
  clear c1 hS
  go_wp2
  go_loopw [6, 7, 8, 9] (fun out_ at_ long_ k_ wr => ∃ (k i m : Nat) (a : Option Addr) (cc : Nat), k ≤ t.size ∧ i < L.length ∧ out_ = .slice a k cc ∧ at_ = .int .i64 (i : Int) ∧ long_ = .int .i64 (m : Int) ∧ k_ = .int .i64 (k : Int) ∧ Hid (∃ wd, LongEnd u (y.take k) wd ∧ wd.length = m ∧ sameE u wd (tW L i)) ∧ m ≤ 1048576 ∧ Hid (One w2 w2.heap.size wr 3 1 a k cc (intCells ((lsL u y).take k)))) (fun _ _ _ k_ _ => t.size - (intOf k_).toNat)
  case atStart => exact ⟨0, 0, 0, _, 0, Nat.zero_le _, h0, rfl, rfl, rfl, rfl, HE0, by omega, HO0⟩
  case round =>
    clear HO0 HE0
    obtain ⟨k, i, m, a, cc, hk, hil, rfl, rfl, rfl, rfl, HWD, hm9, HO⟩ := hrel
    by_cases hlt : k < t.size
    · obtain ⟨x, hx⟩ : ∃ x, t[k] = x := ⟨_, rfl⟩
      have hky : k < y.length := by have := HYS.out; omega
      have hyx : y.take (k + 1) = y.take k ++ [x] := by
        rw [List.take_succ_eq_append_getElem hky, ← hx]
        have h1 := HY.out
        subst h1
        rfl
      have HE := Lib.hid (show EndsI u L (y.take k) x i m from by
        obtain ⟨wd, w1, w2, w3⟩ := HWD.out
        rw [← w2]
        exact ends_start w1 hil w3 x)
      have hb9 : (x.toNat : Int) ≤ 255 := by have := x.toNat_lt; omega
      have z0 : (0 : Int) ≤ (k : Int) := by omega
      have z1 : (k : Int) < (t.size : Int) := by omega
      clear HWD
      go_wp2
      go_loopw [7, 8] (fun at_ long_ wr => ∃ i m : Nat, i < L.length ∧ m ≤ 1048576 ∧ at_ = .int .i64 (i : Int) ∧ long_ = .int .i64 (m : Int) ∧ Hid (EndsI u L (y.take k) x i m) ∧ Hid (One w2 w2.heap.size wr 3 1 a k cc (intCells ((lsL u y).take k)))) (fun at_ _ _ => (tW L (intOf at_).toNat).length)
      case atStart => exact ⟨i, m, hil, hm9, rfl, rfl, HE, HO⟩
      case round =>
        clear HE HO hil hm9
        obtain ⟨i, m, hil, hm9, rfl, rfl, HEI, HO0⟩ := hrel
        have hmm : m < 1048576 ∨ m = 1048576 := by omega
        obtain ⟨ai, ni, ci, hAi⟩ : ∃ a n c, A i = (a, n, c) := ⟨_, _, _, rfl⟩
        obtain ⟨d1, hd1⟩ : ∃ d : Nat, (tW L i).length = d := ⟨_, rfl⟩
        obtain ⟨d2, hd2⟩ : ∃ d, tK L i = d := ⟨_, rfl⟩
        have hone := HS.out.one hil
        rw [hAi] at hone
        have HC := Lib.hid (show ∀ w', Below w2.heap.size w2 w' → (w'.cell? ⟨g, i * 3, none⟩ = some (.int .i64 (d1 : Int)) ∧ w'.cell? ⟨g, i * 3 + 1, none⟩ = some (.int .i64 d2) ∧ w'.cell? ⟨g, i * 3 + 2, none⟩ = some (.slice ai ni ci)) ∧ CellsAt w' ai (pairsC (tE L i)) from fun w' hb' => by
          have h1 := (HS.out.later hb').cells hil
          rw [dOf, hd1, hd2, hAi] at h1
          exact ⟨h1, hone.at_.below hb'⟩)
        have hlen : ni = (tE L i).length := pairs_len hone.own
        have hfe := edges_few HI.out hil
        have cT := fun (w' : World) hat => specTo_any (d1 : Int) d2 (tE L i) (x.toNat : Int) ai ni ci w' hlen (by omega) hat
        obtain ⟨v, hv⟩ : ∃ v, tT L i x = v := ⟨_, rfl⟩
        rw [show toE (tE L i) (x.toNat : Int) = v from hv] at cT
        obtain ⟨⟨q1, q2, q3⟩, _⟩ := HC.out _ HO0.out.below
        have hni9 : ni ≤ 256 := by omega
        have z2 : (0 : Int) ≤ (i : Int) := by omega
        have z3 : (i : Int) < (L.length : Int) := by omega
        clear hone hlen hfe hAi
        by_cases hyes : 0 ≤ tT L i x
        · have hm10 : m + 1 ≤ 1048576 := by
            obtain ⟨j, hj, _, wd, w1, w2, w3⟩ := HEI.out.edge HI.out hyes
            obtain ⟨e, he⟩ := w1.pc
            have := endsAt_len he
            have := he.1
            have := HUS.out
            omega
          by_cases hi0 : i = 0
          · have t3 : decide ((i : Int) > 0) = false := decide_eq_false (by omega)
            have z6 : (i : Int) ≤ 0 := by omega
            clear hi0 t3
            obtain ⟨j, hj, e1, wd, hle, hwl, hsm⟩ := HEI.out.edge HI.out hyes
            have hvj : v = (j : Int) := by omega
            subst hvj
            have HLE := Lib.hid (show ∃ wd, LongEnd u (y.take (k + 1)) wd ∧ wd.length = m + 1 ∧ sameE u wd (tW L j) from ⟨wd, by rw [hyx]; exact hle, hwl, hsm⟩)
            have HNX := Lib.hid (show (lsL u y).take (k + 1) = (lsL u y).take k ++ [((m + 1 : Nat) : Int)] by rw [lsL_next hky, hyx, lsN_is hle, hwl])
            have t5 : decide ((j : Int) < 0) = false := decide_eq_false (by omega)
            have t6 : decide ((j : Int) ≥ 0) = true := decide_eq_true (by omega)
            clear hyes e1 hle hwl hsm hv
            go_wp2_with fail
            refine (cT _ (HC.out _ HO0.out.below).2).mono ?_
            rintro e wc1 ⟨rfl, b1⟩
            have HO1 := Lib.hid (HO0.out.later b1)
            clear q1 q2 q3
            obtain ⟨⟨q1, q2, q3⟩, _⟩ := HC.out _ HO1.out.below
            clear b1
            go_wp2_with fail
            refine (cT _ (HC.out _ HO1.out.below).2).mono ?_
            rintro e wc2 ⟨rfl, b2⟩
            have HO2 := Lib.hid (HO1.out.later b2)
            clear q1 q2 q3
            obtain ⟨⟨q1, q2, q3⟩, _⟩ := HC.out _ HO2.out.below
            clear b2
            have v2 : IntKind.i64.wrap ((m : Int) + 1) = (m : Int) + 1 := IntWalk.i64_in _ (by omega)
            go_wp2_with (at_builtin; refine wpList_append_row rfl (.tmp 60) (.tmp 62) 41 rfl Try.ulI9 Try.infoI9 rfl (by decide) HO2.out rfl #[.int .i64 ((m : Int) + 1)] rfl rfl (by simp [Value.oneCell']) (by unfold maxLen; omega) (by omega) ?_; intro a7 c7 w7 h7)
            go_roundw
            case rel => exact ⟨k + 1, j, m + 1, a7, c7, by omega, hj, rfl, by go_num, by go_num, by go_num, HLE, by omega, Lib.hid (by rw [HNX.out, intCells_append]; exact h7)⟩
            case measure => simp [intOf]; omega
          · have t3 : decide ((i : Int) > 0) = true := decide_eq_true (by omega)
            obtain ⟨j, hj, e1, wd, hle, hwl, hsm⟩ := HEI.out.edge HI.out hyes
            have hvj : v = (j : Int) := by omega
            subst hvj
            have HLE := Lib.hid (show ∃ wd, LongEnd u (y.take (k + 1)) wd ∧ wd.length = m + 1 ∧ sameE u wd (tW L j) from ⟨wd, by rw [hyx]; exact hle, hwl, hsm⟩)
            have HNX := Lib.hid (show (lsL u y).take (k + 1) = (lsL u y).take k ++ [((m + 1 : Nat) : Int)] by rw [lsL_next hky, hyx, lsN_is hle, hwl])
            have t5 : decide ((j : Int) < 0) = false := decide_eq_false (by omega)
            have t6 : decide ((j : Int) ≥ 0) = true := decide_eq_true (by omega)
            clear hyes e1 hle hwl hsm hv
            go_wp2_with fail
            refine (cT _ (HC.out _ HO0.out.below).2).mono ?_
            rintro e wc1 ⟨rfl, b1⟩
            have HO1 := Lib.hid (HO0.out.later b1)
            clear q1 q2 q3
            obtain ⟨⟨q1, q2, q3⟩, _⟩ := HC.out _ HO1.out.below
            clear b1
            go_wp2_with fail
            refine (cT _ (HC.out _ HO1.out.below).2).mono ?_
            rintro e wc2 ⟨rfl, b2⟩
            have HO2 := Lib.hid (HO1.out.later b2)
            clear q1 q2 q3
            obtain ⟨⟨q1, q2, q3⟩, _⟩ := HC.out _ HO2.out.below
            clear b2
            go_wp2_with fail
            refine (cT _ (HC.out _ HO2.out.below).2).mono ?_
            rintro e wc3 ⟨rfl, b3⟩
            have HO3 := Lib.hid (HO2.out.later b3)
            clear q1 q2 q3
            obtain ⟨⟨q1, q2, q3⟩, _⟩ := HC.out _ HO3.out.below
            clear b3
            have v2 : IntKind.i64.wrap ((m : Int) + 1) = (m : Int) + 1 := IntWalk.i64_in _ (by omega)
            go_wp2_with (at_builtin; refine wpList_append_row rfl (.tmp 60) (.tmp 62) 41 rfl Try.ulI9 Try.infoI9 rfl (by decide) HO3.out rfl #[.int .i64 ((m : Int) + 1)] rfl rfl (by simp [Value.oneCell']) (by unfold maxLen; omega) (by omega) ?_; intro a7 c7 w7 h7)
            go_roundw
            case rel => exact ⟨k + 1, j, m + 1, a7, c7, by omega, hj, rfl, by go_num, by go_num, by go_num, HLE, by omega, Lib.hid (by rw [HNX.out, intCells_append]; exact h7)⟩
            case measure => simp [intOf]; omega
        · by_cases hi0 : i = 0
          · subst hi0
            have t3 : decide (((0 : Nat) : Int) > 0) = false := decide_eq_false (by omega)
            obtain ⟨e1, e2, e3⟩ := HEI.out.none_ HI.out (by omega)
            subst e1
            have HLE := Lib.hid (show ∃ wd, LongEnd u (y.take (k + 1)) wd ∧ wd.length = 0 ∧ sameE u wd (tW L 0) from ⟨[], by rw [hyx]; exact e2, rfl, e3⟩)
            have HNX := Lib.hid (show (lsL u y).take (k + 1) = (lsL u y).take k ++ [((0 : Nat) : Int)] by rw [lsL_next hky, hyx, lsN_is e2]; rfl)
            have t6 : decide (v ≥ 0) = false := decide_eq_false (by omega)
            clear hyes e2 e3 hv
            go_wp2_with fail
            refine (cT _ (HC.out _ HO0.out.below).2).mono ?_
            rintro e wc1 ⟨rfl, b1⟩
            have HO1 := Lib.hid (HO0.out.later b1)
            clear q1 q2 q3
            obtain ⟨⟨q1, q2, q3⟩, _⟩ := HC.out _ HO1.out.below
            clear b1
            go_wp2_with (at_builtin; refine wpList_append_row rfl (.tmp 60) (.tmp 62) 41 rfl Try.ulI9 Try.infoI9 rfl (by decide) HO1.out rfl #[.int .i64 ((0 : Nat) : Int)] rfl rfl (by simp [Value.oneCell']) (by unfold maxLen; omega) (by omega) ?_; intro a7 c7 w7 h7)
            go_roundw
            case rel => exact ⟨k + 1, 0, 0, a7, c7, by omega, hil, rfl, rfl, rfl, by go_num, HLE, by omega, Lib.hid (by rw [HNX.out, intCells_append]; exact h7)⟩
            case measure => simp [intOf]; omega
          · have t3 : decide ((i : Int) > 0) = true := decide_eq_true (by omega)
            obtain ⟨j, hj, e1, e2, e3⟩ := HEI.out.link HI.out (by omega) (by omega)
            have hd2j : d2 = (j : Int) := by omega
            subst hd2j
            have hjw := word_most HI.out hj
            have hus := HUS.out
            have y1 := (HS.out.cells hj).1
            obtain ⟨d3, hd3⟩ : ∃ d : Nat, (tW L j).length = d := ⟨_, rfl⟩
            have HJ := Lib.hid (show ∀ w', Below w2.heap.size w2 w' → w'.cell? ⟨g, j * 3, none⟩ = some (.int .i64 (d3 : Int)) from fun w' hb' => by
              have h1 := ((HS.out.later hb').cells hj).1
              rw [dOf, hd3] at h1
              exact h1)
            have HE3 := Lib.hid e3
            have HD3 := Lib.hid hd3
            have HD1 := Lib.hid hd1
            have t5 : decide (v < 0) = true := decide_eq_true (by omega)
            have z4 : (0 : Int) ≤ (j : Int) := by omega
            have z5 : (j : Int) < (L.length : Int) := by omega
            clear hyes hv e1 e3 hd1 y1
            go_wp2_with fail
            refine (cT _ (HC.out _ HO0.out.below).2).mono ?_
            rintro e wc1 ⟨rfl, b1⟩
            have HO1 := Lib.hid (HO0.out.later b1)
            clear q1 q2 q3
            obtain ⟨⟨q1, q2, q3⟩, _⟩ := HC.out _ HO1.out.below
            clear b1
            have y1 := HJ.out _ HO1.out.below
            go_wp2
            go_roundw
            case rel => exact ⟨j, d3, hj, by omega, rfl, rfl, Lib.hid (by have h1 := HE3.out; rw [HD3.out] at h1; exact h1), HO1⟩
            case measure => simp [intOf]; have := HD1.out; omega
    · have HR := Lib.hid (show (lsL u y).take k = lsL u y from List.take_of_length_le (by rw [lsL_len]; have := HYS.out; omega))
      obtain rfl : k = t.size := by omega
      go_wp2
      go_ret
      have h1 := HO.out
      rw [HR.out] at h1
      exact ⟨a, cc, rfl, ⟨ownsRow_down h1.own HS.out.outer.base, Nat.le_trans HS.out.outer.base h1.base, HS.out.outer.below.trans (h1.below.mono HS.out.outer.base)⟩⟩

end Go.Proofs.Ytehppjilnacjlaa
