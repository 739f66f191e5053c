/-
  The contract of the model's function MarksAfter. Condition: texts have at most 2^21 bytes.
-/
import Derived.Test.YtjebgoekcaogbaaMarks
import Derived.Test.YtjebgoekcaogbaaApart
namespace Go.Proofs.Ytjebgoekcaogbaa
open Go.RowKit

theorem Try.ulsA : Try.prog.underlying 9 = some .string := by kernel_rfl

theorem pairs_get {l : List (Int × Int)} {i : Nat} (hi : i < l.length) : (pairsC l)[i * 2]? = some (.int .i64 l[i].1) ∧ (pairsC l)[i * 2 + 1]? = some (.int .i64 l[i].2) := by
  constructor
  · have := flat_get pairC 2 pairC_len l i 0 hi (by omega); rw [Nat.add_zero] at this; exact this
  · exact flat_get pairC 2 pairC_len l i 1 hi (by omega)

theorem Beside.later {w w' : World} {a : Option Addr} {cs : List Value} {v : Value} (h : Beside w a cs v) (hb : Below w.heap.size w w') : Beside w' a cs v := ⟨h.at_.below hb, h.apart⟩

theorem drop_extract (u : ByteArray) (f : Nat) : (u.extract f u.size).data.toList = u.data.toList.drop f := by
  rw [ByteArray.data_extract, Array.toList_extract, List.extract_eq_take_drop]
  exact List.take_of_length_le (by rw [List.length_drop]; exact Nat.le_refl _)

set_option maxHeartbeats 4000000 in
theorem specAfter_any (s t : ByteArray) (k v : Nat) (M : List (Int × Int)) (w : World) (hM : marksL (s.data.toList ++ t.data.toList) k v = M) (hs : s.size ≤ 2097152) (ht : t.size ≤ 2097152) (hk : 1 ≤ k) (hv : 1 ≤ v) (hk9 : k ≤ 1000000) (hv9 : v ≤ 1000000) :
    Calls Try.prog 33 #[.string s, .string t, .int .i64 k, .int .i64 v] w fun e w' => ∃ a n c, e = .returned (.slice a n c) ∧ One w w.heap.size w' 37 2 a n c (pairsC M) := by
  obtain ⟨f, hf⟩ : ∃ f, f = s.size + 1 - (k + v - 1) := ⟨_, rfl⟩
  obtain ⟨O, hO⟩ : ∃ O, marksL s.data.toList k v = O := ⟨_, rfl⟩
  obtain ⟨u, hu⟩ : ∃ u, s ++ t = u := ⟨_, rfl⟩
  have hul : u.data.toList = s.data.toList ++ t.data.toList := by rw [← hu]; simp
  have husz : u.size = s.size + t.size := by rw [← hu, ByteArray.size_append]
  have hfu : f ≤ u.size := by omega
  obtain ⟨y, hy⟩ : ∃ y, u.extract f u.size = y := ⟨_, rfl⟩
  have hyl : y.data.toList = (s.data.toList ++ t.data.toList).drop f := by rw [← hy, drop_extract, hul]
  have hysz : y.size ≤ 4194304 := by rw [← hy, ByteArray.size_extract]; omega
  obtain ⟨F, hF⟩ : ∃ F, marksL y.data.toList k v = F := ⟨_, rfl⟩
  have hall := marksL_after s.data.toList t.data.toList k v f (by omega) (by omega) hf
  rw [← hyl, hF, hO, hM] at hall
  have hOl : O.length ≤ 4194304 := by
    rw [← hO, marksL, List.length_map]
    have h1 := chosenN_len (printsL s.data.toList k) v
    have h2 := printsN_room s.data.toList k
    have : s.data.toList.length = s.size := rfl
    unfold marksAt
    omega
  have hFl : F.length ≤ 4194304 := by
    rw [← hF, marksL, List.length_map]
    have h1 := chosenN_len (printsL y.data.toList k) v
    have h2 := printsN_room y.data.toList k
    have : y.data.toList.length = y.size := rfl
    unfold marksAt
    omega
  have HA := Lib.hid hall.1
  have c0 := fun w => specSure_yes k v w (by omega) (by omega) (by omega) (by omega)
  have c1 := fun w => specMarks_any s k v O w hO (by omega) (by omega)
  have c2 := fun w => specMarks_any y k v F w hF hysz (by omega)
  have HU := Lib.hid hu
  have HOl := Lib.hid hOl
  have HFl := Lib.hid hFl
  have f9 : (f : Int) ≤ 2097153 := by omega
  have tS : ((k : Int) + (v : Int) - 1 == 0) = false := by simp; omega
  have sl1 : ∀ w, (Instr.slice 9 (.string (s ++ t)) (some (.int .i64 f)) none none).run Try.prog w = .ok (.string y) w := fun w => by
    have h := run_slice_string_l (P := Try.prog) w 9 u Try.ulsA .i64 (f : Int) (by omega) (by omega)
    rwa [Int.toNat_natCast, hy, ← hu] at h
  have hmax : f = 0 ∧ (s.size : Int) - ((k : Int) + (v : Int) - 1) + 1 ≤ 0 ∨ (s.size : Int) - ((k : Int) + (v : Int) - 1) + 1 = (f : Int) ∧ 0 < f := by omega
  have HFb := Lib.hid (show ∀ j (h : j < F.length), 0 ≤ F[j].2 ∧ F[j].2 ≤ 4194304 from fun j h => by
    have h1 := marksL_bounds y.data.toList k v F[j] (by rw [hF]; exact List.getElem_mem h)
    have : y.data.toList.length = y.size := rfl
    omega)
  clear hM hf hO hul husz hfu hy hyl hysz hF hall hOl hFl hu HU
  rcases hmax with ⟨rfl, hlow⟩ | ⟨hfe, hfp⟩
  · rw [Int.natCast_zero] at sl1
    have HA := Lib.hid (show F.foldl (stepP (0 : Int)) O = M from HA.out)
    go_enter Try.func33, Try.ntmps33
    go_wp2_with fail
    refine (c0 _).mono ?_
    rintro e w1 ⟨rfl, rfl⟩
    go_wp2_with fail
    refine (c0 _).mono ?_
    rintro e w1 ⟨rfl, rfl⟩
    go_wp2_with fail
    refine (c1 _).mono ?_
    rintro e w2 ⟨oa, on, oc, rfl, h2⟩
    have HON := Lib.hid (pairs_len h2.own)
    have hon9 : on ≤ 4194304 := by have := HON.out; have := HOl.out; omega
    go_wp2_with fail
    refine (c2 _).mono ?_
    rintro e w3 ⟨fa, fn, fc, rfl, h3⟩
    have HFN := Lib.hid (pairs_len h3.own)
    have hfn9 : fn ≤ 4194304 := by have := HFN.out; have := HFl.out; omega
    have hw2 : w.heap.size + 1 ≤ w2.heap.size := by have := h2.base; simpa using this
    have hone0 : One w w.heap.size w3 37 2 (some ⟨w.heap.size, 0, none⟩) 0 0 (pairsC (O.take 0)) := ((One.empty w 37 2).later h2.below).later h3.below
    have bo0 : Beside w3 oa (pairsC O) (.slice (some ⟨w.heap.size, 0, none⟩) 0 0) := ⟨cellsAt_own (ownsRow_below h2.own h3.below), fun _ b o ha e => by
      subst ha
      have h := (h2.own.lt b (by simp [Value.ownBlock])).1
      simp [Value.ownBlock] at e h
      omega⟩
    have bf0 : Beside w3 fa (pairsC F) (.slice (some ⟨w.heap.size, 0, none⟩) 0 0) := ⟨cellsAt_own h3.own, fun _ b o ha e => by
      subst ha
      have h := (h3.own.lt b (by simp [Value.ownBlock])).1
      simp [Value.ownBlock] at e h
      omega⟩
    clear h2 h3 c0 c1 c2 sl1 hw2
    go_wp2
    go_loopw [9, 13] (fun o_ i_ wr => ∃ i : Nat, i ≤ on ∧ i_ = .int .i64 i ∧ ∃ a c, o_ = .slice a i c ∧ One w w.heap.size wr 37 2 a i c (pairsC (O.take i)) ∧ Beside wr oa (pairsC O) (.slice a i c) ∧ Beside wr fa (pairsC F) (.slice a i c)) (fun _ i_ _ => on - (intOf i_).toNat)
    case atStart => exact ⟨0, Nat.zero_le _, rfl, _, _, rfl, hone0, bo0, bf0⟩
    case round =>
      clear hone0 bo0 bf0
      obtain ⟨i, hi, rfl, a, c, rfl, hone, bo, bf⟩ := hrel
      by_cases hlt : i < on
      · have hiO : i < O.length := by have := HON.out; omega
        obtain ⟨ob, oo, rfl, _, hoc⟩ := bo.at_.pair (fun e => by rw [e] at hiO; simp at hiO)
        obtain ⟨p, hp⟩ : ∃ p, O[i].1 = p := ⟨_, rfl⟩
        obtain ⟨q, hq⟩ : ∃ q, O[i].2 = q := ⟨_, rfl⟩
        obtain ⟨k1, k2⟩ := hoc i hiO
        have HS := Lib.hid (pairs_take hiO (show O[i] = (p, q) by rw [← hp, ← hq]))
        rw [hp] at k1
        rw [hq] at k2
        clear hoc hp hq
        go_wp2_with (at_builtin; refine wpList_append_apart rfl (.tmp 48) (.tmp 53) 33 rfl Try.ulM4 Try.infoM4 rfl (by decide) hone rfl #[.int .i64 p, .int .i64 q] rfl rfl (by simp [Value.oneCell']) (by unfold maxLen; omega) (by omega) ?_; intro a5 c5 w5 h5 g5 p5)
        go_roundw
        case rel => exact ⟨i + 1, by omega, by go_num, a5, c5, rfl, by rw [HS.out]; exact h5, bo.grow g5 p5, bf.grow g5 p5⟩
        case measure => simp [intOf]; omega
      · have h0 : One w w.heap.size wr 37 2 a i c (pairsC ((F.take 0).foldl (stepP (0 : Int)) O)) := by
          rw [List.take_of_length_le (by have := HON.out; omega)] at hone
          exact hone
        clear hone bo
        go_wp2
        go_loopw [9, 14] (fun o_ j_ wr => ∃ j : Nat, j ≤ fn ∧ j_ = .int .i64 j ∧ ∃ a n c, o_ = .slice a n c ∧ n ≤ on + j ∧ One w w.heap.size wr 37 2 a n c (pairsC ((F.take j).foldl (stepP (0 : Int)) O)) ∧ Beside wr fa (pairsC F) (.slice a n c)) (fun _ j_ _ => fn - (intOf j_).toNat)
        case atStart => exact ⟨0, Nat.zero_le _, rfl, _, _, _, rfl, by omega, h0, bf⟩
        case round =>
          clear h0 bf
          obtain ⟨j, hj, rfl, a, n, c, rfl, hn, hone, bf⟩ := hrel
          by_cases hlj : j < fn
          · have hjF : j < F.length := by have := HFN.out; omega
            obtain ⟨fb, fo, rfl, hfb, hfc⟩ := bf.at_.pair (fun e => by rw [e] at hjF; simp at hjF)
            obtain ⟨p, hp⟩ : ∃ p, F[j].1 = p := ⟨_, rfl⟩
            obtain ⟨q, hq⟩ : ∃ q, F[j].2 = q := ⟨_, rfl⟩
            obtain ⟨k1, k2⟩ := hfc j hjF
            rw [hp] at k1
            rw [hq] at k2
            have nw := World.new_ne wr ⟨fb, fo + j * 2, none⟩ k1
            have nw2 := World.new_ne wr ⟨fb, fo + j * 2 + 1, none⟩ k2
            obtain ⟨T, hT⟩ : ∃ T, (F.take j).foldl (stepP (0 : Int)) O = T := ⟨_, rfl⟩
            have hnx : (F.take (j + 1)).foldl (stepP (0 : Int)) O = stepP (0 : Int) T (p, q) := by rw [foldP_next _ _ _ _ hjF, hT, ← hp, ← hq]
            rw [hT] at hone
            have HNX := Lib.hid hnx
            have hb2 := HFb.out j hjF
            rw [hq] at hb2
            obtain ⟨hq0, hq9⟩ := hb2
            have eW : IntKind.i64.wrap (q) = q := IntWalk.i64_in _ (by omega)
            have hlT := pairs_len hone.own
            have HLT := Lib.hid hlT
            clear hnx hT hp hq hfc hlT
            go_wp2
            go_region_held3 (fun w' => w'.cell? ⟨fb, fo + j * 2, none⟩ = some (.int .i64 p) ∧ w'.cell? ⟨fb, fo + j * 2 + 1, none⟩ = some (.int .i64 q)) (go_keep) (fail)
            have hone2 := (hone.alloc (.cells #[.int .i64 p, .int .i64 q] 37)).drew
            have bf2 : Beside (wr.alloc (.cells #[.int .i64 p, .int .i64 q] 37)).drew (some ⟨fb, fo, none⟩) (pairsC F) (.slice a n c) := (bf.later ((Below.refl _ _).alloc (Nat.le_refl _) _)).later (Below.refl _ _).drew
            have m0 : (wr.alloc (.cells #[.int .i64 p, .int .i64 q] 37)).drew.cell? ⟨wr.heap.size, 0, none⟩ = some (.int .i64 p) := cell_of_row _ wr.heap.size 0 _ _ (0, 0) (heap_alloc_new wr _)
            have m1 : (wr.alloc (.cells #[.int .i64 p, .int .i64 q] 37)).drew.cell? ⟨wr.heap.size, 1, none⟩ = some (.int .i64 q) := cell_of_row _ wr.heap.size 1 _ _ (0, 0) (heap_alloc_new wr _)
            obtain ⟨wm, HW⟩ : ∃ wm, Hid ((wr.alloc (.cells #[.int .i64 p, .int .i64 q] 37)).drew = wm) := ⟨_, Lib.hid rfl⟩
            rw [HW.out] at hone2 bf2 m0 m1 ⊢
            clear hone bf HW k1 k2 nw nw2
            by_cases hn0 : n = 0
            · subst hn0
              have hTn : T = [] := List.length_eq_zero_iff.1 HLT.out.symm
              have HS := Lib.hid (show pairsC ((F.take (j + 1)).foldl (stepP (0 : Int)) O) = pairsC T ++ [.int .i64 p, .int .i64 q] by
                rw [HNX.out, stepP, if_pos (.inl hTn), pairsC_append]; simp [pairsC, pairC])
              clear hTn
              go_wp2
              go_quiet (fail)
              go_wp2_with (at_builtin; refine wpList_append_apart rfl (.tmp 89) (.tmp 91) 33 rfl Try.ulM4 Try.infoM4 rfl (by decide) (hone2.drewN _) rfl #[.int .i64 p, .int .i64 q] rfl rfl (by simp [Value.oneCell']) (by unfold maxLen; omega) (by omega) ?_; intro a5 c5 w5 h5 g5 p5)
              go_roundw
              case rel => exact ⟨j + 1, by omega, by go_num, a5, 1, c5, by first | rfl | simp, by omega, by rw [HS.out]; exact h5, (bf2.drewN _).grow g5 p5⟩
              case measure => simp [intOf]; omega
            · obtain ⟨m, rfl⟩ : ∃ m, n = m + 1 := ⟨n - 1, by omega⟩
              obtain ⟨g, rfl⟩ := hone2.addr (by omega)
              have hmT : m < T.length := by have := HLT.out; omega
              have hgl : T.getLastD (0, 0) = T[m] := by
                rw [List.getLastD_eq_getLast?, List.getLast?_eq_getElem?, show T.length - 1 = m from by have := HLT.out; omega, List.getElem?_eq_getElem hmT]; rfl
              have hTn : T ≠ [] := fun e => by rw [e] at hmT; simp at hmT
              have hpg := (pairs_get hmT).2
              obtain ⟨z, hz⟩ : ∃ z, T[m].2 = z := ⟨_, rfl⟩
              have hcell : wm.cell? ⟨g, m * 2 + 1, none⟩ = some (.int .i64 z) := by rw [hone2.own.cellAt (m * 2 + 1) (by omega), hpg, hz]
              have z0 : (0 : Int) ≤ m := by omega
              have z1 : (m : Int) < (m : Int) + 1 := by omega
              have e1 : IntKind.i64.wrap ((m : Int) + 1 - 1) = (m : Int) := by rw [IntWalk.i64_in _ (by omega)]; omega
              have e2 : IntKind.i64.wrap (m : Int) = (m : Int) := IntWalk.i64_in _ (by omega)
              have e3 : IntKind.i64.wrap (((m + 1 : Nat) : Int) - 1) = (m : Int) := by rw [IntWalk.i64_in _ (by omega)]; omega
              have z2 : (m : Int) < ((m + 1 : Nat) : Int) := by omega
              by_cases hzq : z < q
              · have HS := Lib.hid (show pairsC ((F.take (j + 1)).foldl (stepP (0 : Int)) O) = pairsC T ++ [.int .i64 p, .int .i64 q] by
                  rw [HNX.out, stepP, if_pos (.inr (by rw [hgl, hz]; simpa using hzq)), pairsC_append]; simp [pairsC, pairC])
                clear hgl hTn hpg hz hmT
                go_wp2
                go_quiet (fail)
                go_wp2_with (at_builtin; refine wpList_append_apart rfl (.tmp 89) (.tmp 91) 33 rfl Try.ulM4 Try.infoM4 rfl (by decide) (hone2.drewN _) rfl #[.int .i64 p, .int .i64 q] rfl rfl (by simp [Value.oneCell']) (by unfold maxLen; omega) (by omega) ?_; intro a5 c5 w5 h5 g5 p5)
                go_roundw
                case rel => exact ⟨j + 1, by omega, by go_num, a5, m + 1 + 1, c5, by first | rfl | simp, by omega, by rw [HS.out]; exact h5, (bf2.drewN _).grow g5 p5⟩
                case measure => simp [intOf]; omega
              · have HS := Lib.hid (show pairsC ((F.take (j + 1)).foldl (stepP (0 : Int)) O) = pairsC T by
                  rw [HNX.out, stepP, if_neg (by rw [hgl, hz]; simpa [hTn] using hzq)])
                have tz : decide (z < q) = false := decide_eq_false hzq
                clear hgl hTn hpg hz hmT
                go_wp2
                go_quiet (fail)
                go_wp2
                go_roundw
                case rel => exact ⟨j + 1, by omega, by go_num, _, m + 1, c, rfl, by omega, by rw [HS.out]; exact hone2.drewN _, bf2.drewN _⟩
                case measure => simp [intOf]; omega
          · have HO := Lib.hid (show One w w.heap.size wr 37 2 a n c (pairsC M) by
              rw [List.take_of_length_le (by have := HFN.out; omega), HA.out] at hone
              exact hone)
            clear hone bf
            go_wp2
            go_ret
            exact ⟨_, _, _, rfl, HO.out⟩
  · have hfp2 : (0 : Int) < (f : Int) := by omega
    go_enter Try.func33, Try.ntmps33
    go_wp2_with fail
    refine (c0 _).mono ?_
    rintro e w1 ⟨rfl, rfl⟩
    go_wp2_with fail
    refine (c0 _).mono ?_
    rintro e w1 ⟨rfl, rfl⟩
    go_wp2_with fail
    refine (c1 _).mono ?_
    rintro e w2 ⟨oa, on, oc, rfl, h2⟩
    have HON := Lib.hid (pairs_len h2.own)
    have hon9 : on ≤ 4194304 := by have := HON.out; have := HOl.out; omega
    go_wp2_with fail
    refine (c2 _).mono ?_
    rintro e w3 ⟨fa, fn, fc, rfl, h3⟩
    have HFN := Lib.hid (pairs_len h3.own)
    have hfn9 : fn ≤ 4194304 := by have := HFN.out; have := HFl.out; omega
    have hw2 : w.heap.size + 1 ≤ w2.heap.size := by have := h2.base; simpa using this
    have hone0 : One w w.heap.size w3 37 2 (some ⟨w.heap.size, 0, none⟩) 0 0 (pairsC (O.take 0)) := ((One.empty w 37 2).later h2.below).later h3.below
    have bo0 : Beside w3 oa (pairsC O) (.slice (some ⟨w.heap.size, 0, none⟩) 0 0) := ⟨cellsAt_own (ownsRow_below h2.own h3.below), fun _ b o ha e => by
      subst ha
      have h := (h2.own.lt b (by simp [Value.ownBlock])).1
      simp [Value.ownBlock] at e h
      omega⟩
    have bf0 : Beside w3 fa (pairsC F) (.slice (some ⟨w.heap.size, 0, none⟩) 0 0) := ⟨cellsAt_own h3.own, fun _ b o ha e => by
      subst ha
      have h := (h3.own.lt b (by simp [Value.ownBlock])).1
      simp [Value.ownBlock] at e h
      omega⟩
    clear h2 h3 c0 c1 c2 sl1 hw2
    go_wp2
    go_loopw [9, 13] (fun o_ i_ wr => ∃ i : Nat, i ≤ on ∧ i_ = .int .i64 i ∧ ∃ a c, o_ = .slice a i c ∧ One w w.heap.size wr 37 2 a i c (pairsC (O.take i)) ∧ Beside wr oa (pairsC O) (.slice a i c) ∧ Beside wr fa (pairsC F) (.slice a i c)) (fun _ i_ _ => on - (intOf i_).toNat)
    case atStart => exact ⟨0, Nat.zero_le _, rfl, _, _, rfl, hone0, bo0, bf0⟩
    case round =>
      clear hone0 bo0 bf0
      obtain ⟨i, hi, rfl, a, c, rfl, hone, bo, bf⟩ := hrel
      by_cases hlt : i < on
      · have hiO : i < O.length := by have := HON.out; omega
        obtain ⟨ob, oo, rfl, _, hoc⟩ := bo.at_.pair (fun e => by rw [e] at hiO; simp at hiO)
        obtain ⟨p, hp⟩ : ∃ p, O[i].1 = p := ⟨_, rfl⟩
        obtain ⟨q, hq⟩ : ∃ q, O[i].2 = q := ⟨_, rfl⟩
        obtain ⟨k1, k2⟩ := hoc i hiO
        have HS := Lib.hid (pairs_take hiO (show O[i] = (p, q) by rw [← hp, ← hq]))
        rw [hp] at k1
        rw [hq] at k2
        clear hoc hp hq
        go_wp2_with (at_builtin; refine wpList_append_apart rfl (.tmp 48) (.tmp 53) 33 rfl Try.ulM4 Try.infoM4 rfl (by decide) hone rfl #[.int .i64 p, .int .i64 q] rfl rfl (by simp [Value.oneCell']) (by unfold maxLen; omega) (by omega) ?_; intro a5 c5 w5 h5 g5 p5)
        go_roundw
        case rel => exact ⟨i + 1, by omega, by go_num, a5, c5, rfl, by rw [HS.out]; exact h5, bo.grow g5 p5, bf.grow g5 p5⟩
        case measure => simp [intOf]; omega
      · have h0 : One w w.heap.size wr 37 2 a i c (pairsC ((F.take 0).foldl (stepP (f : Int)) O)) := by
          rw [List.take_of_length_le (by have := HON.out; omega)] at hone
          exact hone
        clear hone bo
        go_wp2
        go_loopw [9, 14] (fun o_ j_ wr => ∃ j : Nat, j ≤ fn ∧ j_ = .int .i64 j ∧ ∃ a n c, o_ = .slice a n c ∧ n ≤ on + j ∧ One w w.heap.size wr 37 2 a n c (pairsC ((F.take j).foldl (stepP (f : Int)) O)) ∧ Beside wr fa (pairsC F) (.slice a n c)) (fun _ j_ _ => fn - (intOf j_).toNat)
        case atStart => exact ⟨0, Nat.zero_le _, rfl, _, _, _, rfl, by omega, h0, bf⟩
        case round =>
          clear h0 bf
          obtain ⟨j, hj, rfl, a, n, c, rfl, hn, hone, bf⟩ := hrel
          by_cases hlj : j < fn
          · have hjF : j < F.length := by have := HFN.out; omega
            obtain ⟨fb, fo, rfl, hfb, hfc⟩ := bf.at_.pair (fun e => by rw [e] at hjF; simp at hjF)
            obtain ⟨p, hp⟩ : ∃ p, F[j].1 = p := ⟨_, rfl⟩
            obtain ⟨q, hq⟩ : ∃ q, F[j].2 = q := ⟨_, rfl⟩
            obtain ⟨k1, k2⟩ := hfc j hjF
            rw [hp] at k1
            rw [hq] at k2
            have nw := World.new_ne wr ⟨fb, fo + j * 2, none⟩ k1
            have nw2 := World.new_ne wr ⟨fb, fo + j * 2 + 1, none⟩ k2
            obtain ⟨T, hT⟩ : ∃ T, (F.take j).foldl (stepP (f : Int)) O = T := ⟨_, rfl⟩
            have hnx : (F.take (j + 1)).foldl (stepP (f : Int)) O = stepP (f : Int) T (p, q) := by rw [foldP_next _ _ _ _ hjF, hT, ← hp, ← hq]
            rw [hT] at hone
            have HNX := Lib.hid hnx
            have hb2 := HFb.out j hjF
            rw [hq] at hb2
            obtain ⟨hq0, hq9⟩ := hb2
            have eW : IntKind.i64.wrap ((q + (f : Int))) = (q + (f : Int)) := IntWalk.i64_in _ (by omega)
            have hlT := pairs_len hone.own
            have HLT := Lib.hid hlT
            clear hnx hT hp hq hfc hlT
            go_wp2
            go_region_held3 (fun w' => w'.cell? ⟨fb, fo + j * 2, none⟩ = some (.int .i64 p) ∧ w'.cell? ⟨fb, fo + j * 2 + 1, none⟩ = some (.int .i64 q)) (go_keep) (fail)
            have hone2 := (hone.alloc (.cells #[.int .i64 p, .int .i64 (q + (f : Int))] 37)).drew
            have bf2 : Beside (wr.alloc (.cells #[.int .i64 p, .int .i64 (q + (f : Int))] 37)).drew (some ⟨fb, fo, none⟩) (pairsC F) (.slice a n c) := (bf.later ((Below.refl _ _).alloc (Nat.le_refl _) _)).later (Below.refl _ _).drew
            have m0 : (wr.alloc (.cells #[.int .i64 p, .int .i64 (q + (f : Int))] 37)).drew.cell? ⟨wr.heap.size, 0, none⟩ = some (.int .i64 p) := cell_of_row _ wr.heap.size 0 _ _ (0, 0) (heap_alloc_new wr _)
            have m1 : (wr.alloc (.cells #[.int .i64 p, .int .i64 (q + (f : Int))] 37)).drew.cell? ⟨wr.heap.size, 1, none⟩ = some (.int .i64 (q + (f : Int))) := cell_of_row _ wr.heap.size 1 _ _ (0, 0) (heap_alloc_new wr _)
            obtain ⟨wm, HW⟩ : ∃ wm, Hid ((wr.alloc (.cells #[.int .i64 p, .int .i64 (q + (f : Int))] 37)).drew = wm) := ⟨_, Lib.hid rfl⟩
            rw [HW.out] at hone2 bf2 m0 m1 ⊢
            clear hone bf HW k1 k2 nw nw2
            by_cases hn0 : n = 0
            · subst hn0
              have hTn : T = [] := List.length_eq_zero_iff.1 HLT.out.symm
              have HS := Lib.hid (show pairsC ((F.take (j + 1)).foldl (stepP (f : Int)) O) = pairsC T ++ [.int .i64 p, .int .i64 (q + (f : Int))] by
                rw [HNX.out, stepP, if_pos (.inl hTn), pairsC_append]; simp [pairsC, pairC])
              clear hTn
              go_wp2
              go_quiet (fail)
              go_wp2_with (at_builtin; refine wpList_append_apart rfl (.tmp 89) (.tmp 91) 33 rfl Try.ulM4 Try.infoM4 rfl (by decide) (hone2.drewN _) rfl #[.int .i64 p, .int .i64 (q + (f : Int))] rfl rfl (by simp [Value.oneCell']) (by unfold maxLen; omega) (by omega) ?_; intro a5 c5 w5 h5 g5 p5)
              go_roundw
              case rel => exact ⟨j + 1, by omega, by go_num, a5, 1, c5, by first | rfl | simp, by omega, by rw [HS.out]; exact h5, (bf2.drewN _).grow g5 p5⟩
              case measure => simp [intOf]; omega
            · obtain ⟨m, rfl⟩ : ∃ m, n = m + 1 := ⟨n - 1, by omega⟩
              obtain ⟨g, rfl⟩ := hone2.addr (by omega)
              have hmT : m < T.length := by have := HLT.out; omega
              have hgl : T.getLastD (0, 0) = T[m] := by
                rw [List.getLastD_eq_getLast?, List.getLast?_eq_getElem?, show T.length - 1 = m from by have := HLT.out; omega, List.getElem?_eq_getElem hmT]; rfl
              have hTn : T ≠ [] := fun e => by rw [e] at hmT; simp at hmT
              have hpg := (pairs_get hmT).2
              obtain ⟨z, hz⟩ : ∃ z, T[m].2 = z := ⟨_, rfl⟩
              have hcell : wm.cell? ⟨g, m * 2 + 1, none⟩ = some (.int .i64 z) := by rw [hone2.own.cellAt (m * 2 + 1) (by omega), hpg, hz]
              have z0 : (0 : Int) ≤ m := by omega
              have z1 : (m : Int) < (m : Int) + 1 := by omega
              have e1 : IntKind.i64.wrap ((m : Int) + 1 - 1) = (m : Int) := by rw [IntWalk.i64_in _ (by omega)]; omega
              have e2 : IntKind.i64.wrap (m : Int) = (m : Int) := IntWalk.i64_in _ (by omega)
              have e3 : IntKind.i64.wrap (((m + 1 : Nat) : Int) - 1) = (m : Int) := by rw [IntWalk.i64_in _ (by omega)]; omega
              have z2 : (m : Int) < ((m + 1 : Nat) : Int) := by omega
              by_cases hzq : z < (q + (f : Int))
              · have HS := Lib.hid (show pairsC ((F.take (j + 1)).foldl (stepP (f : Int)) O) = pairsC T ++ [.int .i64 p, .int .i64 (q + (f : Int))] by
                  rw [HNX.out, stepP, if_pos (.inr (by rw [hgl, hz]; simpa using hzq)), pairsC_append]; simp [pairsC, pairC])
                clear hgl hTn hpg hz hmT
                go_wp2
                go_quiet (fail)
                go_wp2_with (at_builtin; refine wpList_append_apart rfl (.tmp 89) (.tmp 91) 33 rfl Try.ulM4 Try.infoM4 rfl (by decide) (hone2.drewN _) rfl #[.int .i64 p, .int .i64 (q + (f : Int))] rfl rfl (by simp [Value.oneCell']) (by unfold maxLen; omega) (by omega) ?_; intro a5 c5 w5 h5 g5 p5)
                go_roundw
                case rel => exact ⟨j + 1, by omega, by go_num, a5, m + 1 + 1, c5, by first | rfl | simp, by omega, by rw [HS.out]; exact h5, (bf2.drewN _).grow g5 p5⟩
                case measure => simp [intOf]; omega
              · have HS := Lib.hid (show pairsC ((F.take (j + 1)).foldl (stepP (f : Int)) O) = pairsC T by
                  rw [HNX.out, stepP, if_neg (by rw [hgl, hz]; simpa [hTn] using hzq)])
                have tz : decide (z < (q + (f : Int))) = false := decide_eq_false hzq
                clear hgl hTn hpg hz hmT
                go_wp2
                go_quiet (fail)
                go_wp2
                go_roundw
                case rel => exact ⟨j + 1, by omega, by go_num, _, m + 1, c, rfl, by omega, by rw [HS.out]; exact hone2.drewN _, bf2.drewN _⟩
                case measure => simp [intOf]; omega
          · have HO := Lib.hid (show One w w.heap.size wr 37 2 a n c (pairsC M) by
              rw [List.take_of_length_le (by have := HFN.out; omega), HA.out] at hone
              exact hone)
            clear hone bf
            go_wp2
            go_ret
            exact ⟨_, _, _, rfl, HO.out⟩

theorem specAfter_no (s t : ByteArray) (k v : Int) (w : World) (h : k < 1 ∨ v < 1 ∨ 1000000 < k ∨ 1000000 < v) :
    Calls Try.prog 33 #[.string s, .string t, .int .i64 k, .int .i64 v] w fun e w' => ∃ a n c, e = .returned (.slice a n c) ∧ One w w.heap.size w' 37 2 a n c (pairsC []) := by
  have c0 := fun w => specSure_no k v w h
  clear h
  go_enter Try.func33, Try.ntmps33
  go_wp2_with fail
  refine (c0 _).mono ?_
  rintro e w1 ⟨rfl, rfl⟩
  go_wp2
  go_ret
  exact ⟨_, _, _, rfl, One.empty _ _ _⟩

end Go.Proofs.Ytjebgoekcaogbaa
