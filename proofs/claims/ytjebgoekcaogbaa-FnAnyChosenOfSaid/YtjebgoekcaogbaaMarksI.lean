/-
  The contract of the program's function MarksAfter. Condition: texts have at most 2^21 bytes.
-/
import Derived.Test.YtjebgoekcaogbaaMarksJ
import Derived.Test.YtjebgoekcaogbaaAfter
namespace Go.Proofs.Ytjebgoekcaogbaa
open Go.RowKit

theorem wpList_append_apartH {P : Program} {W w0 : World} {ops : Array Oper} {rest : List Oper} {o : Oper} {act : Act} {Q : Exit → Act → World → Prop} {B : Nat} {e1 : TypeId} {s1 : Nat} {a1 : Option Addr} {n1 c1 : Nat} {xs1 : List Value} (H : Nat) (hH : w0.heap.size = H)
    (hgd : o.guard = none) (s x : Operand) (t : TypeId)
    (ho : o.op = .call { callee := .builtin .append, args := #[s, x], argTypes := #[t, t] })
    {z : Value} {bytes : Nat} (ht : P.underlying t = some (.slice e1)) (hinfo : (P.info? e1).map (fun i => (i.zero, i.size, i.bytes)) = some (some z, s1, bytes)) (hzs : z.cells.size = s1) (hsz : 0 < s1)
    (h2 : One W B w0 e1 s1 a1 n1 c1 xs1) (hs : act.eval s = .slice a1 n1 c1)
    (us : Array Value) (hx : act.eval x = .slice (some ⟨H, 0, none⟩) 1 1) (hl : us.size = s1) (h1 : ∀ u ∈ us.toList, u.oneCell' = true)
    (h63 : n1 + 1 ≤ maxLen) (hbytes : (n1 + 1) * bytes ≤ 140737488355328)
    (h : ∀ ad' cap' w', One W B w' e1 s1 ad' (n1 + 1) cap' (xs1 ++ us.toList) → w0.grownBy w' (Value.ownBlock (.slice a1 n1 c1)) → Spared w0 (.slice a1 n1 c1) (.slice ad' (n1 + 1) cap') → wpList P ops Q rest (act.put o.dst (.slice ad' (n1 + 1) cap')) w') :
    wpList P ops Q (o :: rest) act (w0.alloc (.cells us e1)) := by
  subst hH
  exact wpList_append_apart hgd s x t ho ht hinfo hzs hsz h2 hs us hx hl h1 h63 hbytes h

set_option maxHeartbeats 4000000 in
theorem implAfter_any (s t : ByteArray) (k v : Nat) (M : List (Int × Int)) (w : World) (hM : marksL (s.data.toList ++ t.data.toList) k v = M) (hs : s.size ≤ 2097152) (ht : t.size ≤ 2097152) (hk : 1 ≤ k) (hv : 1 ≤ v) (hk9 : k ≤ 1000000) (hv9 : v ≤ 1000000) :
    Calls Try.prog 32 #[.string s, .string t, .int .i64 k, .int .i64 v] w fun e w' => ∃ a n c, e = .returned (.slice a n c) ∧ One w w.heap.size w' 37 2 a n c (pairsC M) := by
  obtain ⟨f, hf⟩ : ∃ f, f = s.size + 1 - (k + v - 1) := ⟨_, rfl⟩
  obtain ⟨O, hO⟩ : ∃ O, marksL s.data.toList k v = O := ⟨_, rfl⟩
  have hfs : f ≤ s.size := by omega
  obtain ⟨ex, hex⟩ : ∃ ex, s.extract f s.size = ex := ⟨_, rfl⟩
  obtain ⟨y, hy⟩ : ∃ y, ex ++ t = y := ⟨_, rfl⟩
  have hexs : ex.size ≤ 2097152 := by rw [← hex, ByteArray.size_extract]; omega
  have hyl : y.data.toList = (s.data.toList ++ t.data.toList).drop f := by
    have h1 : y.data.toList = ex.data.toList ++ t.data.toList := by rw [← hy]; simp
    rw [h1, ← hex, drop_extract, List.drop_append_of_le_length (by exact hfs)]
  have hysz : y.size ≤ 4194304 := by rw [← hy, ByteArray.size_append, ← hex, ByteArray.size_extract]; omega
  obtain ⟨F, hF⟩ : ∃ F, marksL y.data.toList k v = F := ⟨_, rfl⟩
  have hall := marksL_afterQ s.data.toList t.data.toList k v f (by omega) (by omega) hf
  rw [← hyl, hF, hO, hM] at hall
  have hOl : O.length ≤ 4194304 := by
    rw [← hO, marksL, List.length_map]
    have h1 := chosenN_len (printsL s.data.toList k) v
    have h2 := printsN_room s.data.toList k
    have : s.data.toList.length = s.size := rfl
    unfold marksAt
    omega
  have hFl : F.length ≤ 4194304 := by
    rw [← hF, marksL, List.length_map]
    have h1 := chosenN_len (printsL y.data.toList k) v
    have h2 := printsN_room y.data.toList k
    have : y.data.toList.length = y.size := rfl
    unfold marksAt
    omega
  have HA := Lib.hid hall.1
  have c0 := fun w => implSure_yes k v w (by omega) (by omega) (by omega) (by omega)
  have c1 := fun w => implMarks_any s k v O w hO (by omega) (by omega)
  have c2 := fun w => implMarks_any y k v F w hF hysz (by omega)
  have HOl := Lib.hid hOl
  have HFl := Lib.hid hFl
  have f9 : (f : Int) ≤ 2097153 := by omega
  have tS : ((k : Int) + (v : Int) - 1 == 0) = false := by simp; omega
  have sl1 : ∀ w, (Instr.slice 9 (.string s) (some (.int .i64 f)) none none).run Try.prog w = .ok (.string ex) w := fun w => by
    have h := run_slice_string_l (P := Try.prog) w 9 s Try.ulsA .i64 (f : Int) (by omega) (by omega)
    rwa [Int.toNat_natCast, hex] at h
  have hmax : f = 0 ∧ (s.size : Int) < (k : Int) + (v : Int) - 1 ∨ (k : Int) + (v : Int) - 1 ≤ (s.size : Int) ∧ (s.size : Int) - ((k : Int) + (v : Int) - 1) + 1 = (f : Int) ∧ 0 < f := by omega
  have HFb := Lib.hid (show ∀ j (h : j < F.length), 0 ≤ F[j].2 ∧ F[j].2 ≤ 4194304 from fun j h => by
    have h1 := marksL_bounds y.data.toList k v F[j] (by rw [hF]; exact List.getElem_mem h)
    have : y.data.toList.length = y.size := rfl
    omega)
  clear hM hf hO hfs hex hyl hysz hF hall hOl hFl
  have HY := Lib.hid hy
  clear hy
  rcases hmax with ⟨rfl, hlow⟩ | ⟨hle, hfe, hfp⟩
  · rw [Int.natCast_zero] at sl1
    have HA := Lib.hid (show F.foldl (stepQ (0 : Int)) O = M from HA.out)
    go_enter Try.func32, Try.ntmps32
    go_wp2_with fail
    refine (c0 _).mono ?_
    rintro e w1 ⟨rfl, rfl⟩
    go_wp2_with fail
    refine (c1 _).mono ?_
    rintro e w2 ⟨oa, on, oc, rfl, h2⟩
    have HON := Lib.hid (pairs_len h2.own)
    have hon9 : on ≤ 4194304 := by have := HON.out; have := HOl.out; omega
    go_wp2_with fail
    rw [HY.out]
    refine (c2 _).mono ?_
    rintro e w3 ⟨fa, fn, fc, rfl, h3⟩
    have HFN := Lib.hid (pairs_len h3.own)
    have hfn9 : fn ≤ 4194304 := by have := HFN.out; have := HFl.out; omega
    have hone0 : One w w.heap.size w3 37 2 oa on oc (pairsC ((F.take 0).foldl (stepQ (0 : Int)) O)) := h2.later h3.below
    have bf0 : Beside w3 fa (pairsC F) (.slice oa on oc) := ⟨cellsAt_own h3.own, fun _ b o ha e => by
      subst ha
      have h := (h3.own.lt b (by simp [Value.ownBlock])).1
      have h4 := (h2.own.lt b e).2
      omega⟩
    clear h2 h3 c0 c1 c2 sl1
    go_wp2
    go_loopw [11, 42] (fun o_ j_ wr => ∃ j : Nat, j ≤ fn ∧ j_ = .int .i64 j ∧ ∃ a n c, o_ = .slice a n c ∧ n ≤ on + j ∧ One w w.heap.size wr 37 2 a n c (pairsC ((F.take j).foldl (stepQ (0 : Int)) O)) ∧ Beside wr fa (pairsC F) (.slice a n c)) (fun _ j_ _ => fn - (intOf j_).toNat)
    case atStart => exact ⟨0, Nat.zero_le _, rfl, _, _, _, rfl, by omega, hone0, bf0⟩
    case round =>
      clear hone0 bf0
      obtain ⟨j, hj, rfl, a, n, c, rfl, hn, hone, bf⟩ := hrel
      by_cases hlj : j < fn
      · have hjF : j < F.length := by have := HFN.out; omega
        obtain ⟨fb, fo, rfl, hfb, hfc⟩ := bf.at_.pair (fun e => by rw [e] at hjF; simp at hjF)
        obtain ⟨p, hp⟩ : ∃ p, F[j].1 = p := ⟨_, rfl⟩
        obtain ⟨q, hq⟩ : ∃ q, F[j].2 = q := ⟨_, rfl⟩
        obtain ⟨k1, k2⟩ := hfc j hjF
        rw [hp] at k1
        rw [hq] at k2
        obtain ⟨T, hT⟩ : ∃ T, (F.take j).foldl (stepQ (0 : Int)) O = T := ⟨_, rfl⟩
        have hnx : (F.take (j + 1)).foldl (stepQ (0 : Int)) O = stepQ (0 : Int) T (p, q) := by rw [foldQ_next _ _ _ _ hjF, hT, ← hp, ← hq]
        rw [hT] at hone
        have HNX := Lib.hid hnx
        have hb2 := HFb.out j hjF
        rw [hq] at hb2
        obtain ⟨hq0, hq9⟩ := hb2
        have hqE : q + (0 : Int) = q := by omega
        have hlT := pairs_len hone.own
        have HLT := Lib.hid hlT
        have HQE := Lib.hid hqE
        clear hnx hT hp hq hfc hlT hqE
        by_cases hn0 : n = 0
        · subst hn0
          have hTn : T = [] := List.length_eq_zero_iff.1 HLT.out.symm
          have HS := Lib.hid (show pairsC ((F.take (j + 1)).foldl (stepQ (0 : Int)) O) = pairsC T ++ [.int .i64 p, .int .i64 q] by
            rw [HNX.out, stepQ, if_pos (.inl hTn), pairsC_append, HQE.out]; simp [pairsC, pairC])
          clear hTn
          go_wp2_with (at_builtin; refine wpList_append_apartH (wr.heap.size + 1) (by simp) rfl (.tmp 64) (.tmp 69) 33 rfl Try.ulM4 Try.infoM4 rfl (by decide) (hone.alloc _) rfl #[.int .i64 p, .int .i64 q] rfl rfl (by simp [Value.oneCell']) (by unfold maxLen; omega) (by omega) ?_; intro a5 c5 w5 h5 g5 p5)
          go_roundw
          case rel => exact ⟨j + 1, by omega, by go_num, a5, 1, c5, by first | rfl | simp, by omega, by rw [HS.out]; exact h5, (bf.later ((Below.refl _ _).alloc (Nat.le_refl _) _)).grow g5 p5⟩
          case measure => simp [intOf]; omega
        · obtain ⟨m, rfl⟩ : ∃ m, n = m + 1 := ⟨n - 1, by omega⟩
          obtain ⟨g, rfl⟩ := hone.addr (by omega)
          have hmT : m < T.length := by have := HLT.out; omega
          have hgl : T.getLastD (0, 0) = T[m] := by
            rw [List.getLastD_eq_getLast?, List.getLast?_eq_getElem?, show T.length - 1 = m from by have := HLT.out; omega, List.getElem?_eq_getElem hmT]; rfl
          have hTn : T ≠ [] := fun e => by rw [e] at hmT; simp at hmT
          have hpg := (pairs_get hmT).2
          obtain ⟨z, hz⟩ : ∃ z, T[m].2 = z := ⟨_, rfl⟩
          have hcell : wr.cell? ⟨g, m * 2 + 1, none⟩ = some (.int .i64 z) := by rw [hone.own.cellAt (m * 2 + 1) (by omega), hpg, hz]
          have hg9 : g < wr.heap.size := (hone.own.lt g rfl).2
          have hcell2 : (wr.alloc (.cells #[.int .i64 p, .int .i64 q] 37)).cell? ⟨g, m * 2 + 1, none⟩ = some (.int .i64 z) := (((Below.refl wr.heap.size wr).alloc (Nat.le_refl _) _).cell (p := ⟨g, m * 2 + 1, none⟩) hg9).trans hcell
          have z0 : (0 : Int) ≤ m := by omega
          have z1 : (m : Int) < (m : Int) + 1 := by omega
          by_cases hzq : z = q
          · have HS := Lib.hid (show pairsC ((F.take (j + 1)).foldl (stepQ (0 : Int)) O) = pairsC T by
              rw [HNX.out, stepQ, if_neg (by rw [hgl, hz, HQE.out]; simpa [hTn] using hzq)])
            have t1 : (z == q) = true := by rw [hzq]; exact beq_self_eq_true _
            have t2 : (z != q) = false := by rw [bne, t1]; rfl
            clear hgl hTn hpg hz hmT hzq
            go_wp2
            go_roundw
            case rel => exact ⟨j + 1, by omega, by go_num, _, m + 1, c, rfl, by omega, by rw [HS.out]; exact hone.alloc _, bf.later ((Below.refl _ _).alloc (Nat.le_refl _) _)⟩
            case measure => simp [intOf]; omega
          · have HS := Lib.hid (show pairsC ((F.take (j + 1)).foldl (stepQ (0 : Int)) O) = pairsC T ++ [.int .i64 p, .int .i64 q] by
              rw [HNX.out, stepQ, if_pos (.inr (by rw [hgl, hz, HQE.out]; simpa using hzq)), pairsC_append, HQE.out]; simp [pairsC, pairC])
            have t1 : (z == q) = false := by simpa using hzq
            have t2 : (z != q) = true := by rw [bne, t1]; rfl
            clear hgl hTn hpg hz hmT hzq
            go_wp2_with (at_builtin; refine wpList_append_apartH (wr.heap.size + 1) (by simp) rfl (.tmp 64) (.tmp 69) 33 rfl Try.ulM4 Try.infoM4 rfl (by decide) (hone.alloc _) rfl #[.int .i64 p, .int .i64 q] rfl rfl (by simp [Value.oneCell']) (by unfold maxLen; omega) (by omega) ?_; intro a5 c5 w5 h5 g5 p5)
            go_roundw
            case rel => exact ⟨j + 1, by omega, by go_num, a5, m + 1 + 1, c5, by first | rfl | simp, by omega, by rw [HS.out]; exact h5, (bf.later ((Below.refl _ _).alloc (Nat.le_refl _) _)).grow g5 p5⟩
            case measure => simp [intOf]; omega
      · have HO := Lib.hid (show One w w.heap.size wr 37 2 a n c (pairsC M) by
          rw [List.take_of_length_le (by have := HFN.out; omega), HA.out] at hone
          exact hone)
        clear hone bf
        go_wp2
        go_ret
        exact ⟨_, _, _, rfl, HO.out⟩
  · have hfp2 : (0 : Int) < (f : Int) := by omega
    go_enter Try.func32, Try.ntmps32
    go_wp2_with fail
    refine (c0 _).mono ?_
    rintro e w1 ⟨rfl, rfl⟩
    go_wp2_with fail
    refine (c1 _).mono ?_
    rintro e w2 ⟨oa, on, oc, rfl, h2⟩
    have HON := Lib.hid (pairs_len h2.own)
    have hon9 : on ≤ 4194304 := by have := HON.out; have := HOl.out; omega
    go_wp2_with fail
    rw [HY.out]
    refine (c2 _).mono ?_
    rintro e w3 ⟨fa, fn, fc, rfl, h3⟩
    have HFN := Lib.hid (pairs_len h3.own)
    have hfn9 : fn ≤ 4194304 := by have := HFN.out; have := HFl.out; omega
    have hone0 : One w w.heap.size w3 37 2 oa on oc (pairsC ((F.take 0).foldl (stepQ (f : Int)) O)) := h2.later h3.below
    have bf0 : Beside w3 fa (pairsC F) (.slice oa on oc) := ⟨cellsAt_own h3.own, fun _ b o ha e => by
      subst ha
      have h := (h3.own.lt b (by simp [Value.ownBlock])).1
      have h4 := (h2.own.lt b e).2
      omega⟩
    clear h2 h3 c0 c1 c2 sl1
    go_wp2
    go_loopw [11, 42] (fun o_ j_ wr => ∃ j : Nat, j ≤ fn ∧ j_ = .int .i64 j ∧ ∃ a n c, o_ = .slice a n c ∧ n ≤ on + j ∧ One w w.heap.size wr 37 2 a n c (pairsC ((F.take j).foldl (stepQ (f : Int)) O)) ∧ Beside wr fa (pairsC F) (.slice a n c)) (fun _ j_ _ => fn - (intOf j_).toNat)
    case atStart => exact ⟨0, Nat.zero_le _, rfl, _, _, _, rfl, by omega, hone0, bf0⟩
    case round =>
      clear hone0 bf0
      obtain ⟨j, hj, rfl, a, n, c, rfl, hn, hone, bf⟩ := hrel
      by_cases hlj : j < fn
      · have hjF : j < F.length := by have := HFN.out; omega
        obtain ⟨fb, fo, rfl, hfb, hfc⟩ := bf.at_.pair (fun e => by rw [e] at hjF; simp at hjF)
        obtain ⟨p, hp⟩ : ∃ p, F[j].1 = p := ⟨_, rfl⟩
        obtain ⟨q, hq⟩ : ∃ q, F[j].2 = q := ⟨_, rfl⟩
        obtain ⟨k1, k2⟩ := hfc j hjF
        rw [hp] at k1
        rw [hq] at k2
        obtain ⟨T, hT⟩ : ∃ T, (F.take j).foldl (stepQ (f : Int)) O = T := ⟨_, rfl⟩
        have hnx : (F.take (j + 1)).foldl (stepQ (f : Int)) O = stepQ (f : Int) T (p, q) := by rw [foldQ_next _ _ _ _ hjF, hT, ← hp, ← hq]
        rw [hT] at hone
        have HNX := Lib.hid hnx
        have hb2 := HFb.out j hjF
        rw [hq] at hb2
        obtain ⟨hq0, hq9⟩ := hb2
        have hqE : q + (f : Int) = ((f : Int) + q) := by omega
        have hlT := pairs_len hone.own
        have HLT := Lib.hid hlT
        have HQE := Lib.hid hqE
        clear hnx hT hp hq hfc hlT hqE
        by_cases hn0 : n = 0
        · subst hn0
          have hTn : T = [] := List.length_eq_zero_iff.1 HLT.out.symm
          have HS := Lib.hid (show pairsC ((F.take (j + 1)).foldl (stepQ (f : Int)) O) = pairsC T ++ [.int .i64 p, .int .i64 ((f : Int) + q)] by
            rw [HNX.out, stepQ, if_pos (.inl hTn), pairsC_append, HQE.out]; simp [pairsC, pairC])
          clear hTn
          go_wp2_with (at_builtin; refine wpList_append_apartH (wr.heap.size + 1) (by simp) rfl (.tmp 64) (.tmp 69) 33 rfl Try.ulM4 Try.infoM4 rfl (by decide) (hone.alloc _) rfl #[.int .i64 p, .int .i64 ((f : Int) + q)] rfl rfl (by simp [Value.oneCell']) (by unfold maxLen; omega) (by omega) ?_; intro a5 c5 w5 h5 g5 p5)
          go_roundw
          case rel => exact ⟨j + 1, by omega, by go_num, a5, 1, c5, by first | rfl | simp, by omega, by rw [HS.out]; exact h5, (bf.later ((Below.refl _ _).alloc (Nat.le_refl _) _)).grow g5 p5⟩
          case measure => simp [intOf]; omega
        · obtain ⟨m, rfl⟩ : ∃ m, n = m + 1 := ⟨n - 1, by omega⟩
          obtain ⟨g, rfl⟩ := hone.addr (by omega)
          have hmT : m < T.length := by have := HLT.out; omega
          have hgl : T.getLastD (0, 0) = T[m] := by
            rw [List.getLastD_eq_getLast?, List.getLast?_eq_getElem?, show T.length - 1 = m from by have := HLT.out; omega, List.getElem?_eq_getElem hmT]; rfl
          have hTn : T ≠ [] := fun e => by rw [e] at hmT; simp at hmT
          have hpg := (pairs_get hmT).2
          obtain ⟨z, hz⟩ : ∃ z, T[m].2 = z := ⟨_, rfl⟩
          have hcell : wr.cell? ⟨g, m * 2 + 1, none⟩ = some (.int .i64 z) := by rw [hone.own.cellAt (m * 2 + 1) (by omega), hpg, hz]
          have hg9 : g < wr.heap.size := (hone.own.lt g rfl).2
          have hcell2 : (wr.alloc (.cells #[.int .i64 p, .int .i64 q] 37)).cell? ⟨g, m * 2 + 1, none⟩ = some (.int .i64 z) := (((Below.refl wr.heap.size wr).alloc (Nat.le_refl _) _).cell (p := ⟨g, m * 2 + 1, none⟩) hg9).trans hcell
          have z0 : (0 : Int) ≤ m := by omega
          have z1 : (m : Int) < (m : Int) + 1 := by omega
          by_cases hzq : z = ((f : Int) + q)
          · have HS := Lib.hid (show pairsC ((F.take (j + 1)).foldl (stepQ (f : Int)) O) = pairsC T by
              rw [HNX.out, stepQ, if_neg (by rw [hgl, hz, HQE.out]; simpa [hTn] using hzq)])
            have t1 : (z == ((f : Int) + q)) = true := by rw [hzq]; exact beq_self_eq_true _
            have t2 : (z != ((f : Int) + q)) = false := by rw [bne, t1]; rfl
            clear hgl hTn hpg hz hmT hzq
            go_wp2
            go_roundw
            case rel => exact ⟨j + 1, by omega, by go_num, _, m + 1, c, rfl, by omega, by rw [HS.out]; exact hone.alloc _, bf.later ((Below.refl _ _).alloc (Nat.le_refl _) _)⟩
            case measure => simp [intOf]; omega
          · have HS := Lib.hid (show pairsC ((F.take (j + 1)).foldl (stepQ (f : Int)) O) = pairsC T ++ [.int .i64 p, .int .i64 ((f : Int) + q)] by
              rw [HNX.out, stepQ, if_pos (.inr (by rw [hgl, hz, HQE.out]; simpa using hzq)), pairsC_append, HQE.out]; simp [pairsC, pairC])
            have t1 : (z == ((f : Int) + q)) = false := by simpa using hzq
            have t2 : (z != ((f : Int) + q)) = true := by rw [bne, t1]; rfl
            clear hgl hTn hpg hz hmT hzq
            go_wp2_with (at_builtin; refine wpList_append_apartH (wr.heap.size + 1) (by simp) rfl (.tmp 64) (.tmp 69) 33 rfl Try.ulM4 Try.infoM4 rfl (by decide) (hone.alloc _) rfl #[.int .i64 p, .int .i64 ((f : Int) + q)] rfl rfl (by simp [Value.oneCell']) (by unfold maxLen; omega) (by omega) ?_; intro a5 c5 w5 h5 g5 p5)
            go_roundw
            case rel => exact ⟨j + 1, by omega, by go_num, a5, m + 1 + 1, c5, by first | rfl | simp, by omega, by rw [HS.out]; exact h5, (bf.later ((Below.refl _ _).alloc (Nat.le_refl _) _)).grow g5 p5⟩
            case measure => simp [intOf]; omega
      · have HO := Lib.hid (show One w w.heap.size wr 37 2 a n c (pairsC M) by
          rw [List.take_of_length_le (by have := HFN.out; omega), HA.out] at hone
          exact hone)
        clear hone bf
        go_wp2
        go_ret
        exact ⟨_, _, _, rfl, HO.out⟩

theorem implAfter_no (s t : ByteArray) (k v : Int) (w : World) (h : k < 1 ∨ v < 1 ∨ 1000000 < k ∨ 1000000 < v) :
    Calls Try.prog 32 #[.string s, .string t, .int .i64 k, .int .i64 v] w fun e w' => ∃ a n c, e = .returned (.slice a n c) ∧ One w w.heap.size w' 37 2 a n c (pairsC []) := by
  have c0 := fun w => implSure_no k v w h
  clear h
  go_enter Try.func32, Try.ntmps32
  go_wp2_with fail
  refine (c0 _).mono ?_
  rintro e w1 ⟨rfl, rfl⟩
  go_wp2
  go_ret
  exact ⟨_, _, _, rfl, One.nil _ _ _⟩

end Go.Proofs.Ytjebgoekcaogbaa
