/-
  The contracts of the model's functions ShelfOfAll and AskAll. Conditions: texts have at most 2^20 bytes together. (Written by wip/tools/ch8_shelf.py.)
  The contracts of the program's functions withFound and AskAll. Conditions: texts have at most 2^20 bytes together.
-/
import Derived.Test.YtclblnkeakkdeaaMg22
import Derived.Test.YtclblnkeakkdeaaMg24
import Derived.Test.YtclblnkeakkdeaaMg27
import Derived.Test.YtclblnkeakkdeaaMg28
import Derived.Test.YtclblnkeakkdeaaMg29
namespace Go.Proofs.Ytclblnkeakkdeaa
open Go.RowKit

theorem docAt_get {D : List ByteArray} {i : Nat} (h : i < D.length) : docAt D i = D[i] := by simp [docAt, h]
theorem allTo_len (D : List ByteArray) (k w : Int) (m : Nat) (hm : m ≤ D.length) : (allTo D k w m).length ≤ totalS (D.take m) := by
  induction m with
  | zero => exact Nat.zero_le _
  | succ m ih =>
    rw [allTo_next, List.length_append, entsOf, List.length_map, totalS_take D m (by omega), docAt_get (by omega)]
    have h1 := mkL_len D[m] k w
    have h2 := ih (by omega)
    omega
theorem allN_room {D : List ByteArray} (k w : Int) {m : Nat} (hm : m ≤ D.length) (hT : totalS D ≤ 1048576) : (allN D k w m).length ≤ 1048576 := by
  rw [allN_len]
  have h1 := allTo_len D k w m hm
  have h2 := totalS_take_le D m
  omega
/-- Rows of what is found, text by text, and of the text at hand the first ones. -/
theorem byDocs_step {F : Nat → List En} {i k : Nat} (hk : k < (F i).length) : ((F i).take (k + 1)).map (fun p => ((i : Int), p)) = ((F i).take k).map (fun p => ((i : Int), p)) ++ [((i : Int), (F i)[k])] := by
  rw [List.take_succ_eq_append_getElem hk, List.map_append]; rfl
theorem byDocs_len (F : Nat → List En) (G : Nat → Nat) (h : ∀ i, (F i).length ≤ G i) (m : Nat) : (byDocs F m).length ≤ ((List.range m).map G).sum := by
  induction m with
  | zero => exact Nat.zero_le _
  | succ m ih =>
    rw [byDocs_next, List.length_append, List.length_map, List.range_succ, List.map_append, List.sum_append]
    have := h m
    simp only [List.map_cons, List.map_nil, List.sum_cons, List.sum_nil]
    omega
theorem piecesT_len (s t : ByteArray) (n : Int) : (piecesT s t n).length ≤ s.size * t.size := by
  unfold piecesT
  split
  · exact Nat.zero_le _
  · exact piecesN_len s t n.toNat s.size
theorem askAll_room {D : List ByteArray} {s : ByteArray} (n : Int) (hT : totalS D ≤ 1048576) (hs : s.size ≤ 1048576) {m : Nat} (hm : m ≤ D.length) : (byDocs (fun i => piecesT (docAt D i) s n) m).length ≤ 1099511627776 := by
  have key : (byDocs (fun i => piecesT (docAt D i) s n) m).length ≤ totalS (D.take m) * s.size := by
    induction m with
    | zero => exact Nat.zero_le _
    | succ m ih =>
      have h1 := ih (by omega)
      have h2 := piecesT_len (docAt D m) s n
      rw [docAt_get (by omega)] at h2
      rw [byDocs_next, List.length_append, List.length_map, totalS_take D m (by omega), Nat.add_mul, docAt_get (by omega)]
      omega
  have h2 := totalS_take_le D m
  have h3 : totalS (D.take m) * s.size ≤ 1048576 * 1048576 := Nat.mul_le_mul (by omega) hs
  omega

set_option maxHeartbeats 8000000 in
theorem specAll_any (D : List ByteArray) (a : Option Addr) (n c : Nat) (k v : Int) (R : List En) (w : World) (hR : allN D k v D.length = R) (hn : n = D.length) (hn9 : n ≤ 1048576) (hT : totalS D ≤ 1048576) (hv9 : v ≤ 9223372036854775807) (hat : CellsAt w a (strsC D)) :
    Calls Try.prog 51 #[.slice a n c, .int .i64 k, .int .i64 v] w fun e w' => ∃ a' n' c', e = .returned (.slice a' n' c') ∧ One w w.heap.size w' 31 3 a' n' c' (entsC R) := by
  subst hR
  have HN := Lib.hid hn
  have HAT := Lib.hid hat
  clear hn hat
  go_enter Try.func51, Try.ntmps51
  go_wp2
  go_loopw [7, 8] (fun u i_ wr => ∃ (i m d : Nat) (a' : Option Addr), i ≤ n ∧ i_ = .int .i64 (i : Int) ∧ u = .slice a' m d ∧ Hid (One w w.heap.size wr 31 3 a' m d (entsC (allN D k v i)))) (fun _ i_ _ => n - (intOf i_).toNat)
  case atStart => exact ⟨0, _, _, _, Nat.zero_le _, rfl, rfl, Lib.hid (One.empty w 31 3)⟩
  case round =>
    obtain ⟨i, m, d, a', hi, rfl, rfl, HO⟩ := hrel
    by_cases hlt : i < n
    · have hil : i < D.length := by have := HN.out; omega
      obtain ⟨b, o, rfl, hb9, hc⟩ := (HAT.out.below HO.out.below).str (fun e => by rw [e] at hil; simp at hil)
      obtain ⟨s, hs⟩ : ∃ s, D[i] = s := ⟨_, rfl⟩
      have e1 := hc i hil
      rw [hs] at e1
      have hsz : s.size ≤ 1048576 := by have h1 := totalS_get D i hil; rw [hs] at h1; omega
      have z1 : (i : Int) < (n : Int) := by omega
      have z0 : (0 : Int) ≤ (i : Int) := by omega
      obtain ⟨M, hM⟩ : ∃ M, mkL s k v = M := ⟨_, rfl⟩
      have hMl : M.length ≤ 1048576 := by rw [← hM]; exact Nat.le_trans (mkL_len s k v) hsz
      have c1 := fun w => specShelfOf_any (i : Int) s k v M w hM (by omega) hv9
      have hm1 := allN_room (D := D) k v (m := i) (by omega) hT
      have hml := ents_len HO.out.own
      have hnext : joinL5 (allN D k v i) (shelfL (i : Int) M) = allN D k v (i + 1) := by
        rw [allN_next, docAt_get hil, hs, hM, shelfL, if_neg (by omega)]
        exact joinL5_ok (allN_shelf D k v i) (by have h := ents_shelf i s k v; rw [hM] at h; exact h)
      have hEl : (shelfL (i : Int) M).length ≤ 1048576 := by
        rw [shelfL, if_neg (by omega)]
        have h := rowE_len (M.map fun m => (m.1, (i : Int), m.2))
        rw [List.length_map] at h
        omega
      have HNEXT := Lib.hid hnext
      have HML := Lib.hid hml
      have HM1 := Lib.hid hm1
      have HEL := Lib.hid hEl
      clear hnext hml hm1 hEl hM hs hc
      go_wp2_with fail
      refine (c1 _).mono ?_
      rintro e w2 ⟨g2, n2, d2, rfl, o2⟩
      have hon := HO.out.later o2.below
      have hl2 := ents_len o2.own
      have c2 := specJoin5_any (allN D k v i) (shelfL (i : Int) M) a' (some ⟨g2, 0, none⟩) m d n2 d2 w2 HML.out hl2 (by have := HML.out; have := HM1.out; omega) (by have := HEL.out; omega) hon.at_ o2.at_
      have HON := Lib.hid hon
      clear hl2 o2 c1 hon
      go_wp2_with fail
      refine c2.mono ?_
      rintro e w3 ⟨a3, n3, d3, rfl, o3⟩
      have o3 := o3.under HON.out.below HON.out.base
      rw [HNEXT.out] at o3
      have HO3 := Lib.hid o3
      clear o3 c2
      go_wp2
      go_roundw
      case rel => exact ⟨i + 1, n3, d3, a3, by omega, by go_num, rfl, HO3⟩
      case measure => simp [intOf]; omega
    · have z1 : ¬ (i : Int) < (n : Int) := by omega
      have hin : i = D.length := by have := HN.out; omega
      have HE := Lib.hid hin
      clear hin
      go_wp2
      go_ret
      exact ⟨_, _, _, rfl, by have h := HO.out; rw [HE.out] at h; exact h⟩

set_option maxHeartbeats 8000000 in
theorem specAskAll_any (D : List ByteArray) (s : ByteArray) (n : Int) (a : Option Addr) (nD c : Nat) (R : List Fd) (w : World) (hR : askAllL D s n = R) (hn : nD = D.length) (hn9 : nD ≤ 1048576) (hT : totalS D ≤ 1048576) (hs : s.size ≤ 1048576) (hat : CellsAt w a (strsC D)) :
    Calls Try.prog 61 #[.slice a nD c, .string s, .int .i64 n] w fun e w' => ∃ a' n' c', e = .returned (.slice a' n' c') ∧ One w w.heap.size w' 79 4 a' n' c' (fdsC R) := by
  subst hR
  have HN := Lib.hid hn
  have HAT := Lib.hid hat
  clear hn hat
  go_enter Try.func61, Try.ntmps61
  go_wp2
  go_loopw [7, 8] (fun u i_ wr => ∃ (i m d : Nat) (a' : Option Addr), i ≤ nD ∧ i_ = .int .i64 (i : Int) ∧ u = .slice a' m d ∧ Hid (One w w.heap.size wr 79 4 a' m d (fdsC (byDocs (fun i => piecesT (docAt D i) s n) i)))) (fun _ i_ _ => nD - (intOf i_).toNat)
  case atStart => exact ⟨0, _, _, _, Nat.zero_le _, rfl, rfl, Lib.hid (One.empty w 79 4)⟩
  case round =>
    obtain ⟨i, m, d, a', hi, rfl, rfl, HO⟩ := hrel
    by_cases hlt : i < nD
    · have hil : i < D.length := by have := HN.out; omega
      obtain ⟨b, o, rfl, hb9, hc⟩ := (HAT.out.below HO.out.below).str (fun e => by rw [e] at hil; simp at hil)
      obtain ⟨t, ht⟩ : ∃ s, D[i] = s := ⟨_, rfl⟩
      have e1 := hc i hil
      rw [ht] at e1
      have hsz : t.size ≤ 1048576 := by have h1 := totalS_get D i hil; rw [ht] at h1; omega
      have z1 : (i : Int) < (nD : Int) := by omega
      have z0 : (0 : Int) ≤ (i : Int) := by omega
      obtain ⟨L, hL⟩ : ∃ L, piecesT t s n = L := ⟨_, rfl⟩
      have c1 := fun w => specPieces_any t s n L w hL hsz hs
      have HF := Lib.hid (show (fun i => piecesT (docAt D i) s n) i = L by simp only [docAt_get hil, ht, hL])
      have HRM := Lib.hid (askAll_room (D := D) (s := s) n hT hs (m := i + 1) (by omega))
      clear hc ht hL
      go_wp2_with fail
      refine (c1 _).mono ?_
      rintro e w2 ⟨g2, n2, d2, rfl, o2⟩
      have HL2 := Lib.hid (ents_len7 o2.own)
      have HA2 := Lib.hid (show Beside w2 (some ⟨g2, 0, none⟩) (entsC L) (.slice a' m d) from ⟨o2.at_, fun _ b o hb hk => by
        simp only [Option.some.injEq, Addr.mk.injEq] at hb
        have h1 := HO.out.block_lt b hk
        have h2 := (o2.own.lt g2 (by simp [Value.ownBlock])).1
        omega⟩)
      have HO2 := Lib.hid (HO.out.later o2.below)
      have hn2 : n2 ≤ 1099511627776 := by
        have h1 := HRM.out
        rw [byDocs_next, List.length_append, List.length_map, HF.out] at h1
        have := HL2.out
        omega
      clear o2 c1
      go_wp2
      go_loopw [7, 10] (fun u k_ wr => ∃ (k m d : Nat) (a' : Option Addr), k ≤ n2 ∧ k_ = .int .i64 (k : Int) ∧ u = .slice a' m d ∧ Hid (One w w.heap.size wr 79 4 a' m d (fdsC (byDocs (fun i => piecesT (docAt D i) s n) i ++ (L.take k).map fun p => ((i : Int), p)))) ∧ Hid (Beside wr (some ⟨g2, 0, none⟩) (entsC L) (.slice a' m d))) (fun _ k_ _ => n2 - (intOf k_).toNat)
      case atStart => exact ⟨0, m, d, a', Nat.zero_le _, rfl, rfl, Lib.hid (by rw [List.take_zero, List.map_nil, List.append_nil]; exact HO2.out), HA2⟩
      case round =>
        clear HO2 HA2
        obtain ⟨k, m, d, a', hk, rfl, rfl, HO, HB⟩ := hrel
        by_cases hlk : k < n2
        · have hkl : k < L.length := by have := HL2.out; omega
          obtain ⟨x, hx⟩ : ∃ x, L[k].1 = x := ⟨_, rfl⟩
          obtain ⟨y, hy⟩ : ∃ x, L[k].2.1 = x := ⟨_, rfl⟩
          obtain ⟨z, hz⟩ : ∃ x, L[k].2.2 = x := ⟨_, rfl⟩
          have hm : L[k] = (x, y, z) := by rw [← hx, ← hy, ← hz]
          obtain ⟨b2, o2, hbo, hb92, q1, q2, q3⟩ := ent_cells HB.out.at_ hkl hm
          simp only [Option.some.injEq, Addr.mk.injEq, and_true] at hbo
          obtain ⟨rfl, rfl⟩ := hbo
          rw [Nat.zero_add] at q1 q2 q3
          have u1 : (k : Int) < (n2 : Int) := by omega
          have u0 : (0 : Int) ≤ (k : Int) := by omega
          have HNX := Lib.hid (show fdsC (byDocs (fun i => piecesT (docAt D i) s n) i ++ (L.take (k + 1)).map fun p => ((i : Int), p)) = fdsC (byDocs (fun i => piecesT (docAt D i) s n) i ++ (L.take k).map fun p => ((i : Int), p)) ++ [.int .i64 (i : Int), .int .i64 x, .int .i64 y, .int .i64 z] by
            rw [List.take_succ_eq_append_getElem hkl, List.map_append, hm, ← List.append_assoc]
            exact fdsC_snoc _ ((i : Int), x, y, z))
          have hm9 : m ≤ 1099511627776 := by
            have h1 := fds_len HO.out.own
            have h2 := HRM.out
            rw [byDocs_next, List.length_append, List.length_map, HF.out] at h2
            rw [List.length_append, List.length_map, List.length_take] at h1
            omega
          clear hx hy hz hm
          go_wp2_with (at_builtin; refine wpList_append_apart rfl (.tmp 31) (.tmp 38) 75 rfl Try.ulF8 Try.infoF8 rfl (by decide) HO.out rfl #[.int .i64 (i : Int), .int .i64 x, .int .i64 y, .int .i64 z] rfl rfl (by simp [Value.oneCell']) (by unfold maxLen; omega) (by omega) ?_; intro a6 c6 w6 o6 g6 s6)
          have HB6 := Lib.hid (HB.out.grow g6 s6)
          clear g6 s6
          go_roundw
          case rel => exact ⟨k + 1, m + 1, c6, a6, by omega, by go_num, rfl, Lib.hid (by rw [HNX.out]; exact o6), HB6⟩
          case measure => simp [intOf]; omega
        · have u1 : ¬ (k : Int) < (n2 : Int) := by omega
          have HO3 := Lib.hid (show One w w.heap.size wr 79 4 a' m d (fdsC (byDocs (fun i => piecesT (docAt D i) s n) (i + 1))) by
            have h := HO.out
            rw [List.take_of_length_le (by have := HL2.out; omega)] at h
            rw [byDocs_next, HF.out]
            exact h)
          clear HO HB
          go_wp2
          go_roundw
          case rel => exact ⟨i + 1, m, d, a', by omega, by go_num, rfl, HO3⟩
          case measure => simp [intOf]; omega
    · have z1 : ¬ (i : Int) < (nD : Int) := by omega
      have hin : i = D.length := by have := HN.out; omega
      have HE := Lib.hid hin
      clear hin
      go_wp2
      go_ret
      exact ⟨_, _, _, rfl, by have h := HO.out; rw [HE.out] at h; exact h⟩

end Go.Proofs.Ytclblnkeakkdeaa

namespace Go.Proofs.Ytclblnkeakkdeaa
open Go.RowKit

set_option maxHeartbeats 8000000 in
theorem implWithF_any (W : World) (B : Nat) (L : List Fd) (P : List En) (d : Int) (a : Option Addr) (n c : Nat) (b : Option Addr) (m f : Nat) (w : World) (hO : One W B w 79 4 a n c (fdsC L)) (hm : m = P.length) (hB : Beside w b (entsC P) (.slice a n c)) (h9 : n + m ≤ 1099511627776) :
    Calls Try.prog 97 #[.slice a n c, .int .i64 d, .slice b m f] w fun e w' => ∃ a' n' c', e = .returned (.slice a' n' c') ∧ One W B w' 79 4 a' n' c' (fdsC (L ++ P.map fun p => (d, p))) := by
  have HM := Lib.hid hm
  have HO := Lib.hid hO
  have HB := Lib.hid hB
  have HNL := Lib.hid (fds_len hO.own)
  clear hm hO hB
  go_enter Try.func97, Try.ntmps97
  go_wp2
  go_loopw [0, 11] (fun u k_ wr => ∃ (k m' c' : Nat) (a' : Option Addr), k ≤ m ∧ k_ = .int .i64 (k : Int) ∧ u = .slice a' m' c' ∧ Hid (One W B wr 79 4 a' m' c' (fdsC (L ++ (P.take k).map fun p => (d, p)))) ∧ Hid (Beside wr b (entsC P) (.slice a' m' c'))) (fun _ k_ _ => m - (intOf k_).toNat)
  case atStart => exact ⟨0, n, c, a, Nat.zero_le _, rfl, rfl, Lib.hid (by rw [List.take_zero, List.map_nil, List.append_nil]; exact HO.out), HB⟩
  case round =>
    clear HO HB
    obtain ⟨k, m', c', a', hk, rfl, rfl, HO, HB⟩ := hrel
    by_cases hlk : k < m
    · have hkl : k < P.length := by have := HM.out; omega
      obtain ⟨x, hx⟩ : ∃ x, P[k].1 = x := ⟨_, rfl⟩
      obtain ⟨y, hy⟩ : ∃ x, P[k].2.1 = x := ⟨_, rfl⟩
      obtain ⟨z, hz⟩ : ∃ x, P[k].2.2 = x := ⟨_, rfl⟩
      have hmm : P[k] = (x, y, z) := by rw [← hx, ← hy, ← hz]
      obtain ⟨b2, o2, rfl, hb92, q1, q2, q3⟩ := ent_cells HB.out.at_ hkl hmm
      have u1 : (k : Int) < (m : Int) := by omega
      have u0 : (0 : Int) ≤ (k : Int) := by omega
      have HNX := Lib.hid (show fdsC (L ++ (P.take (k + 1)).map fun p => (d, p)) = fdsC (L ++ (P.take k).map fun p => (d, p)) ++ [.int .i64 d, .int .i64 x, .int .i64 y, .int .i64 z] by
        rw [List.take_succ_eq_append_getElem hkl, List.map_append, hmm, ← List.append_assoc]
        exact fdsC_snoc _ (d, x, y, z))
      have hm9 : m' + 1 ≤ 1099511627777 := by
        have h1 := fds_len HO.out.own
        rw [List.length_append, List.length_map, List.length_take] at h1
        have := HNL.out
        omega
      have ha := (Below.refl wr.heap.size wr).alloc (Nat.le_refl _) (.cells #[.int .i64 x, .int .i64 y, .int .i64 z] 61)
      have HO5 := Lib.hid (HO.out.later ha)
      have HB5 := Lib.hid (show Beside (wr.alloc (.cells #[.int .i64 x, .int .i64 y, .int .i64 z] 61)) (some ⟨b2, o2, none⟩) (entsC P) (.slice a' m' c') from ⟨HB.out.at_.below ha, HB.out.apart⟩)
      have hsz : (wr.alloc (.cells #[.int .i64 x, .int .i64 y, .int .i64 z] 61)).heap.size = wr.heap.size + 1 := by simp
      clear hx hy hz hmm ha HO HB
      go_wp2_with (at_builtin; refine wpList_append_apart rfl (.tmp 15) (.tmp 19) 75 rfl Try.ulF8 Try.infoF8 rfl (by decide) HO5.out rfl #[.int .i64 d, .int .i64 x, .int .i64 y, .int .i64 z] (by first | rfl | (rw [hsz]; rfl)) rfl (by simp [Value.oneCell']) (by unfold maxLen; omega) (by omega) ?_; intro a6 c6 w6 o6 g6 s6)
      have HB6 := Lib.hid (HB5.out.grow g6 s6)
      clear g6 s6
      go_roundw
      case rel => exact ⟨k + 1, m' + 1, c6, a6, by omega, by go_num, rfl, Lib.hid (by rw [HNX.out]; exact o6), HB6⟩
      case measure => simp [intOf]; omega
    · have u1 : ¬ (k : Int) < (m : Int) := by omega
      have HO3 := Lib.hid (show One W B wr 79 4 a' m' c' (fdsC (L ++ P.map fun p => (d, p))) by
        have h := HO.out
        rw [List.take_of_length_le (by have := HM.out; omega)] at h
        exact h)
      clear HO HB
      go_wp2
      go_ret
      exact ⟨_, _, _, rfl, HO3.out⟩

set_option maxHeartbeats 8000000 in
theorem implAskAll_any (D : List ByteArray) (s : ByteArray) (n : Int) (a : Option Addr) (nD c : Nat) (R : List Fd) (w : World) (hR : askAllL D s n = R) (hn : nD = D.length) (hn9 : nD ≤ 1048576) (hT : totalS D ≤ 1048576) (hs : s.size ≤ 1048576) (hv9 : n ≤ 9223372036854775807) (hat : CellsAt w a (strsC D)) :
    Calls Try.prog 58 #[.slice a nD c, .string s, .int .i64 n] w fun e w' => ∃ a' n' c', e = .returned (.slice a' n' c') ∧ One w w.heap.size w' 79 4 a' n' c' (fdsC R) := by
  subst hR
  have HN := Lib.hid hn
  have HAT := Lib.hid hat
  clear hn hat
  go_enter Try.func58, Try.ntmps58
  go_wp2
  go_loopw [7, 11] (fun u i_ wr => ∃ (i m d : Nat) (a' : Option Addr), i ≤ nD ∧ i_ = .int .i64 (i : Int) ∧ u = .slice a' m d ∧ Hid (One w w.heap.size wr 79 4 a' m d (fdsC (byDocs (fun i => piecesT (docAt D i) s n) i)))) (fun _ i_ _ => nD - (intOf i_).toNat)
  case atStart => exact ⟨0, _, _, _, Nat.zero_le _, rfl, rfl, Lib.hid (One.nil w 79 4)⟩
  case round =>
    obtain ⟨i, m, d, a', hi, rfl, rfl, HO⟩ := hrel
    by_cases hlt : i < nD
    · have hil : i < D.length := by have := HN.out; omega
      obtain ⟨b, o, rfl, hb9, hc⟩ := (HAT.out.below HO.out.below).str (fun e => by rw [e] at hil; simp at hil)
      obtain ⟨t, ht⟩ : ∃ s, D[i] = s := ⟨_, rfl⟩
      have e1 := hc i hil
      rw [ht] at e1
      have hsz : t.size ≤ 1048576 := by have h1 := totalS_get D i hil; rw [ht] at h1; omega
      have z1 : (i : Int) < (nD : Int) := by omega
      have z0 : (0 : Int) ≤ (i : Int) := by omega
      obtain ⟨L, hL⟩ : ∃ L, piecesT t s n = L := ⟨_, rfl⟩
      have c1 := fun w => implPieces_any t s n L w hL hv9 hsz hs
      have HF := Lib.hid (show (fun i => piecesT (docAt D i) s n) i = L by simp only [docAt_get hil, ht, hL])
      have HRM := Lib.hid (askAll_room (D := D) (s := s) n hT hs (m := i + 1) (by omega))
      clear hc ht hL
      go_wp2_with fail
      refine (c1 _).mono ?_
      rintro e w2 ⟨a2, n2, d2, rfl, o2⟩
      have hB := show Beside w2 a2 (entsC L) (.slice a' m d) from ⟨o2.at_, fun hne b o hb hk => by
        obtain ⟨b1, o1, h1, _, _⟩ := o2.at_.spot hne
        have h2 := HO.out.block_lt b hk
        have h3 := (o2.own.lt b (by rw [hb]; rfl)).1
        omega⟩
      have c2 := implWithF_any w w.heap.size (byDocs (fun i => piecesT (docAt D i) s n) i) L (i : Int) a' m d a2 n2 d2 w2 (HO.out.later o2.below) (ents_len7 o2.own) hB (by
        have h1 := HRM.out
        rw [byDocs_next, List.length_append, List.length_map, HF.out] at h1
        have h2 := ents_len7 o2.own
        have h3 := fds_len HO.out.own
        omega)
      clear o2 c1 hB
      go_wp2_with fail
      refine c2.mono ?_
      rintro e w3 ⟨a3, n3, d3, rfl, o3⟩
      have HO3 := Lib.hid (show One w w.heap.size w3 79 4 a3 n3 d3 (fdsC (byDocs (fun i => piecesT (docAt D i) s n) (i + 1))) by
        rw [byDocs_next, HF.out]
        exact o3)
      clear o3 c2 HO
      go_wp2
      go_roundw
      case rel => exact ⟨i + 1, n3, d3, a3, by omega, by go_num, rfl, HO3⟩
      case measure => simp [intOf]; omega
    · have z1 : ¬ (i : Int) < (nD : Int) := by omega
      have hin : i = D.length := by have := HN.out; omega
      have HE := Lib.hid hin
      clear hin
      go_wp2
      go_ret
      exact ⟨_, _, _, rfl, by have h := HO.out; rw [HE.out] at h; exact h⟩

end Go.Proofs.Ytclblnkeakkdeaa
