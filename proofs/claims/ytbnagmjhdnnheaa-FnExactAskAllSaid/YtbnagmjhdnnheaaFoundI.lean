/-
  The contracts of the program's functions withFound and AskAll. Conditions: texts have at most 2^20 bytes together.
-/
import Derived.Test.YtbnagmjhdnnheaaPieceE
import Derived.Test.YtbnagmjhdnnheaaFoundS
namespace Go.Proofs.Ytbnagmjhdnnheaa
open Go.RowKit

set_option maxHeartbeats 8000000 in
theorem implWith_any (W : World) (B : Nat) (L : List Fd) (P : List En) (d : Int) (a : Option Addr) (n c : Nat) (b : Option Addr) (m f : Nat) (w : World) (hO : One W B w 101 4 a n c (fdsC L)) (hm : m = P.length) (hB : Beside w b (entsC P) (.slice a n c)) (h9 : n + m ≤ 1099511627776) :
    Calls Try.prog 79 #[.slice a n c, .int .i64 d, .slice b m f] w fun e w' => ∃ a' n' c', e = .returned (.slice a' n' c') ∧ One W B w' 101 4 a' n' c' (fdsC (L ++ P.map fun p => (d, p))) := by
  have HM := Lib.hid hm
  have HO := Lib.hid hO
  have HB := Lib.hid hB
  have HNL := Lib.hid (fds_len hO.own)
  clear hm hO hB
  go_enter Try.func79, Try.ntmps79
  go_wp2
  go_loopw [0, 11] (fun u k_ wr => ∃ (k m' c' : Nat) (a' : Option Addr), k ≤ m ∧ k_ = .int .i64 (k : Int) ∧ u = .slice a' m' c' ∧ Hid (One W B wr 101 4 a' m' c' (fdsC (L ++ (P.take k).map fun p => (d, p)))) ∧ Hid (Beside wr b (entsC P) (.slice a' m' c'))) (fun _ k_ _ => m - (intOf k_).toNat)
  case atStart => exact ⟨0, n, c, a, Nat.zero_le _, rfl, rfl, Lib.hid (by rw [List.take_zero, List.map_nil, List.append_nil]; exact HO.out), HB⟩
  case round =>
    clear HO HB
    obtain ⟨k, m', c', a', hk, rfl, rfl, HO, HB⟩ := hrel
    by_cases hlk : k < m
    · have hkl : k < P.length := by have := HM.out; omega
      obtain ⟨x, hx⟩ : ∃ x, P[k].1 = x := ⟨_, rfl⟩
      obtain ⟨y, hy⟩ : ∃ x, P[k].2.1 = x := ⟨_, rfl⟩
      obtain ⟨z, hz⟩ : ∃ x, P[k].2.2 = x := ⟨_, rfl⟩
      have hmm : P[k] = (x, y, z) := by rw [← hx, ← hy, ← hz]
      obtain ⟨b2, o2, rfl, hb92, q1, q2, q3⟩ := ent_cells HB.out.at_ hkl hmm
      have u1 : (k : Int) < (m : Int) := by omega
      have u0 : (0 : Int) ≤ (k : Int) := by omega
      have HNX := Lib.hid (show fdsC (L ++ (P.take (k + 1)).map fun p => (d, p)) = fdsC (L ++ (P.take k).map fun p => (d, p)) ++ [.int .i64 d, .int .i64 x, .int .i64 y, .int .i64 z] by
        rw [List.take_succ_eq_append_getElem hkl, List.map_append, hmm, ← List.append_assoc]
        exact fdsC_snoc _ (d, x, y, z))
      have hm9 : m' + 1 ≤ 1099511627777 := by
        have h1 := fds_len HO.out.own
        rw [List.length_append, List.length_map, List.length_take] at h1
        have := HNL.out
        omega
      have ha := (Below.refl wr.heap.size wr).alloc (Nat.le_refl _) (.cells #[.int .i64 x, .int .i64 y, .int .i64 z] 88)
      have HO5 := Lib.hid (HO.out.later ha)
      have HB5 := Lib.hid (show Beside (wr.alloc (.cells #[.int .i64 x, .int .i64 y, .int .i64 z] 88)) (some ⟨b2, o2, none⟩) (entsC P) (.slice a' m' c') from ⟨HB.out.at_.below ha, HB.out.apart⟩)
      have hsz : (wr.alloc (.cells #[.int .i64 x, .int .i64 y, .int .i64 z] 88)).heap.size = wr.heap.size + 1 := by simp
      clear hx hy hz hmm ha HO HB
      go_wp2_with (at_builtin; refine wpList_append_apart rfl (.tmp 15) (.tmp 19) 59 rfl Try.ulF8 Try.infoF8 rfl (by decide) HO5.out rfl #[.int .i64 d, .int .i64 x, .int .i64 y, .int .i64 z] (by first | rfl | (rw [hsz]; rfl)) rfl (by simp [Value.oneCell']) (by unfold maxLen; omega) (by omega) ?_; intro a6 c6 w6 o6 g6 s6)
      have HB6 := Lib.hid (HB5.out.grow g6 s6)
      clear g6 s6
      go_roundw
      case rel => exact ⟨k + 1, m' + 1, c6, a6, by omega, by go_num, rfl, Lib.hid (by rw [HNX.out]; exact o6), HB6⟩
      case measure => simp [intOf]; omega
    · have u1 : ¬ (k : Int) < (m : Int) := by omega
      have HO3 := Lib.hid (show One W B wr 101 4 a' m' c' (fdsC (L ++ P.map fun p => (d, p))) by
        have h := HO.out
        rw [List.take_of_length_le (by have := HM.out; omega)] at h
        exact h)
      clear HO HB
      go_wp2
      go_ret
      exact ⟨_, _, _, rfl, HO3.out⟩

set_option maxHeartbeats 8000000 in
theorem implAskAll_any (D : List ByteArray) (s : ByteArray) (n : Int) (a : Option Addr) (nD c : Nat) (R : List Fd) (w : World) (hR : askAllL D s n = R) (hn : nD = D.length) (hn9 : nD ≤ 1048576) (hT : totalS D ≤ 1048576) (hs : s.size ≤ 1048576) (hv9 : n ≤ 9223372036854775807) (hat : CellsAt w a (strsC D)) :
    Calls Try.prog 51 #[.slice a nD c, .string s, .int .i64 n] w fun e w' => ∃ a' n' c', e = .returned (.slice a' n' c') ∧ One w w.heap.size w' 101 4 a' n' c' (fdsC R) := by
  subst hR
  have HN := Lib.hid hn
  have HAT := Lib.hid hat
  clear hn hat
  go_enter Try.func51, Try.ntmps51
  go_wp2
  go_loopw [7, 11] (fun u i_ wr => ∃ (i m d : Nat) (a' : Option Addr), i ≤ nD ∧ i_ = .int .i64 (i : Int) ∧ u = .slice a' m d ∧ Hid (One w w.heap.size wr 101 4 a' m d (fdsC (byDocs (fun i => piecesT (docAt D i) s n) i)))) (fun _ i_ _ => nD - (intOf i_).toNat)
  case atStart => exact ⟨0, _, _, _, Nat.zero_le _, rfl, rfl, Lib.hid (One.nil w 101 4)⟩
  case round =>
    obtain ⟨i, m, d, a', hi, rfl, rfl, HO⟩ := hrel
    by_cases hlt : i < nD
    · have hil : i < D.length := by have := HN.out; omega
      obtain ⟨b, o, rfl, hb9, hc⟩ := (HAT.out.below HO.out.below).str (fun e => by rw [e] at hil; simp at hil)
      obtain ⟨t, ht⟩ : ∃ s, D[i] = s := ⟨_, rfl⟩
      have e1 := hc i hil
      rw [ht] at e1
      have hsz : t.size ≤ 1048576 := by have h1 := totalS_get D i hil; rw [ht] at h1; omega
      have z1 : (i : Int) < (nD : Int) := by omega
      have z0 : (0 : Int) ≤ (i : Int) := by omega
      obtain ⟨L, hL⟩ : ∃ L, piecesT t s n = L := ⟨_, rfl⟩
      have c1 := fun w => implPieces_any t s n L w hL hv9 hsz hs
      have HF := Lib.hid (show (fun i => piecesT (docAt D i) s n) i = L by simp only [docAt_get hil, ht, hL])
      have HRM := Lib.hid (askAll_room (D := D) (s := s) n hT hs (m := i + 1) (by omega))
      clear hc ht hL
      go_wp2_with fail
      refine (c1 _).mono ?_
      rintro e w2 ⟨a2, n2, d2, rfl, o2⟩
      have hB := show Beside w2 a2 (entsC L) (.slice a' m d) from ⟨o2.at_, fun hne b o hb hk => by
        obtain ⟨b1, o1, h1, _, _⟩ := o2.at_.spot hne
        have h2 := HO.out.block_lt b hk
        have h3 := (o2.own.lt b (by rw [hb]; rfl)).1
        omega⟩
      have c2 := implWith_any w w.heap.size (byDocs (fun i => piecesT (docAt D i) s n) i) L (i : Int) a' m d a2 n2 d2 w2 (HO.out.later o2.below) (ents_len7 o2.own) hB (by
        have h1 := HRM.out
        rw [byDocs_next, List.length_append, List.length_map, HF.out] at h1
        have h2 := ents_len7 o2.own
        have h3 := fds_len HO.out.own
        omega)
      clear o2 c1 hB
      go_wp2_with fail
      refine c2.mono ?_
      rintro e w3 ⟨a3, n3, d3, rfl, o3⟩
      have HO3 := Lib.hid (show One w w.heap.size w3 101 4 a3 n3 d3 (fdsC (byDocs (fun i => piecesT (docAt D i) s n) (i + 1))) by
        rw [byDocs_next, HF.out]
        exact o3)
      clear o3 c2 HO
      go_wp2
      go_roundw
      case rel => exact ⟨i + 1, n3, d3, a3, by omega, by go_num, rfl, HO3⟩
      case measure => simp [intOf]; omega
    · have z1 : ¬ (i : Int) < (nD : Int) := by omega
      have hin : i = D.length := by have := HN.out; omega
      have HE := Lib.hid hin
      clear hin
      go_wp2
      go_ret
      exact ⟨_, _, _, rfl, by have h := HO.out; rw [HE.out] at h; exact h⟩

end Go.Proofs.Ytbnagmjhdnnheaa
