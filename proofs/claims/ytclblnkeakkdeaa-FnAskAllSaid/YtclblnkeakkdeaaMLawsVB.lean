/-
  The walk of the law AskAll: it answers true, and nothing that was there is written. No conditions. (Written by wip/tools/ch8_laws.py.)
-/
import Derived.Test.YtclblnkeakkdeaaMLawsVA
import Derived.Deep.RegionHeld3
namespace Go.Proofs.Ytclblnkeakkdeaa
open Go.RowKit

theorem byDocs_pre (F : Nat → List En) {i m : Nat} (h : i < m) : ∃ T, byDocs F m = byDocs F i ++ ((F i).map fun p => ((i : Int), p)) ++ T := by
  induction m with
  | zero => omega
  | succ m ih =>
    rcases Nat.lt_or_ge i m with h1 | h1
    · obtain ⟨T, hT⟩ := ih h1
      exact ⟨T ++ (F m).map fun p => ((m : Int), p), by rw [byDocs_next, hT]; simp⟩
    · obtain rfl : i = m := by omega
      exact ⟨[], by rw [byDocs_next]; simp⟩
theorem byDocs_at (F : Nat → List En) {i m k : Nat} (h : i < m) (hk : k < (F i).length) : ∃ hlt : (byDocs F i).length + k < (byDocs F m).length, (byDocs F m)[(byDocs F i).length + k] = ((i : Int), (F i)[k]) := by
  obtain ⟨T, hT⟩ := byDocs_pre F h
  have h1 : (byDocs F i).length + k < (byDocs F m).length := by rw [hT]; simp; omega
  refine ⟨h1, ?_⟩
  have h2 : (byDocs F m)[(byDocs F i).length + k]? = some ((i : Int), (F i)[k]) := by
    rw [hT, List.append_assoc, List.getElem?_append_right (by omega), Nat.add_sub_cancel_left, List.getElem?_append_left (by simpa using hk)]
    simp [hk]
  have h3 := List.getElem?_eq_getElem h1
  rw [h3] at h2
  exact Option.some.inj h2
theorem docAt_get8 {D : List ByteArray} {i : Nat} (h : i < D.length) : docAt D i = D[i] := by simp [docAt, h]
theorem totalS_le8 {D : List ByteArray} {m : Nat} (h : ∀ x ∈ D, x.size ≤ m) : totalS D ≤ D.length * m := by
  induction D with
  | nil => exact Nat.zero_le _
  | cons x D ih =>
    have h1 := h x (by simp)
    have h2 := ih fun y hy => h y (List.mem_cons_of_mem _ hy)
    rw [show totalS (x :: D) = x.size + totalS D by simp [totalS], List.length_cons, Nat.add_mul]
    omega

set_option maxRecDepth 4000 in
set_option maxHeartbeats 16000000 in
theorem walkFnAskAll (a : Option Addr) (len cap : Nat) (zs : List Int) (w : World) (h : IsRowK .u8 w a len cap zs) :
    Calls Try.prog 13 #[.slice a len cap] w fun e w' => e = .returned (.bool true) ∧ Below w.heap.size w w' := by
  by_cases hs : 1048576 < len
  · have h2 : (1048576 : Int) < (len : Int) := by omega
    go_enter Try.func13, Try.ntmps13
    go_wp2
    go_ret
    exact ⟨rfl, Below.refl _ _⟩
  have h2 : ¬ (1048576 : Int) < (len : Int) := by omega
  clear hs
  go_enter Try.func13, Try.ntmps13
  go_wp2_with fail
  refine (DrawAskAll_any _ _ _ _ _ h).mono ?_
  rintro e w0 ⟨D, a1, n1, d1, s, n, hD, hDs, hs, hn0, hn9, rfl, OO⟩
  clear h h2
  have BB := OO.below
  have X1 := txAt_of OO.own
  clear OO
  have wn : n ≤ 9223372036854775807 := by omega
  have hT : totalS D ≤ 276 := by have h1 := totalS_le8 hDs; omega
  have c1 := fun w h => implAskAll_w D s n _ a1 n1 d1 w rfl h (by omega) (by omega) (by omega) wn
  have c2 := fun w h => specAskAll_w D s n _ a1 n1 d1 w rfl h (by omega) (by omega) (by omega) wn
  obtain ⟨R, hR⟩ : ∃ R, askAllL D s n = R := ⟨_, rfl⟩
  rw [hR] at c1 c2
  have hRl : R.length ≤ 1099511627776 := by rw [← hR]; exact askAll_room n (by omega) (by omega) (Nat.le_refl _)
  go_wp2_with fail
  refine (c1 _ X1).mono ?_
  rintro e w1 ⟨a2, n2, d2, rfl, F1, hb⟩
  replace X1 := X1.later hb
  replace BB := BB.trans (hb.mono BB.size)
  clear hb
  clear c1
  go_wp2_with fail
  refine (c2 _ X1).mono ?_
  rintro e w2 ⟨a3, n3, d3, rfl, F2, hb⟩
  replace X1 := X1.later hb
  replace F1 := F1.later hb
  replace BB := BB.trans (hb.mono BB.size)
  clear hb
  clear c2
  go_wp2_with fail
  refine (sameFds_w R _ _ _ _ _ _ _ F1 F2 hRl).mono ?_
  rintro e w3 ⟨rfl, hb⟩
  replace X1 := X1.later hb
  replace F1 := F1.later hb
  replace BB := BB.trans (hb.mono BB.size)
  clear hb
  clear F2
  have HF := Lib.hid F1
  have HX := Lib.hid X1
  have HBB := Lib.hid BB
  have hnn := F1.len
  have hnD := X1.len
  have HN := Lib.hid hnn
  have HD := Lib.hid hnD
  have hn2 : n2 ≤ 1099511627776 := by omega
  have hn1 : n1 ≤ 4 := by omega
  obtain ⟨F, hF⟩ : ∃ F : Nat → List En, (fun i => piecesT (docAt D i) s n) = F := ⟨_, rfl⟩
  have HR := Lib.hid (show R = byDocs F D.length by rw [← hR, ← hF]; rfl)
  have HFF := Lib.hid (show ∀ i, F i = piecesT (docAt D i) s n from fun i => by rw [← hF])
  clear hR hF hRl hnn hnD F1 X1 BB
  go_wp2
  go_loopw [7, 8] (fun at_ i_ wr => ∃ (i m : Nat), i ≤ n1 ∧ i_ = .int .i64 i ∧ at_ = .int .i64 m ∧ Hid (m = (byDocs F i).length) ∧ Hid (Below w3.heap.size w3 wr)) (fun _ i_ _ => n1 - (intOf i_).toNat)
  case atStart => exact ⟨0, 0, Nat.zero_le _, rfl, rfl, Lib.hid rfl, Lib.hid (Below.refl _ _)⟩
  case round =>
    obtain ⟨i, m, hi, rfl, rfl, HM, HB⟩ := hrel
    by_cases hlt : i < n1
    · have z1 : (i : Int) < (n1 : Int) := by omega
      have hiD : i < D.length := by have := HD.out; omega
      have X1 := HX.out.later HB.out
      obtain ⟨b1, o1, rfl, _, hc1⟩ := X1.at_.str (fun e => by rw [e] at hiD; simp at hiD)
      have kc := hc1 i hiD
      obtain ⟨x, hx⟩ : ∃ x, D[i] = x := ⟨_, rfl⟩
      rw [hx] at kc
      have hxs : x.size ≤ 69 := hDs x (hx ▸ List.getElem_mem hiD)
      have hdx : docAt D i = x := by rw [docAt_get8 hiD, hx]
      obtain ⟨L, hL⟩ : ∃ L, piecesT x s n = L := ⟨_, rfl⟩
      have HL := Lib.hid (show F i = L by rw [HFF.out, ← hL, hdx])
      have hLl : L.length ≤ 1099511627776 := by rw [← hL]; exact pieces_room8 n (by omega) (by omega)
      have c4 := fun w => implPcs_w x s n L w hL wn (by omega) (by omega)
      have HXS := Lib.hid (show ∀ k (hk : k < L.length), ∃ hlt : m + k < R.length, R[m + k] = ((i : Int), L[k]) from fun k hk => by
        have hL2 := HL.out
        have h1 := byDocs_at F hiD (k := k) (by rw [hL2]; exact hk)
        obtain ⟨hlt, h1⟩ := h1
        simp only [← HR.out, ← HM.out] at hlt h1
        refine ⟨hlt, h1.trans ?_⟩
        simp only [hL2])
      clear hc1 hx hL hdx X1
      go_wp2_with fail
      refine (c4 _).mono ?_
      rintro e w5 ⟨a4, n4, d4, rfl, E4, hb5⟩
      have hn4 : n4 ≤ 1099511627776 := by have := E4.len; omega
      have HNL := Lib.hid E4.len
      have HE := Lib.hid E4
      have HB5 := Lib.hid (HB.out.trans (hb5.mono HB.out.size))
      clear E4 hb5 kc c4 hLl
      have HM2 := Lib.hid (show (byDocs F (i + 1)).length = m + n4 by rw [byDocs_next, List.length_append, List.length_map, ← HM.out, HL.out, ← HNL.out])
      go_wp2
      go_loopw [7, 10] (fun at_ k_ wr => ∃ (k : Nat), k ≤ n4 ∧ k_ = .int .i64 k ∧ (∃ z : Nat, at_ = .int .i64 z ∧ z = m + k) ∧ ∃ q, wr = w5.drewN q) (fun _ k_ _ => n4 - (intOf k_).toNat)
      case atStart => exact ⟨0, Nat.zero_le _, rfl, ⟨m, rfl, rfl⟩, 0, rfl⟩
      case round =>
        obtain ⟨k, hk, rfl, ⟨z, rfl, hz⟩, q, rfl⟩ := hrel
        by_cases hkl : k < n4
        · have z2 : (k : Int) < (n4 : Int) := by omega
          have hkL : k < L.length := by have := HNL.out; omega
          obtain ⟨hzl, hRz⟩ := HXS.out k hkL
          have hz9 : z < n2 := by have := HN.out; omega
          have z3 : ¬ (n2 : Int) ≤ (z : Int) := by omega
          obtain ⟨x1, hx1⟩ : ∃ x, L[k].1 = x := ⟨_, rfl⟩
          obtain ⟨y1, hy1⟩ : ∃ y, L[k].2.1 = y := ⟨_, rfl⟩
          obtain ⟨u1, hu1⟩ : ∃ z, L[k].2.2 = z := ⟨_, rfl⟩
          have hm : L[k] = (x1, y1, u1) := by rw [← hx1, ← hy1, ← hu1]
          obtain ⟨b2, o2, rfl, _, g1, g2, g3⟩ := ent_cells HE.out.at_ hkL hm
          rw [hm] at hRz
          obtain ⟨b3, o3, rfl, _, g4, g5, g6, g7⟩ := fd_cells (HF.out.later HB5.out).at_ hzl hRz
          rw [← hz] at g4 g5 g6 g7
          have HZ := Lib.hid hz
          clear hx1 hy1 hu1 hm hRz hzl hz
          go_wp2
          go_quiet (fail)
          go_wp2
          go_roundw
          case rel => exact ⟨k + 1, by omega, by go_num, ⟨z + 1, by go_num, by have := HZ.out; omega⟩, _, rfl⟩
          case measure => simp [intOf]; omega
        · have z2 : ¬ (k : Int) < (n4 : Int) := by omega
          have HZ := Lib.hid (show z = m + n4 by omega)
          clear hz
          go_wp2
          go_roundw
          case rel => exact ⟨i + 1, z, by omega, by go_num, rfl, Lib.hid (by rw [HM2.out, HZ.out]), Lib.hid (below_drewN' HB5.out q)⟩
          case measure => simp [intOf]; omega
    · have z1 : ¬ (i : Int) < (n1 : Int) := by omega
      have BB := HBB.out.trans (HB.out.mono HBB.out.size)
      have hm2 : m = n2 := by
        rw [HN.out, HR.out, HM.out, show i = D.length by have := HD.out; omega]
      have f1 : ((m : Int) == (n2 : Int)) = true := by rw [hm2]; exact beq_self_eq_true _
      clear hm2 HBB HM
      go_wp2_with fail
      refine (alive_any _).mono ?_
      rintro e wq ⟨rfl, rfl⟩
      go_wp2
      go_ret
      exact ⟨rfl, BB⟩

end Go.Proofs.Ytclblnkeakkdeaa
