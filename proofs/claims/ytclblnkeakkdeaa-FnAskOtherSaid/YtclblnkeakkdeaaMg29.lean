/-
  The contract of the model's function l8Put: what is found put among others in order, once. Condition: rows have at most 2^41 records. (Written by wip/tools/ch8_put.py.)
-/
import Derived.Test.YtclblnkeakkdeaaMg15
import Derived.Test.YtclblnkeakkdeaaMg28
namespace Go.Proofs.Ytclblnkeakkdeaa
open Go.RowKit

theorem Try.ulF8 : Try.prog.underlying 75 = some (.slice 79) := by kernel_rfl
theorem Try.infoF8 : (Try.prog.info? 79).map (fun i => (i.zero, i.size, i.bytes)) = some (some (.agg #[.int .i64 0, .int .i64 0, .int .i64 0, .int .i64 0]), 4, 32) := by kernel_rfl
theorem cellsAt_rec48 (w : World) (e : TypeId) (a b c d : Value) (g : Nat) (hg : g = w.heap.size) : CellsAt (w.alloc (.cells #[a, b, c, d] e)) (some ⟨g, 0, none⟩) [a, b, c, d] := cellsAt_lit7 w e #[a, b, c, d] g hg
theorem putF_at8 {l : List Fd} {X : Fd} {p : Nat} (hp : p ≤ l.length) (h1 : ∀ i, i < p → ∀ h : i < l.length, fdLt l[i] X) (h2 : ∀ h : p < l.length, ¬ fdLt l[p] X) : putF X l = if l[p]? = some X then l else l.take p ++ X :: l.drop p := by
  have e := atF_is X l p hp h1 h2
  rw [putF, e]

set_option maxRecDepth 8000 in
set_option maxHeartbeats 40000000 in
theorem specPut8_any (l : List Fd) (d x y z : Int) (g n c B : Nat) (W w : World) (hn : n = l.length) (hl : n ≤ 2199023255552) (hone : One W B w 79 4 (some ⟨g, 0, none⟩) n c (fdsC l)) :
    Calls Try.prog 98 #[.slice (some ⟨g, 0, none⟩) n c, .agg #[.int .i64 d, .int .i64 x, .int .i64 y, .int .i64 z]] w fun e w' => ∃ g' n' c', e = .returned (.slice (some ⟨g', 0, none⟩) n' c') ∧ n' = (putF (d, x, y, z) l).length ∧ One W B w' 79 4 (some ⟨g', 0, none⟩) n' c' (fdsC (putF (d, x, y, z) l)) ∧ Below w.heap.size w w' := by
  have HN := Lib.hid hn
  have hcap := hone.cap
  obtain ⟨hnc, hc9⟩ := hcap
  have hbx : Below w.heap.size w (w.alloc (.cells #[.int .i64 d, .int .i64 x, .int .i64 y, .int .i64 z] 79)) := (Below.refl _ _).alloc (Nat.le_refl _) _
  obtain ⟨gx, hgx⟩ : ∃ gx, w.heap.size = gx := ⟨_, rfl⟩
  have hx0 : (w.alloc (.cells #[.int .i64 d, .int .i64 x, .int .i64 y, .int .i64 z] 79)).cell? ⟨gx, 0, none⟩ = some (.int .i64 d) ∧ (w.alloc (.cells #[.int .i64 d, .int .i64 x, .int .i64 y, .int .i64 z] 79)).cell? ⟨gx, 1, none⟩ = some (.int .i64 x) ∧ (w.alloc (.cells #[.int .i64 d, .int .i64 x, .int .i64 y, .int .i64 z] 79)).cell? ⟨gx, 2, none⟩ = some (.int .i64 y) ∧ (w.alloc (.cells #[.int .i64 d, .int .i64 x, .int .i64 y, .int .i64 z] 79)).cell? ⟨gx, 3, none⟩ = some (.int .i64 z) := by
    subst hgx
    exact ⟨cell_of_row _ w.heap.size 0 _ _ (0, 0) (heap_alloc_new w _), cell_of_row _ w.heap.size 1 _ _ (0, 0) (heap_alloc_new w _), cell_of_row _ w.heap.size 2 _ _ (0, 0) (heap_alloc_new w _), cell_of_row _ w.heap.size 3 _ _ (0, 0) (heap_alloc_new w _)⟩
  have hone1 := hone.alloc (.cells #[.int .i64 d, .int .i64 x, .int .i64 y, .int .i64 z] 79)
  have hgx1 : gx < (w.alloc (.cells #[.int .i64 d, .int .i64 x, .int .i64 y, .int .i64 z] 79)).heap.size := by rw [← hgx]; simp
  have HGX := Lib.hid hgx
  have HB0' := Lib.hid hbx
  clear hn hone hbx hgx
  go_enter Try.func98, Try.ntmps98
  go_wp2
  rw [HGX.out]
  generalize hw1 : w.alloc (.cells #[.int .i64 d, .int .i64 x, .int .i64 y, .int .i64 z] 79) = w1
  have HB0 := Lib.hid (show ∀ w', Below w1.heap.size w1 w' → Below w.heap.size w w' from fun w' h => by have h2 := HB0'.out; rw [HGX.out, hw1] at h2; rw [HGX.out]; exact h2.trans (h.mono (Nat.le_of_lt (by rw [← hw1]; exact hgx1))))
  rw [hw1] at hx0 hone1 hgx1
  clear hw1 HB0'
  have HX := Lib.hid (show ∀ w', Below w1.heap.size w1 w' → w'.cell? ⟨gx, 0, none⟩ = some (.int .i64 d) ∧ w'.cell? ⟨gx, 1, none⟩ = some (.int .i64 x) ∧ w'.cell? ⟨gx, 2, none⟩ = some (.int .i64 y) ∧ w'.cell? ⟨gx, 3, none⟩ = some (.int .i64 z) from fun w' h => ⟨below_ents7 h hgx1 hx0.1, below_ents7 h hgx1 hx0.2.1, below_ents7 h hgx1 hx0.2.2.1, below_ents7 h hgx1 hx0.2.2.2⟩)
  have HO := Lib.hid (show ∀ w', Below w1.heap.size w1 w' → One W B w' 79 4 (some ⟨g, 0, none⟩) n c (fdsC l) from fun w' h => hone1.later h)
  clear hx0 hone1
  go_loopw [5] (fun p_ wr => ∃ p : Nat, p ≤ n ∧ p_ = .int .i64 p ∧ Hid (∀ i, i < p → ∀ h : i < l.length, fdLt l[i] (d, x, y, z)) ∧ Below w1.heap.size w1 wr) (fun p_ _ => n - (intOf p_).toNat)
  case atStart => exact ⟨0, Nat.zero_le _, rfl, Lib.hid (fun i h => absurd h (Nat.not_lt_zero _)), Below.refl _ _⟩
  case round =>
    obtain ⟨p, hp, rfl, HP, Bw⟩ := hrel
    obtain ⟨b1, b2, b3, b4⟩ := HX.out wr Bw
    have hone := HO.out wr Bw
    by_cases hpn : p < n
    · have hpl : p < l.length := by have := HN.out; omega
      obtain ⟨d', hd0⟩ : ∃ x', l[p].1 = x' := ⟨_, rfl⟩
      obtain ⟨x', hx⟩ : ∃ x', l[p].2.1 = x' := ⟨_, rfl⟩
      obtain ⟨y', hy⟩ : ∃ y', l[p].2.2.1 = y' := ⟨_, rfl⟩
      obtain ⟨z', hz⟩ : ∃ z', l[p].2.2.2 = z' := ⟨_, rfl⟩
      have hm : l[p] = (d', x', y', z') := by rw [← hd0, ← hx, ← hy, ← hz]
      obtain ⟨g', o', hgo, hg9, g1, g2, g3, g4⟩ := fd_cells hone.at_ hpl hm
      obtain ⟨rfl, rfl⟩ := (by simpa using hgo : g = g' ∧ 0 = o')
      rw [Nat.zero_add] at g1 g2 g3 g4
      have HM := Lib.hid hm
      have z1 : (p : Int) < (n : Int) := by omega
      have z2 : (0 : Int) ≤ (p : Int) := by omega
      have hgxr : gx < wr.heap.size := Nat.lt_of_lt_of_le hgx1 Bw.size
      have HKS := Lib.hid (show ∀ w', Below wr.heap.size wr w' → (w'.cell? ⟨gx, 0, none⟩ = some (.int .i64 d) ∧ w'.cell? ⟨gx, 1, none⟩ = some (.int .i64 x) ∧ w'.cell? ⟨gx, 2, none⟩ = some (.int .i64 y) ∧ w'.cell? ⟨gx, 3, none⟩ = some (.int .i64 z)) ∧ w'.cell? ⟨g, p * 4, none⟩ = some (.int .i64 d') ∧ w'.cell? ⟨g, p * 4 + 1, none⟩ = some (.int .i64 x') ∧ w'.cell? ⟨g, p * 4 + 2, none⟩ = some (.int .i64 y') ∧ w'.cell? ⟨g, p * 4 + 3, none⟩ = some (.int .i64 z') from fun w' h => ⟨⟨below_ents7 h hgxr b1, below_ents7 h hgxr b2, below_ents7 h hgxr b3, below_ents7 h hgxr b4⟩, below_ents7 h hg9 g1, below_ents7 h hg9 g2, below_ents7 h hg9 g3, below_ents7 h hg9 g4⟩)
      have t1 : decide (p < n) = true := decide_eq_true hpn
      clear hd0 hx hy hz hm hgo
      by_cases hlt : fdLt (d', x', y', z') (d, x, y, z)
      · have HP2 := Lib.hid (show ∀ i, i < p + 1 → ∀ h : i < l.length, fdLt l[i] (d, x, y, z) from fun i h1 h2 => by
          by_cases e : i = p
          · subst e; rw [HM.out]; exact hlt
          · exact HP.out i (by omega) h2)
        have hways : d' < d ∨ d' = d ∧ enLt (x', y', z') (x, y, z) := hlt
        clear hlt HP hone
        rcases hways with hd | ⟨hd, hlt⟩
        · have td : decide (d' < d) = true := decide_eq_true hd
          go_wp2
          go_quiet (fail)
          go_wp2
          go_roundw
          case rel => exact ⟨p + 1, by omega, by go_num, HP2, below_drewN' Bw _⟩
          case measure => simp [intOf]; omega
        · obtain rfl : d = d' := hd.symm
          have td : decide (d < d) = false := decide_eq_false (Int.lt_irrefl _)
          have te : (d == d) = true := beq_self_eq_true _
          have c1 := fun w => specLess7_is true x' y' z' x y z w ⟨fun _ => hlt, fun _ => rfl⟩
          clear hlt
          go_wp2
          go_region_held3 (fun w' => (w'.cell? ⟨gx, 0, none⟩ = some (.int .i64 d) ∧ w'.cell? ⟨gx, 1, none⟩ = some (.int .i64 x) ∧ w'.cell? ⟨gx, 2, none⟩ = some (.int .i64 y) ∧ w'.cell? ⟨gx, 3, none⟩ = some (.int .i64 z)) ∧ w'.cell? ⟨g, p * 4, none⟩ = some (.int .i64 d) ∧ w'.cell? ⟨g, p * 4 + 1, none⟩ = some (.int .i64 x') ∧ w'.cell? ⟨g, p * 4 + 2, none⟩ = some (.int .i64 y') ∧ w'.cell? ⟨g, p * 4 + 3, none⟩ = some (.int .i64 z')) (first | go_keep | exact HKS.out _ (Below.trans (by repeat (first | exact Below.refl _ _ | refine Below.drew ?_ | refine below_drewN' ?_ _)) (hb5.mono (by simp))))
            ((go_at_call 113; refine (c1 _).mono ?_; rintro e w5 ⟨rfl, hb5⟩))
          go_wp2
          go_roundw
          case rel => exact ⟨p + 1, by omega, by go_num, HP2, Bw.trans (Below.mono (Below.trans (by repeat (first | exact Below.refl _ _ | refine Below.drew ?_ | refine below_drewN' ?_ _)) (hb5.mono (by simp))) Bw.size)⟩
          case measure => simp [intOf]; omega
      · have hput := putF_at8 (X := (d, x, y, z)) (by have := HN.out; omega) HP.out (fun h => by rw [HM.out]; exact hlt)
        rw [List.getElem?_eq_getElem hpl, HM.out] at hput
        have HPUT := Lib.hid hput
        have hways : d < d' ∨ d' = d ∧ ¬ enLt (x', y', z') (x, y, z) := by
          rcases Int.lt_trichotomy d d' with h | h | h
          · exact .inl h
          · exact .inr ⟨h.symm, fun h2 => hlt (.inr ⟨h.symm, h2⟩)⟩
          · exact absurd (.inl h) hlt
        clear hlt HP hone hput
        rcases hways with hd | ⟨hd, hlt⟩
        · have td : decide (d' < d) = false := decide_eq_false (by omega)
          have te : (d' == d) = false := beq_eq_false_iff_ne.2 (by omega)
          have HE := Lib.hid (HPUT.out.trans (if_neg (fun h => by injection h with h; simp only [Prod.mk.injEq] at h; omega)))
          go_wp2
          go_quiet (fail)
          have W5 : Below wr.heap.size wr (wr.drewN nq) := below_drewN' (Below.refl _ _) nq
          generalize wr.drewN nq = w5 at W5 ⊢
          obtain ⟨⟨b1, b2, b3, b4⟩, g1, g2, g3, g4⟩ := HKS.out w5 W5
          have B5 : Below w1.heap.size w1 w5 := Bw.trans (W5.mono Bw.size)
          clear HKS W5 Bw
          go_wp2
          go_quiet (fail)
          go_wp2_with fail
          generalize hW : World.drewN _ _ = wz
          have Bz : Below w1.heap.size w1 wz := by rw [← hW]; exact below_drewN' B5 _
          clear hW B5 b1 b2 b3 b4 g1 g2 g3 g4
          have HOz := Lib.hid (HO.out wz Bz)
          have HG := Lib.hid (show ∀ w', Below wz.heap.size wz w' → w'.cell? ⟨gx, 0, none⟩ = some (.int .i64 d) ∧ w'.cell? ⟨gx, 1, none⟩ = some (.int .i64 x) ∧ w'.cell? ⟨gx, 2, none⟩ = some (.int .i64 y) ∧ w'.cell? ⟨gx, 3, none⟩ = some (.int .i64 z) from fun w' h => HX.out w' (Bz.trans (h.mono Bz.size)))
          obtain ⟨b1, b2, b3, b4⟩ := HG.out wz (Below.refl _ _)
          have hbz : wz.heap.size ≤ wz.heap.size := Nat.le_refl _
          have hbel : Below wz.heap.size wz wz := Below.refl _ _
          have HTs := Lib.hid (show CellsAt wz (some ⟨g, 0, none⟩) (fdsC (l.take p)) by rw [← fdsC_take]; exact HOz.out.at_.upTo (p * 4))
          have HL1 := Lib.hid (show (fdsC (l.take p)).length = p * 4 by rw [fdsC_len, List.length_take, Nat.min_eq_left (by have := HN.out; omega)])
          have HD := Lib.hid (fun (w' : World) (hb : Below wz.heap.size wz w') => (show CellsAt wz (some ⟨g, p * 4, none⟩) (fdsC (l.drop p)) by rw [← fdsC_drop]; have h := HOz.out.at_.from_lit (p * 4); rwa [Nat.zero_add] at h).below hb)
          have HL2 := Lib.hid (show (fdsC (l.drop p)).length = (n - p) * 4 by rw [fdsC_len, List.length_drop, HN.out])
          have i5 : ¬ c = p := by omega
          have i1 : (0 : Int) ≤ (p : Int) := by omega
          have i2 : (p : Int) ≤ (c : Int) := by omega
          have i3 : (p : Int) ≤ (n : Int) := by omega
          have i4 : p ≤ c := by omega
          go_region_held3 (fun w' => w'.cell? ⟨gx, 0, none⟩ = some (.int .i64 d) ∧ w'.cell? ⟨gx, 1, none⟩ = some (.int .i64 x) ∧ w'.cell? ⟨gx, 2, none⟩ = some (.int .i64 y) ∧ w'.cell? ⟨gx, 3, none⟩ = some (.int .i64 z))
            (first | exact g3 | (refine HG.out _ ?_; first | exact hbel.trans (hs5.below.mono hbz) | exact hbel.trans (hs4.below.mono hbz) | (refine hbel.trans ?_; refine Below.mono ?_ hbz; (repeat (first | exact hs3.below | refine Below.drew ?_ | refine Below.alloc ?_ (by first | exact hs3.base | omega | (simp; omega)) _)); done) | ((repeat (first | exact hbel | refine Below.drew ?_ | refine Below.alloc ?_ (by first | exact Nat.le_refl _ | omega | (simp; done) | (simp; omega)) _)); done)))
            ((first
              | (refine step_append_to wz wz.heap.size (some ⟨wz.heap.size, 0, none⟩) 0 0 [] (some ⟨g, 0, none⟩) p c (fdsC (l.take p)) p (fdsC (l.take p)) (by omega) (by simp) rfl (.tmp 55) (.tmp 58) 75 (by rfl) (by rfl) (by rfl) Try.ulF8 Try.infoF8 rfl (by decide) (by exact HL1.out) (fdsC_one _) (by unfold maxLen; omega) (by omega) (by repeat (first | exact One.empty _ _ _ | exact One.second _ _ _ _ | refine One.drew ?_ | refine One.alloc ?_ _)) (by repeat (first | exact HTs.out | refine CellsAt.drewW ?_ | refine CellsAt.allocW ?_ _)) ?_; intro as3 cs3 ws3 hs3 gs3)
              | (refine step_append_to wz wz.heap.size (some ⟨wz.heap.size + 1, 0, none⟩) 0 0 [] (some ⟨g, 0, none⟩) p c (fdsC (l.take p)) p (fdsC (l.take p)) (by omega) (by simp) rfl (.tmp 55) (.tmp 58) 75 (by rfl) (by rfl) (by rfl) Try.ulF8 Try.infoF8 rfl (by decide) (by exact HL1.out) (fdsC_one _) (by unfold maxLen; omega) (by omega) (by repeat (first | exact One.empty _ _ _ | exact One.second _ _ _ _ | refine One.drew ?_ | refine One.alloc ?_ _)) (by repeat (first | exact HTs.out | refine CellsAt.drewW ?_ | refine CellsAt.allocW ?_ _)) ?_; intro as3 cs3 ws3 hs3 gs3)
              | (refine step_append_to wz wz.heap.size as3 p cs3 (fdsC (l.take p)) (some ⟨ws3.heap.size, 0, none⟩) 1 1 [.int .i64 d, .int .i64 x, .int .i64 y, .int .i64 z] (p + 1) (fdsC (l.take p) ++ [.int .i64 d, .int .i64 x, .int .i64 y, .int .i64 z]) (by omega) (by rfl) rfl (.tmp 59) (.tmp 61) 75 (by rfl) (by rfl) (by rfl) Try.ulF8 Try.infoF8 rfl (by decide) (by rfl) (by simp [Value.oneCell']) (by unfold maxLen; omega) (by omega) (by repeat (first | exact hs3 | refine One.drew ?_ | refine One.alloc ?_ _)) (by repeat (first | exact cellsAt_rec48 _ _ _ _ _ _ _ rfl | refine CellsAt.drewW ?_ | refine CellsAt.allocW ?_ _)) ?_; intro as4 cs4 ws4 hs4 gs4)
              | (refine step_append_to wz wz.heap.size as3 p cs3 (fdsC (l.take p)) (some ⟨wz.heap.size + 1, 0, none⟩) 1 1 [.int .i64 d, .int .i64 x, .int .i64 y, .int .i64 z] (p + 1) (fdsC (l.take p) ++ [.int .i64 d, .int .i64 x, .int .i64 y, .int .i64 z]) (by omega) (by rfl) rfl (.tmp 59) (.tmp 61) 75 (by rfl) (by rfl) (by rfl) Try.ulF8 Try.infoF8 rfl (by decide) (by rfl) (by simp [Value.oneCell']) (by unfold maxLen; omega) (by omega) (by repeat (first | exact hs3 | refine One.drew ?_ | refine One.alloc ?_ _)) (by repeat (first | exact cellsAt_lit _ _ _ _ (by simp) | exact cellsAt_rec48 _ _ _ _ _ _ _ (by first | rfl | simp) | refine CellsAt.drewW ?_ | refine CellsAt.allocW ?_ _ | (refine CellsAt.grown ?_ gs3 ?_) | (intro b o hh; simp at hh; simp [Value.ownBlock]; omega))) ?_; intro as4 cs4 ws4 hs4 gs4)
              | (refine step_append_to wz wz.heap.size as3 p cs3 (fdsC (l.take p)) (some ⟨wz.heap.size, 0, none⟩) 1 1 [.int .i64 d, .int .i64 x, .int .i64 y, .int .i64 z] (p + 1) (fdsC (l.take p) ++ [.int .i64 d, .int .i64 x, .int .i64 y, .int .i64 z]) (by omega) (by rfl) rfl (.tmp 59) (.tmp 61) 75 (by rfl) (by rfl) (by rfl) Try.ulF8 Try.infoF8 rfl (by decide) (by rfl) (by simp [Value.oneCell']) (by unfold maxLen; omega) (by omega) (by repeat (first | exact hs3 | refine One.drew ?_ | refine One.alloc ?_ _)) (by repeat (first | exact cellsAt_lit _ _ _ _ (by simp) | exact cellsAt_rec48 _ _ _ _ _ _ _ (by first | rfl | simp) | refine CellsAt.drewW ?_ | refine CellsAt.allocW ?_ _ | (refine CellsAt.grown ?_ gs3 ?_) | (intro b o hh; simp at hh; simp [Value.ownBlock]; omega))) ?_; intro as4 cs4 ws4 hs4 gs4)
              | (refine step_append_to wz wz.heap.size as4 (p + 1) cs4 (fdsC (l.take p) ++ [.int .i64 d, .int .i64 x, .int .i64 y, .int .i64 z]) (some ⟨g, p * 4, none⟩) (n - p) (c - p) (fdsC (l.drop p)) (p + 1 + (n - p)) (fdsC (l.take p) ++ [.int .i64 d, .int .i64 x, .int .i64 y, .int .i64 z] ++ fdsC (l.drop p)) (by omega) (by simp) rfl (.tmp 62) (.tmp 65) 75 (by rfl) (by rfl) (by rfl) Try.ulF8 Try.infoF8 rfl (by decide) (by exact HL2.out) (fdsC_one _) (by unfold maxLen; omega) (by omega) (by repeat (first | exact hs4 | refine One.drew ?_)) (by repeat (first | exact HD.out _ hs4.below | refine CellsAt.drewW ?_)) ?_; intro as5 cs5 ws5 hs5 gs5)))
          all_goals go_wp2
          all_goals (
            go_ret
            obtain ⟨gs, rfl⟩ := hs5.addr (by omega)
            have hfin := hs5.under HOz.out.below HOz.out.base
            refine ⟨gs, _, _, rfl, ?_, ?_, HB0.out _ (Bz.trans (hs5.below.mono Bz.size))⟩
            · rw [HE.out]; simp; have := HN.out; omega
            · rw [HE.out, fdsC_append]
              have e9 : fdsC ((d, x, y, z) :: l.drop p) = [.int .i64 d, .int .i64 x, .int .i64 y, .int .i64 z] ++ fdsC (l.drop p) := rfl
              rw [e9, ← List.append_assoc]
              exact hfin)
        · obtain rfl : d = d' := hd.symm
          have td : decide (d < d) = false := decide_eq_false (Int.lt_irrefl _)
          have te : (d == d) = true := beq_self_eq_true _
          have c1 := fun w => specLess7_is false x' y' z' x y z w ⟨(fun h => absurd h (by decide)), (fun h => absurd h hlt)⟩
          clear hlt
          go_wp2
          go_region_held3 (fun w' => (w'.cell? ⟨gx, 0, none⟩ = some (.int .i64 d) ∧ w'.cell? ⟨gx, 1, none⟩ = some (.int .i64 x) ∧ w'.cell? ⟨gx, 2, none⟩ = some (.int .i64 y) ∧ w'.cell? ⟨gx, 3, none⟩ = some (.int .i64 z)) ∧ w'.cell? ⟨g, p * 4, none⟩ = some (.int .i64 d) ∧ w'.cell? ⟨g, p * 4 + 1, none⟩ = some (.int .i64 x') ∧ w'.cell? ⟨g, p * 4 + 2, none⟩ = some (.int .i64 y') ∧ w'.cell? ⟨g, p * 4 + 3, none⟩ = some (.int .i64 z')) (first | go_keep | exact HKS.out _ (Below.trans (by repeat (first | exact Below.refl _ _ | refine Below.drew ?_ | refine below_drewN' ?_ _)) (hb5.mono (by simp))))
            ((go_at_call 113; refine (c1 _).mono ?_; rintro e w5 ⟨rfl, hb5⟩))
          have W5 : Below wr.heap.size wr w5 := (Below.trans (by repeat (first | exact Below.refl _ _ | refine Below.drew ?_ | refine below_drewN' ?_ _)) (hb5.mono (by simp)))
          obtain ⟨⟨b1, b2, b3, b4⟩, g1, g2, g3, g4⟩ := HKS.out w5 W5
          have B5 : Below w1.heap.size w1 w5 := Bw.trans (W5.mono Bw.size)
          clear hb5 HKS c1 W5 Bw
          by_cases he : (x', y', z') = (x, y, z)
          · have HE := Lib.hid (HPUT.out.trans (if_pos (by rw [he])))
            simp only [Prod.mk.injEq] at he
            obtain ⟨rfl, rfl, rfl⟩ := he
            have tx : (x' == x') = true := beq_self_eq_true _
            have ty : (y' == y') = true := beq_self_eq_true _
            have tz : (z' == z') = true := beq_self_eq_true _
            go_wp2
            go_quiet (fail)
            go_wp2
            go_ret
            have HOn := HO.out w5 B5
            exact ⟨_, _, _, rfl, by rw [HE.out]; exact HN.out, by rw [HE.out]; exact HOn.drewN _, HB0.out _ (below_drewN' B5 _)⟩
          · have HE := Lib.hid (HPUT.out.trans (if_neg (fun h => he (by injection h with h; simp only [Prod.mk.injEq, true_and] at h ⊢; exact h))))
            have hcase : (x' == x) = false ∨ (x' == x) = true ∧ ((y' == y) = false ∨ (y' == y) = true ∧ (z' == z) = false) := by
              by_cases h1 : x' = x
              · by_cases h2 : y' = y
                · by_cases h3 : z' = z
                  · exact absurd (by rw [h1, h2, h3]) he
                  · exact .inr ⟨by simpa using h1, .inr ⟨by simpa using h2, by simpa using h3⟩⟩
                · exact .inr ⟨by simpa using h1, .inl (by simpa using h2)⟩
              · exact .inl (by simpa using h1)
            clear he
            rcases hcase with t1 | ⟨t1, t2 | ⟨t2, t3⟩⟩
            all_goals (
              go_wp2
              go_quiet (fail)
              go_wp2_with fail
              generalize hW : World.drewN _ _ = wz
              have Bz : Below w1.heap.size w1 wz := by rw [← hW]; exact below_drewN' B5 _
              clear hW B5 b1 b2 b3 b4 g1 g2 g3 g4
              have HOz := Lib.hid (HO.out wz Bz)
              have HG := Lib.hid (show ∀ w', Below wz.heap.size wz w' → w'.cell? ⟨gx, 0, none⟩ = some (.int .i64 d) ∧ w'.cell? ⟨gx, 1, none⟩ = some (.int .i64 x) ∧ w'.cell? ⟨gx, 2, none⟩ = some (.int .i64 y) ∧ w'.cell? ⟨gx, 3, none⟩ = some (.int .i64 z) from fun w' h => HX.out w' (Bz.trans (h.mono Bz.size)))
              obtain ⟨b1, b2, b3, b4⟩ := HG.out wz (Below.refl _ _)
              have hbz : wz.heap.size ≤ wz.heap.size := Nat.le_refl _
              have hbel : Below wz.heap.size wz wz := Below.refl _ _
              have HTs := Lib.hid (show CellsAt wz (some ⟨g, 0, none⟩) (fdsC (l.take p)) by rw [← fdsC_take]; exact HOz.out.at_.upTo (p * 4))
              have HL1 := Lib.hid (show (fdsC (l.take p)).length = p * 4 by rw [fdsC_len, List.length_take, Nat.min_eq_left (by have := HN.out; omega)])
              have HD := Lib.hid (fun (w' : World) (hb : Below wz.heap.size wz w') => (show CellsAt wz (some ⟨g, p * 4, none⟩) (fdsC (l.drop p)) by rw [← fdsC_drop]; have h := HOz.out.at_.from_lit (p * 4); rwa [Nat.zero_add] at h).below hb)
              have HL2 := Lib.hid (show (fdsC (l.drop p)).length = (n - p) * 4 by rw [fdsC_len, List.length_drop, HN.out])
              have i5 : ¬ c = p := by omega
              have i1 : (0 : Int) ≤ (p : Int) := by omega
              have i2 : (p : Int) ≤ (c : Int) := by omega
              have i3 : (p : Int) ≤ (n : Int) := by omega
              have i4 : p ≤ c := by omega
              go_region_held3 (fun w' => w'.cell? ⟨gx, 0, none⟩ = some (.int .i64 d) ∧ w'.cell? ⟨gx, 1, none⟩ = some (.int .i64 x) ∧ w'.cell? ⟨gx, 2, none⟩ = some (.int .i64 y) ∧ w'.cell? ⟨gx, 3, none⟩ = some (.int .i64 z))
                (first | exact g3 | (refine HG.out _ ?_; first | exact hbel.trans (hs5.below.mono hbz) | exact hbel.trans (hs4.below.mono hbz) | (refine hbel.trans ?_; refine Below.mono ?_ hbz; (repeat (first | exact hs3.below | refine Below.drew ?_ | refine Below.alloc ?_ (by first | exact hs3.base | omega | (simp; omega)) _)); done) | ((repeat (first | exact hbel | refine Below.drew ?_ | refine Below.alloc ?_ (by first | exact Nat.le_refl _ | omega | (simp; done) | (simp; omega)) _)); done)))
                ((first
                  | (refine step_append_to wz wz.heap.size (some ⟨wz.heap.size, 0, none⟩) 0 0 [] (some ⟨g, 0, none⟩) p c (fdsC (l.take p)) p (fdsC (l.take p)) (by omega) (by simp) rfl (.tmp 55) (.tmp 58) 75 (by rfl) (by rfl) (by rfl) Try.ulF8 Try.infoF8 rfl (by decide) (by exact HL1.out) (fdsC_one _) (by unfold maxLen; omega) (by omega) (by repeat (first | exact One.empty _ _ _ | exact One.second _ _ _ _ | refine One.drew ?_ | refine One.alloc ?_ _)) (by repeat (first | exact HTs.out | refine CellsAt.drewW ?_ | refine CellsAt.allocW ?_ _)) ?_; intro as3 cs3 ws3 hs3 gs3)
                  | (refine step_append_to wz wz.heap.size (some ⟨wz.heap.size + 1, 0, none⟩) 0 0 [] (some ⟨g, 0, none⟩) p c (fdsC (l.take p)) p (fdsC (l.take p)) (by omega) (by simp) rfl (.tmp 55) (.tmp 58) 75 (by rfl) (by rfl) (by rfl) Try.ulF8 Try.infoF8 rfl (by decide) (by exact HL1.out) (fdsC_one _) (by unfold maxLen; omega) (by omega) (by repeat (first | exact One.empty _ _ _ | exact One.second _ _ _ _ | refine One.drew ?_ | refine One.alloc ?_ _)) (by repeat (first | exact HTs.out | refine CellsAt.drewW ?_ | refine CellsAt.allocW ?_ _)) ?_; intro as3 cs3 ws3 hs3 gs3)
                  | (refine step_append_to wz wz.heap.size as3 p cs3 (fdsC (l.take p)) (some ⟨ws3.heap.size, 0, none⟩) 1 1 [.int .i64 d, .int .i64 x, .int .i64 y, .int .i64 z] (p + 1) (fdsC (l.take p) ++ [.int .i64 d, .int .i64 x, .int .i64 y, .int .i64 z]) (by omega) (by rfl) rfl (.tmp 59) (.tmp 61) 75 (by rfl) (by rfl) (by rfl) Try.ulF8 Try.infoF8 rfl (by decide) (by rfl) (by simp [Value.oneCell']) (by unfold maxLen; omega) (by omega) (by repeat (first | exact hs3 | refine One.drew ?_ | refine One.alloc ?_ _)) (by repeat (first | exact cellsAt_rec48 _ _ _ _ _ _ _ rfl | refine CellsAt.drewW ?_ | refine CellsAt.allocW ?_ _)) ?_; intro as4 cs4 ws4 hs4 gs4)
                  | (refine step_append_to wz wz.heap.size as3 p cs3 (fdsC (l.take p)) (some ⟨wz.heap.size + 1, 0, none⟩) 1 1 [.int .i64 d, .int .i64 x, .int .i64 y, .int .i64 z] (p + 1) (fdsC (l.take p) ++ [.int .i64 d, .int .i64 x, .int .i64 y, .int .i64 z]) (by omega) (by rfl) rfl (.tmp 59) (.tmp 61) 75 (by rfl) (by rfl) (by rfl) Try.ulF8 Try.infoF8 rfl (by decide) (by rfl) (by simp [Value.oneCell']) (by unfold maxLen; omega) (by omega) (by repeat (first | exact hs3 | refine One.drew ?_ | refine One.alloc ?_ _)) (by repeat (first | exact cellsAt_lit _ _ _ _ (by simp) | exact cellsAt_rec48 _ _ _ _ _ _ _ (by first | rfl | simp) | refine CellsAt.drewW ?_ | refine CellsAt.allocW ?_ _ | (refine CellsAt.grown ?_ gs3 ?_) | (intro b o hh; simp at hh; simp [Value.ownBlock]; omega))) ?_; intro as4 cs4 ws4 hs4 gs4)
                  | (refine step_append_to wz wz.heap.size as3 p cs3 (fdsC (l.take p)) (some ⟨wz.heap.size, 0, none⟩) 1 1 [.int .i64 d, .int .i64 x, .int .i64 y, .int .i64 z] (p + 1) (fdsC (l.take p) ++ [.int .i64 d, .int .i64 x, .int .i64 y, .int .i64 z]) (by omega) (by rfl) rfl (.tmp 59) (.tmp 61) 75 (by rfl) (by rfl) (by rfl) Try.ulF8 Try.infoF8 rfl (by decide) (by rfl) (by simp [Value.oneCell']) (by unfold maxLen; omega) (by omega) (by repeat (first | exact hs3 | refine One.drew ?_ | refine One.alloc ?_ _)) (by repeat (first | exact cellsAt_lit _ _ _ _ (by simp) | exact cellsAt_rec48 _ _ _ _ _ _ _ (by first | rfl | simp) | refine CellsAt.drewW ?_ | refine CellsAt.allocW ?_ _ | (refine CellsAt.grown ?_ gs3 ?_) | (intro b o hh; simp at hh; simp [Value.ownBlock]; omega))) ?_; intro as4 cs4 ws4 hs4 gs4)
                  | (refine step_append_to wz wz.heap.size as4 (p + 1) cs4 (fdsC (l.take p) ++ [.int .i64 d, .int .i64 x, .int .i64 y, .int .i64 z]) (some ⟨g, p * 4, none⟩) (n - p) (c - p) (fdsC (l.drop p)) (p + 1 + (n - p)) (fdsC (l.take p) ++ [.int .i64 d, .int .i64 x, .int .i64 y, .int .i64 z] ++ fdsC (l.drop p)) (by omega) (by simp) rfl (.tmp 62) (.tmp 65) 75 (by rfl) (by rfl) (by rfl) Try.ulF8 Try.infoF8 rfl (by decide) (by exact HL2.out) (fdsC_one _) (by unfold maxLen; omega) (by omega) (by repeat (first | exact hs4 | refine One.drew ?_)) (by repeat (first | exact HD.out _ hs4.below | refine CellsAt.drewW ?_)) ?_; intro as5 cs5 ws5 hs5 gs5)))
              all_goals go_wp2
              all_goals (
                go_ret
                obtain ⟨gs, rfl⟩ := hs5.addr (by omega)
                have hfin := hs5.under HOz.out.below HOz.out.base
                refine ⟨gs, _, _, rfl, ?_, ?_, HB0.out _ (Bz.trans (hs5.below.mono Bz.size))⟩
                · rw [HE.out]; simp; have := HN.out; omega
                · rw [HE.out, fdsC_append]
                  have e9 : fdsC ((d, x, y, z) :: l.drop p) = [.int .i64 d, .int .i64 x, .int .i64 y, .int .i64 z] ++ fdsC (l.drop p) := rfl
                  rw [e9, ← List.append_assoc]
                  exact hfin))
    · obtain rfl : p = n := by omega
      have HE : Hid (putF (d, x, y, z) l = l.take p ++ (d, x, y, z) :: l.drop p) := Lib.hid (by
        rw [putF_at8 (X := (d, x, y, z)) (by have := HN.out; omega) HP.out (fun h => by have := HN.out; omega)]
        rw [if_neg (by rw [List.getElem?_eq_none (by have := HN.out; omega)]; simp)])
      clear HP hone hp hpn
      go_wp2
      go_quiet (fail)
      go_wp2
      go_quiet (fail)
      go_wp2_with fail
      generalize hW : World.drewN _ _ = wz
      have Bz : Below w1.heap.size w1 wz := by rw [← hW]; first | exact below_drewN' (below_drewN' Bw _) _ | exact below_drewN' Bw _
      clear hW Bw b1 b2 b3 b4
      have HOz := Lib.hid (HO.out wz Bz)
      have HG := Lib.hid (show ∀ w', Below wz.heap.size wz w' → w'.cell? ⟨gx, 0, none⟩ = some (.int .i64 d) ∧ w'.cell? ⟨gx, 1, none⟩ = some (.int .i64 x) ∧ w'.cell? ⟨gx, 2, none⟩ = some (.int .i64 y) ∧ w'.cell? ⟨gx, 3, none⟩ = some (.int .i64 z) from fun w' h => HX.out w' (Bz.trans (h.mono Bz.size)))
      obtain ⟨b1, b2, b3, b4⟩ := HG.out wz (Below.refl _ _)
      have hbz : wz.heap.size ≤ wz.heap.size := Nat.le_refl _
      have hbel : Below wz.heap.size wz wz := Below.refl _ _
      have HTs := Lib.hid (show CellsAt wz (some ⟨g, 0, none⟩) (fdsC (l.take p)) by rw [← fdsC_take]; exact HOz.out.at_.upTo (p * 4))
      have HL1 := Lib.hid (show (fdsC (l.take p)).length = p * 4 by rw [fdsC_len, List.length_take, Nat.min_eq_left (by have := HN.out; omega)])
      have i1 : (0 : Int) ≤ (p : Int) := by omega
      have i2 : (p : Int) ≤ (c : Int) := by omega
      have i3 : (p : Int) ≤ (p : Int) := by omega
      have i4 : p ≤ c := by omega
      go_region_held3 (fun w' => w'.cell? ⟨gx, 0, none⟩ = some (.int .i64 d) ∧ w'.cell? ⟨gx, 1, none⟩ = some (.int .i64 x) ∧ w'.cell? ⟨gx, 2, none⟩ = some (.int .i64 y) ∧ w'.cell? ⟨gx, 3, none⟩ = some (.int .i64 z))
        (first | exact g3 | (refine HG.out _ ?_; first | exact hbel.trans (hs5.below.mono hbz) | exact hbel.trans (hs4.below.mono hbz) | (refine hbel.trans ?_; refine Below.mono ?_ hbz; (repeat (first | exact hs3.below | refine Below.drew ?_ | refine Below.alloc ?_ (by first | exact hs3.base | omega | (simp; omega)) _)); done) | ((repeat (first | exact hbel | refine Below.drew ?_ | refine Below.alloc ?_ (by first | exact Nat.le_refl _ | omega | (simp; done) | (simp; omega)) _)); done)))
        ((first
          | (refine step_append_to wz wz.heap.size (some ⟨wz.heap.size, 0, none⟩) 0 0 [] (some ⟨g, 0, none⟩) p c (fdsC (l.take p)) p (fdsC (l.take p)) (by omega) (by simp) rfl (.tmp 55) (.tmp 58) 75 (by rfl) (by rfl) (by rfl) Try.ulF8 Try.infoF8 rfl (by decide) (by exact HL1.out) (fdsC_one _) (by unfold maxLen; omega) (by omega) (by repeat (first | exact One.empty _ _ _ | exact One.second _ _ _ _ | refine One.drew ?_ | refine One.alloc ?_ _)) (by repeat (first | exact HTs.out | refine CellsAt.drewW ?_ | refine CellsAt.allocW ?_ _)) ?_; intro as3 cs3 ws3 hs3 gs3)
          | (refine step_append_to wz wz.heap.size (some ⟨wz.heap.size + 1, 0, none⟩) 0 0 [] (some ⟨g, 0, none⟩) p c (fdsC (l.take p)) p (fdsC (l.take p)) (by omega) (by simp) rfl (.tmp 55) (.tmp 58) 75 (by rfl) (by rfl) (by rfl) Try.ulF8 Try.infoF8 rfl (by decide) (by exact HL1.out) (fdsC_one _) (by unfold maxLen; omega) (by omega) (by repeat (first | exact One.empty _ _ _ | exact One.second _ _ _ _ | refine One.drew ?_ | refine One.alloc ?_ _)) (by repeat (first | exact HTs.out | refine CellsAt.drewW ?_ | refine CellsAt.allocW ?_ _)) ?_; intro as3 cs3 ws3 hs3 gs3)
          | (refine step_append_to wz wz.heap.size as3 p cs3 (fdsC (l.take p)) (some ⟨ws3.heap.size, 0, none⟩) 1 1 [.int .i64 d, .int .i64 x, .int .i64 y, .int .i64 z] (p + 1) (fdsC (l.take p) ++ [.int .i64 d, .int .i64 x, .int .i64 y, .int .i64 z]) (by omega) (by rfl) rfl (.tmp 59) (.tmp 61) 75 (by rfl) (by rfl) (by rfl) Try.ulF8 Try.infoF8 rfl (by decide) (by rfl) (by simp [Value.oneCell']) (by unfold maxLen; omega) (by omega) (by repeat (first | exact hs3 | refine One.drew ?_ | refine One.alloc ?_ _)) (by repeat (first | exact cellsAt_rec48 _ _ _ _ _ _ _ rfl | refine CellsAt.drewW ?_ | refine CellsAt.allocW ?_ _)) ?_; intro as4 cs4 ws4 hs4 gs4)
          | (refine step_append_to wz wz.heap.size as3 p cs3 (fdsC (l.take p)) (some ⟨wz.heap.size + 1, 0, none⟩) 1 1 [.int .i64 d, .int .i64 x, .int .i64 y, .int .i64 z] (p + 1) (fdsC (l.take p) ++ [.int .i64 d, .int .i64 x, .int .i64 y, .int .i64 z]) (by omega) (by rfl) rfl (.tmp 59) (.tmp 61) 75 (by rfl) (by rfl) (by rfl) Try.ulF8 Try.infoF8 rfl (by decide) (by rfl) (by simp [Value.oneCell']) (by unfold maxLen; omega) (by omega) (by repeat (first | exact hs3 | refine One.drew ?_ | refine One.alloc ?_ _)) (by repeat (first | exact cellsAt_lit _ _ _ _ (by simp) | exact cellsAt_rec48 _ _ _ _ _ _ _ (by first | rfl | simp) | refine CellsAt.drewW ?_ | refine CellsAt.allocW ?_ _ | (refine CellsAt.grown ?_ gs3 ?_) | (intro b o hh; simp at hh; simp [Value.ownBlock]; omega))) ?_; intro as4 cs4 ws4 hs4 gs4)
          | (refine step_append_to wz wz.heap.size as3 p cs3 (fdsC (l.take p)) (some ⟨wz.heap.size, 0, none⟩) 1 1 [.int .i64 d, .int .i64 x, .int .i64 y, .int .i64 z] (p + 1) (fdsC (l.take p) ++ [.int .i64 d, .int .i64 x, .int .i64 y, .int .i64 z]) (by omega) (by rfl) rfl (.tmp 59) (.tmp 61) 75 (by rfl) (by rfl) (by rfl) Try.ulF8 Try.infoF8 rfl (by decide) (by rfl) (by simp [Value.oneCell']) (by unfold maxLen; omega) (by omega) (by repeat (first | exact hs3 | refine One.drew ?_ | refine One.alloc ?_ _)) (by repeat (first | exact cellsAt_lit _ _ _ _ (by simp) | exact cellsAt_rec48 _ _ _ _ _ _ _ (by first | rfl | simp) | refine CellsAt.drewW ?_ | refine CellsAt.allocW ?_ _ | (refine CellsAt.grown ?_ gs3 ?_) | (intro b o hh; simp at hh; simp [Value.ownBlock]; omega))) ?_; intro as4 cs4 ws4 hs4 gs4)
          | (refine step_append_to wz wz.heap.size as4 (p + 1) cs4 (fdsC (l.take p) ++ [.int .i64 d, .int .i64 x, .int .i64 y, .int .i64 z]) _ 0 _ (fdsC []) (p + 1 + 0) (fdsC (l.take p) ++ [.int .i64 d, .int .i64 x, .int .i64 y, .int .i64 z] ++ fdsC []) (by omega) (by simp) rfl (.tmp 62) (.tmp 65) 75 (by rfl) (by rfl) (by rfl) Try.ulF8 Try.infoF8 rfl (by decide) (by rfl) (fdsC_one _) (by unfold maxLen; omega) (by omega) (by repeat (first | exact hs4 | refine One.drew ?_)) (by repeat (first | exact cellsAt_nil _ _ | refine CellsAt.drewW ?_)) ?_; intro as5 cs5 ws5 hs5 gs5)))
      all_goals go_wp2
      all_goals (
        go_ret
        obtain ⟨gs, rfl⟩ := hs5.addr (by omega)
        have hfin := hs5.under HOz.out.below HOz.out.base
        refine ⟨gs, _, _, rfl, ?_, ?_, HB0.out _ (Bz.trans (hs5.below.mono Bz.size))⟩
        · rw [HE.out]; simp; have := HN.out; omega
        · rw [HE.out, fdsC_append]
          have e9 : fdsC ((d, x, y, z) :: l.drop p) = [.int .i64 d, .int .i64 x, .int .i64 y, .int .i64 z] ++ fdsC [] := by rw [List.drop_of_length_le (by have := HN.out; omega)]; rfl
          rw [e9, ← List.append_assoc]
          exact hfin)

end Go.Proofs.Ytclblnkeakkdeaa
