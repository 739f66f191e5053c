/-
  The contract of the model's function l8Put: what is found put among others in order, once. Condition: rows have at most 2^41 records. (Written by wip/tools/ch8_put.py.)
  The contracts of the model's functions ShelfOfAll and AskAll. Conditions: texts have at most 2^20 bytes together. (Written by wip/tools/ch8_shelf.py.)
  The contract of the model's function AskShelf. Conditions: rows of at most 2^20 entries, texts of at most 2^20 bytes together. (Written by wip/tools/ch8_ask.py.)
  Plain mathematics of numbers in order. No conditions.
  Plain mathematics of merging two rows in order, of the place of a number in a row in order, and of counting pairs by texts. No conditions.
  Plain mathematics of pieces that are grown once for each shift: twins in order, the ends of pieces by shifts; twins by texts. No conditions.
-/
import Derived.Test.YtbnagmjhdnnheaaMg3
import Derived.Test.YtbnagmjhdnnheaaMg4
import Derived.Deep.Cut
import Derived.Deep.DeepCutAuto
import Derived.Test.YtbnagmjhdnnheaaMg2
namespace Go.Proofs.Ytbnagmjhdnnheaa
open Go.RowKit

theorem Try.ulF8 : Try.prog.underlying 59 = some (.slice 101) := by kernel_rfl
theorem Try.infoF8 : (Try.prog.info? 101).map (fun i => (i.zero, i.size, i.bytes)) = some (some (.agg #[.int .i64 0, .int .i64 0, .int .i64 0, .int .i64 0]), 4, 32) := by kernel_rfl
theorem cellsAt_rec48 (w : World) (e : TypeId) (a b c d : Value) (g : Nat) (hg : g = w.heap.size) : CellsAt (w.alloc (.cells #[a, b, c, d] e)) (some ⟨g, 0, none⟩) [a, b, c, d] := cellsAt_lit7 w e #[a, b, c, d] g hg
theorem putF_at8 {l : List Fd} {X : Fd} {p : Nat} (hp : p ≤ l.length) (h1 : ∀ i, i < p → ∀ h : i < l.length, fdLt l[i] X) (h2 : ∀ h : p < l.length, ¬ fdLt l[p] X) : putF X l = if l[p]? = some X then l else l.take p ++ X :: l.drop p := by
  have e := atF_is X l p hp h1 h2
  rw [putF, e]

set_option maxRecDepth 8000 in
set_option maxHeartbeats 40000000 in
theorem specPut8_any (l : List Fd) (d x y z : Int) (g n c B : Nat) (W w : World) (hn : n = l.length) (hl : n ≤ 2199023255552) (hone : One W B w 101 4 (some ⟨g, 0, none⟩) n c (fdsC l)) :
    Calls Try.prog 77 #[.slice (some ⟨g, 0, none⟩) n c, .agg #[.int .i64 d, .int .i64 x, .int .i64 y, .int .i64 z]] w fun e w' => ∃ g' n' c', e = .returned (.slice (some ⟨g', 0, none⟩) n' c') ∧ n' = (putF (d, x, y, z) l).length ∧ One W B w' 101 4 (some ⟨g', 0, none⟩) n' c' (fdsC (putF (d, x, y, z) l)) ∧ Below w.heap.size w w' := by
  have HN := Lib.hid hn
  have hcap := hone.cap
  obtain ⟨hnc, hc9⟩ := hcap
  have hbx : Below w.heap.size w (w.alloc (.cells #[.int .i64 d, .int .i64 x, .int .i64 y, .int .i64 z] 101)) := (Below.refl _ _).alloc (Nat.le_refl _) _
  obtain ⟨gx, hgx⟩ : ∃ gx, w.heap.size = gx := ⟨_, rfl⟩
  have hx0 : (w.alloc (.cells #[.int .i64 d, .int .i64 x, .int .i64 y, .int .i64 z] 101)).cell? ⟨gx, 0, none⟩ = some (.int .i64 d) ∧ (w.alloc (.cells #[.int .i64 d, .int .i64 x, .int .i64 y, .int .i64 z] 101)).cell? ⟨gx, 1, none⟩ = some (.int .i64 x) ∧ (w.alloc (.cells #[.int .i64 d, .int .i64 x, .int .i64 y, .int .i64 z] 101)).cell? ⟨gx, 2, none⟩ = some (.int .i64 y) ∧ (w.alloc (.cells #[.int .i64 d, .int .i64 x, .int .i64 y, .int .i64 z] 101)).cell? ⟨gx, 3, none⟩ = some (.int .i64 z) := by
    subst hgx
    exact ⟨cell_of_row _ w.heap.size 0 _ _ (0, 0) (heap_alloc_new w _), cell_of_row _ w.heap.size 1 _ _ (0, 0) (heap_alloc_new w _), cell_of_row _ w.heap.size 2 _ _ (0, 0) (heap_alloc_new w _), cell_of_row _ w.heap.size 3 _ _ (0, 0) (heap_alloc_new w _)⟩
  have hone1 := hone.alloc (.cells #[.int .i64 d, .int .i64 x, .int .i64 y, .int .i64 z] 101)
  have hgx1 : gx < (w.alloc (.cells #[.int .i64 d, .int .i64 x, .int .i64 y, .int .i64 z] 101)).heap.size := by rw [← hgx]; simp
  have HGX := Lib.hid hgx
  have HB0' := Lib.hid hbx
  clear hn hone hbx hgx
  go_enter Try.func77, Try.ntmps77
  go_wp2
  rw [HGX.out]
  generalize hw1 : w.alloc (.cells #[.int .i64 d, .int .i64 x, .int .i64 y, .int .i64 z] 101) = w1
  have HB0 := Lib.hid (show ∀ w', Below w1.heap.size w1 w' → Below w.heap.size w w' from fun w' h => by have h2 := HB0'.out; rw [HGX.out, hw1] at h2; rw [HGX.out]; exact h2.trans (h.mono (Nat.le_of_lt (by rw [← hw1]; exact hgx1))))
  rw [hw1] at hx0 hone1 hgx1
  clear hw1 HB0'
  have HX := Lib.hid (show ∀ w', Below w1.heap.size w1 w' → w'.cell? ⟨gx, 0, none⟩ = some (.int .i64 d) ∧ w'.cell? ⟨gx, 1, none⟩ = some (.int .i64 x) ∧ w'.cell? ⟨gx, 2, none⟩ = some (.int .i64 y) ∧ w'.cell? ⟨gx, 3, none⟩ = some (.int .i64 z) from fun w' h => ⟨below_ents7 h hgx1 hx0.1, below_ents7 h hgx1 hx0.2.1, below_ents7 h hgx1 hx0.2.2.1, below_ents7 h hgx1 hx0.2.2.2⟩)
  have HO := Lib.hid (show ∀ w', Below w1.heap.size w1 w' → One W B w' 101 4 (some ⟨g, 0, none⟩) n c (fdsC l) from fun w' h => hone1.later h)
  clear hx0 hone1
  go_loopw [5] (fun p_ wr => ∃ p : Nat, p ≤ n ∧ p_ = .int .i64 p ∧ Hid (∀ i, i < p → ∀ h : i < l.length, fdLt l[i] (d, x, y, z)) ∧ Below w1.heap.size w1 wr) (fun p_ _ => n - (intOf p_).toNat)
  case atStart => exact ⟨0, Nat.zero_le _, rfl, Lib.hid (fun i h => absurd h (Nat.not_lt_zero _)), Below.refl _ _⟩
  case round =>
    obtain ⟨p, hp, rfl, HP, Bw⟩ := hrel
    obtain ⟨b1, b2, b3, b4⟩ := HX.out wr Bw
    have hone := HO.out wr Bw
    by_cases hpn : p < n
    · have hpl : p < l.length := by have := HN.out; omega
      obtain ⟨d', hd0⟩ : ∃ x', l[p].1 = x' := ⟨_, rfl⟩
      obtain ⟨x', hx⟩ : ∃ x', l[p].2.1 = x' := ⟨_, rfl⟩
      obtain ⟨y', hy⟩ : ∃ y', l[p].2.2.1 = y' := ⟨_, rfl⟩
      obtain ⟨z', hz⟩ : ∃ z', l[p].2.2.2 = z' := ⟨_, rfl⟩
      have hm : l[p] = (d', x', y', z') := by rw [← hd0, ← hx, ← hy, ← hz]
      obtain ⟨g', o', hgo, hg9, g1, g2, g3, g4⟩ := fd_cells hone.at_ hpl hm
      obtain ⟨rfl, rfl⟩ := (by simpa using hgo : g = g' ∧ 0 = o')
      rw [Nat.zero_add] at g1 g2 g3 g4
      have HM := Lib.hid hm
      have z1 : (p : Int) < (n : Int) := by omega
      have z2 : (0 : Int) ≤ (p : Int) := by omega
      have hgxr : gx < wr.heap.size := Nat.lt_of_lt_of_le hgx1 Bw.size
      have HKS := Lib.hid (show ∀ w', Below wr.heap.size wr w' → (w'.cell? ⟨gx, 0, none⟩ = some (.int .i64 d) ∧ w'.cell? ⟨gx, 1, none⟩ = some (.int .i64 x) ∧ w'.cell? ⟨gx, 2, none⟩ = some (.int .i64 y) ∧ w'.cell? ⟨gx, 3, none⟩ = some (.int .i64 z)) ∧ w'.cell? ⟨g, p * 4, none⟩ = some (.int .i64 d') ∧ w'.cell? ⟨g, p * 4 + 1, none⟩ = some (.int .i64 x') ∧ w'.cell? ⟨g, p * 4 + 2, none⟩ = some (.int .i64 y') ∧ w'.cell? ⟨g, p * 4 + 3, none⟩ = some (.int .i64 z') from fun w' h => ⟨⟨below_ents7 h hgxr b1, below_ents7 h hgxr b2, below_ents7 h hgxr b3, below_ents7 h hgxr b4⟩, below_ents7 h hg9 g1, below_ents7 h hg9 g2, below_ents7 h hg9 g3, below_ents7 h hg9 g4⟩)
      have t1 : decide (p < n) = true := decide_eq_true hpn
      clear hd0 hx hy hz hm hgo
      by_cases hlt : fdLt (d', x', y', z') (d, x, y, z)
      · have HP2 := Lib.hid (show ∀ i, i < p + 1 → ∀ h : i < l.length, fdLt l[i] (d, x, y, z) from fun i h1 h2 => by
          by_cases e : i = p
          · subst e; rw [HM.out]; exact hlt
          · exact HP.out i (by omega) h2)
        have hways : d' < d ∨ d' = d ∧ enLt (x', y', z') (x, y, z) := hlt
        clear hlt HP hone
        rcases hways with hd | ⟨hd, hlt⟩
        · have td : decide (d' < d) = true := decide_eq_true hd
          go_wp2
          go_quiet (fail)
          go_wp2
          go_roundw
          case rel => exact ⟨p + 1, by omega, by go_num, HP2, below_drewN' Bw _⟩
          case measure => simp [intOf]; omega
        · obtain rfl : d = d' := hd.symm
          have td : decide (d < d) = false := decide_eq_false (Int.lt_irrefl _)
          have te : (d == d) = true := beq_self_eq_true _
          have c1 := fun w => specLess7_is true x' y' z' x y z w ⟨fun _ => hlt, fun _ => rfl⟩
          clear hlt
          go_wp2
          go_region_held3 (fun w' => (w'.cell? ⟨gx, 0, none⟩ = some (.int .i64 d) ∧ w'.cell? ⟨gx, 1, none⟩ = some (.int .i64 x) ∧ w'.cell? ⟨gx, 2, none⟩ = some (.int .i64 y) ∧ w'.cell? ⟨gx, 3, none⟩ = some (.int .i64 z)) ∧ w'.cell? ⟨g, p * 4, none⟩ = some (.int .i64 d) ∧ w'.cell? ⟨g, p * 4 + 1, none⟩ = some (.int .i64 x') ∧ w'.cell? ⟨g, p * 4 + 2, none⟩ = some (.int .i64 y') ∧ w'.cell? ⟨g, p * 4 + 3, none⟩ = some (.int .i64 z')) (first | go_keep | exact HKS.out _ (Below.trans (by repeat (first | exact Below.refl _ _ | refine Below.drew ?_ | refine below_drewN' ?_ _)) (hb5.mono (by simp))))
            ((go_at_call 90; refine (c1 _).mono ?_; rintro e w5 ⟨rfl, hb5⟩))
          go_wp2
          go_roundw
          case rel => exact ⟨p + 1, by omega, by go_num, HP2, Bw.trans (Below.mono (Below.trans (by repeat (first | exact Below.refl _ _ | refine Below.drew ?_ | refine below_drewN' ?_ _)) (hb5.mono (by simp))) Bw.size)⟩
          case measure => simp [intOf]; omega
      · have hput := putF_at8 (X := (d, x, y, z)) (by have := HN.out; omega) HP.out (fun h => by rw [HM.out]; exact hlt)
        rw [List.getElem?_eq_getElem hpl, HM.out] at hput
        have HPUT := Lib.hid hput
        have hways : d < d' ∨ d' = d ∧ ¬ enLt (x', y', z') (x, y, z) := by
          rcases Int.lt_trichotomy d d' with h | h | h
          · exact .inl h
          · exact .inr ⟨h.symm, fun h2 => hlt (.inr ⟨h.symm, h2⟩)⟩
          · exact absurd (.inl h) hlt
        clear hlt HP hone hput
        rcases hways with hd | ⟨hd, hlt⟩
        · have td : decide (d' < d) = false := decide_eq_false (by omega)
          have te : (d' == d) = false := beq_eq_false_iff_ne.2 (by omega)
          have HE := Lib.hid (HPUT.out.trans (if_neg (fun h => by injection h with h; simp only [Prod.mk.injEq] at h; omega)))
          go_wp2
          go_quiet (fail)
          have W5 : Below wr.heap.size wr (wr.drewN nq) := below_drewN' (Below.refl _ _) nq
          generalize wr.drewN nq = w5 at W5 ⊢
          obtain ⟨⟨b1, b2, b3, b4⟩, g1, g2, g3, g4⟩ := HKS.out w5 W5
          have B5 : Below w1.heap.size w1 w5 := Bw.trans (W5.mono Bw.size)
          clear HKS W5 Bw
          go_wp2
          go_quiet (fail)
          go_wp2_with fail
          generalize hW : World.drewN _ _ = wz
          have Bz : Below w1.heap.size w1 wz := by rw [← hW]; exact below_drewN' B5 _
          clear hW B5 b1 b2 b3 b4 g1 g2 g3 g4
          have HOz := Lib.hid (HO.out wz Bz)
          have HG := Lib.hid (show ∀ w', Below wz.heap.size wz w' → w'.cell? ⟨gx, 0, none⟩ = some (.int .i64 d) ∧ w'.cell? ⟨gx, 1, none⟩ = some (.int .i64 x) ∧ w'.cell? ⟨gx, 2, none⟩ = some (.int .i64 y) ∧ w'.cell? ⟨gx, 3, none⟩ = some (.int .i64 z) from fun w' h => HX.out w' (Bz.trans (h.mono Bz.size)))
          obtain ⟨b1, b2, b3, b4⟩ := HG.out wz (Below.refl _ _)
          have hbz : wz.heap.size ≤ wz.heap.size := Nat.le_refl _
          have hbel : Below wz.heap.size wz wz := Below.refl _ _
          have HTs := Lib.hid (show CellsAt wz (some ⟨g, 0, none⟩) (fdsC (l.take p)) by rw [← fdsC_take]; exact HOz.out.at_.upTo (p * 4))
          have HL1 := Lib.hid (show (fdsC (l.take p)).length = p * 4 by rw [fdsC_len, List.length_take, Nat.min_eq_left (by have := HN.out; omega)])
          have HD := Lib.hid (fun (w' : World) (hb : Below wz.heap.size wz w') => (show CellsAt wz (some ⟨g, p * 4, none⟩) (fdsC (l.drop p)) by rw [← fdsC_drop]; have h := HOz.out.at_.from_lit (p * 4); rwa [Nat.zero_add] at h).below hb)
          have HL2 := Lib.hid (show (fdsC (l.drop p)).length = (n - p) * 4 by rw [fdsC_len, List.length_drop, HN.out])
          have i5 : ¬ c = p := by omega
          have i1 : (0 : Int) ≤ (p : Int) := by omega
          have i2 : (p : Int) ≤ (c : Int) := by omega
          have i3 : (p : Int) ≤ (n : Int) := by omega
          have i4 : p ≤ c := by omega
          go_region_held3 (fun w' => w'.cell? ⟨gx, 0, none⟩ = some (.int .i64 d) ∧ w'.cell? ⟨gx, 1, none⟩ = some (.int .i64 x) ∧ w'.cell? ⟨gx, 2, none⟩ = some (.int .i64 y) ∧ w'.cell? ⟨gx, 3, none⟩ = some (.int .i64 z))
            (first | exact g3 | (refine HG.out _ ?_; first | exact hbel.trans (hs5.below.mono hbz) | exact hbel.trans (hs4.below.mono hbz) | (refine hbel.trans ?_; refine Below.mono ?_ hbz; (repeat (first | exact hs3.below | refine Below.drew ?_ | refine Below.alloc ?_ (by first | exact hs3.base | omega | (simp; omega)) _)); done) | ((repeat (first | exact hbel | refine Below.drew ?_ | refine Below.alloc ?_ (by first | exact Nat.le_refl _ | omega | (simp; done) | (simp; omega)) _)); done)))
            ((first
              | (refine step_append_to wz wz.heap.size (some ⟨wz.heap.size, 0, none⟩) 0 0 [] (some ⟨g, 0, none⟩) p c (fdsC (l.take p)) p (fdsC (l.take p)) (by omega) (by simp) rfl (.tmp 55) (.tmp 58) 59 (by rfl) (by rfl) (by rfl) Try.ulF8 Try.infoF8 rfl (by decide) (by exact HL1.out) (fdsC_one _) (by unfold maxLen; omega) (by omega) (by repeat (first | exact One.empty _ _ _ | exact One.second _ _ _ _ | refine One.drew ?_ | refine One.alloc ?_ _)) (by repeat (first | exact HTs.out | refine CellsAt.drewW ?_ | refine CellsAt.allocW ?_ _)) ?_; intro as3 cs3 ws3 hs3 gs3)
              | (refine step_append_to wz wz.heap.size (some ⟨wz.heap.size + 1, 0, none⟩) 0 0 [] (some ⟨g, 0, none⟩) p c (fdsC (l.take p)) p (fdsC (l.take p)) (by omega) (by simp) rfl (.tmp 55) (.tmp 58) 59 (by rfl) (by rfl) (by rfl) Try.ulF8 Try.infoF8 rfl (by decide) (by exact HL1.out) (fdsC_one _) (by unfold maxLen; omega) (by omega) (by repeat (first | exact One.empty _ _ _ | exact One.second _ _ _ _ | refine One.drew ?_ | refine One.alloc ?_ _)) (by repeat (first | exact HTs.out | refine CellsAt.drewW ?_ | refine CellsAt.allocW ?_ _)) ?_; intro as3 cs3 ws3 hs3 gs3)
              | (refine step_append_to wz wz.heap.size as3 p cs3 (fdsC (l.take p)) (some ⟨ws3.heap.size, 0, none⟩) 1 1 [.int .i64 d, .int .i64 x, .int .i64 y, .int .i64 z] (p + 1) (fdsC (l.take p) ++ [.int .i64 d, .int .i64 x, .int .i64 y, .int .i64 z]) (by omega) (by rfl) rfl (.tmp 59) (.tmp 61) 59 (by rfl) (by rfl) (by rfl) Try.ulF8 Try.infoF8 rfl (by decide) (by rfl) (by simp [Value.oneCell']) (by unfold maxLen; omega) (by omega) (by repeat (first | exact hs3 | refine One.drew ?_ | refine One.alloc ?_ _)) (by repeat (first | exact cellsAt_rec48 _ _ _ _ _ _ _ rfl | refine CellsAt.drewW ?_ | refine CellsAt.allocW ?_ _)) ?_; intro as4 cs4 ws4 hs4 gs4)
              | (refine step_append_to wz wz.heap.size as3 p cs3 (fdsC (l.take p)) (some ⟨wz.heap.size + 1, 0, none⟩) 1 1 [.int .i64 d, .int .i64 x, .int .i64 y, .int .i64 z] (p + 1) (fdsC (l.take p) ++ [.int .i64 d, .int .i64 x, .int .i64 y, .int .i64 z]) (by omega) (by rfl) rfl (.tmp 59) (.tmp 61) 59 (by rfl) (by rfl) (by rfl) Try.ulF8 Try.infoF8 rfl (by decide) (by rfl) (by simp [Value.oneCell']) (by unfold maxLen; omega) (by omega) (by repeat (first | exact hs3 | refine One.drew ?_ | refine One.alloc ?_ _)) (by repeat (first | exact cellsAt_lit _ _ _ _ (by simp) | exact cellsAt_rec48 _ _ _ _ _ _ _ (by first | rfl | simp) | refine CellsAt.drewW ?_ | refine CellsAt.allocW ?_ _ | (refine CellsAt.grown ?_ gs3 ?_) | (intro b o hh; simp at hh; simp [Value.ownBlock]; omega))) ?_; intro as4 cs4 ws4 hs4 gs4)
              | (refine step_append_to wz wz.heap.size as3 p cs3 (fdsC (l.take p)) (some ⟨wz.heap.size, 0, none⟩) 1 1 [.int .i64 d, .int .i64 x, .int .i64 y, .int .i64 z] (p + 1) (fdsC (l.take p) ++ [.int .i64 d, .int .i64 x, .int .i64 y, .int .i64 z]) (by omega) (by rfl) rfl (.tmp 59) (.tmp 61) 59 (by rfl) (by rfl) (by rfl) Try.ulF8 Try.infoF8 rfl (by decide) (by rfl) (by simp [Value.oneCell']) (by unfold maxLen; omega) (by omega) (by repeat (first | exact hs3 | refine One.drew ?_ | refine One.alloc ?_ _)) (by repeat (first | exact cellsAt_lit _ _ _ _ (by simp) | exact cellsAt_rec48 _ _ _ _ _ _ _ (by first | rfl | simp) | refine CellsAt.drewW ?_ | refine CellsAt.allocW ?_ _ | (refine CellsAt.grown ?_ gs3 ?_) | (intro b o hh; simp at hh; simp [Value.ownBlock]; omega))) ?_; intro as4 cs4 ws4 hs4 gs4)
              | (refine step_append_to wz wz.heap.size as4 (p + 1) cs4 (fdsC (l.take p) ++ [.int .i64 d, .int .i64 x, .int .i64 y, .int .i64 z]) (some ⟨g, p * 4, none⟩) (n - p) (c - p) (fdsC (l.drop p)) (p + 1 + (n - p)) (fdsC (l.take p) ++ [.int .i64 d, .int .i64 x, .int .i64 y, .int .i64 z] ++ fdsC (l.drop p)) (by omega) (by simp) rfl (.tmp 62) (.tmp 65) 59 (by rfl) (by rfl) (by rfl) Try.ulF8 Try.infoF8 rfl (by decide) (by exact HL2.out) (fdsC_one _) (by unfold maxLen; omega) (by omega) (by repeat (first | exact hs4 | refine One.drew ?_)) (by repeat (first | exact HD.out _ hs4.below | refine CellsAt.drewW ?_)) ?_; intro as5 cs5 ws5 hs5 gs5)))
          all_goals go_wp2
          all_goals (
            go_ret
            obtain ⟨gs, rfl⟩ := hs5.addr (by omega)
            have hfin := hs5.under HOz.out.below HOz.out.base
            refine ⟨gs, _, _, rfl, ?_, ?_, HB0.out _ (Bz.trans (hs5.below.mono Bz.size))⟩
            · rw [HE.out]; simp; have := HN.out; omega
            · rw [HE.out, fdsC_append]
              have e9 : fdsC ((d, x, y, z) :: l.drop p) = [.int .i64 d, .int .i64 x, .int .i64 y, .int .i64 z] ++ fdsC (l.drop p) := rfl
              rw [e9, ← List.append_assoc]
              exact hfin)
        · obtain rfl : d = d' := hd.symm
          have td : decide (d < d) = false := decide_eq_false (Int.lt_irrefl _)
          have te : (d == d) = true := beq_self_eq_true _
          have c1 := fun w => specLess7_is false x' y' z' x y z w ⟨(fun h => absurd h (by decide)), (fun h => absurd h hlt)⟩
          clear hlt
          go_wp2
          go_region_held3 (fun w' => (w'.cell? ⟨gx, 0, none⟩ = some (.int .i64 d) ∧ w'.cell? ⟨gx, 1, none⟩ = some (.int .i64 x) ∧ w'.cell? ⟨gx, 2, none⟩ = some (.int .i64 y) ∧ w'.cell? ⟨gx, 3, none⟩ = some (.int .i64 z)) ∧ w'.cell? ⟨g, p * 4, none⟩ = some (.int .i64 d) ∧ w'.cell? ⟨g, p * 4 + 1, none⟩ = some (.int .i64 x') ∧ w'.cell? ⟨g, p * 4 + 2, none⟩ = some (.int .i64 y') ∧ w'.cell? ⟨g, p * 4 + 3, none⟩ = some (.int .i64 z')) (first | go_keep | exact HKS.out _ (Below.trans (by repeat (first | exact Below.refl _ _ | refine Below.drew ?_ | refine below_drewN' ?_ _)) (hb5.mono (by simp))))
            ((go_at_call 90; refine (c1 _).mono ?_; rintro e w5 ⟨rfl, hb5⟩))
          have W5 : Below wr.heap.size wr w5 := (Below.trans (by repeat (first | exact Below.refl _ _ | refine Below.drew ?_ | refine below_drewN' ?_ _)) (hb5.mono (by simp)))
          obtain ⟨⟨b1, b2, b3, b4⟩, g1, g2, g3, g4⟩ := HKS.out w5 W5
          have B5 : Below w1.heap.size w1 w5 := Bw.trans (W5.mono Bw.size)
          clear hb5 HKS c1 W5 Bw
          by_cases he : (x', y', z') = (x, y, z)
          · have HE := Lib.hid (HPUT.out.trans (if_pos (by rw [he])))
            simp only [Prod.mk.injEq] at he
            obtain ⟨rfl, rfl, rfl⟩ := he
            have tx : (x' == x') = true := beq_self_eq_true _
            have ty : (y' == y') = true := beq_self_eq_true _
            have tz : (z' == z') = true := beq_self_eq_true _
            go_wp2
            go_quiet (fail)
            go_wp2
            go_ret
            have HOn := HO.out w5 B5
            exact ⟨_, _, _, rfl, by rw [HE.out]; exact HN.out, by rw [HE.out]; exact HOn.drewN _, HB0.out _ (below_drewN' B5 _)⟩
          · have HE := Lib.hid (HPUT.out.trans (if_neg (fun h => he (by injection h with h; simp only [Prod.mk.injEq, true_and] at h ⊢; exact h))))
            have hcase : (x' == x) = false ∨ (x' == x) = true ∧ ((y' == y) = false ∨ (y' == y) = true ∧ (z' == z) = false) := by
              by_cases h1 : x' = x
              · by_cases h2 : y' = y
                · by_cases h3 : z' = z
                  · exact absurd (by rw [h1, h2, h3]) he
                  · exact .inr ⟨by simpa using h1, .inr ⟨by simpa using h2, by simpa using h3⟩⟩
                · exact .inr ⟨by simpa using h1, .inl (by simpa using h2)⟩
              · exact .inl (by simpa using h1)
            clear he
            rcases hcase with t1 | ⟨t1, t2 | ⟨t2, t3⟩⟩
            all_goals (
              go_wp2
              go_quiet (fail)
              go_wp2_with fail
              generalize hW : World.drewN _ _ = wz
              have Bz : Below w1.heap.size w1 wz := by rw [← hW]; exact below_drewN' B5 _
              clear hW B5 b1 b2 b3 b4 g1 g2 g3 g4
              have HOz := Lib.hid (HO.out wz Bz)
              have HG := Lib.hid (show ∀ w', Below wz.heap.size wz w' → w'.cell? ⟨gx, 0, none⟩ = some (.int .i64 d) ∧ w'.cell? ⟨gx, 1, none⟩ = some (.int .i64 x) ∧ w'.cell? ⟨gx, 2, none⟩ = some (.int .i64 y) ∧ w'.cell? ⟨gx, 3, none⟩ = some (.int .i64 z) from fun w' h => HX.out w' (Bz.trans (h.mono Bz.size)))
              obtain ⟨b1, b2, b3, b4⟩ := HG.out wz (Below.refl _ _)
              have hbz : wz.heap.size ≤ wz.heap.size := Nat.le_refl _
              have hbel : Below wz.heap.size wz wz := Below.refl _ _
              have HTs := Lib.hid (show CellsAt wz (some ⟨g, 0, none⟩) (fdsC (l.take p)) by rw [← fdsC_take]; exact HOz.out.at_.upTo (p * 4))
              have HL1 := Lib.hid (show (fdsC (l.take p)).length = p * 4 by rw [fdsC_len, List.length_take, Nat.min_eq_left (by have := HN.out; omega)])
              have HD := Lib.hid (fun (w' : World) (hb : Below wz.heap.size wz w') => (show CellsAt wz (some ⟨g, p * 4, none⟩) (fdsC (l.drop p)) by rw [← fdsC_drop]; have h := HOz.out.at_.from_lit (p * 4); rwa [Nat.zero_add] at h).below hb)
              have HL2 := Lib.hid (show (fdsC (l.drop p)).length = (n - p) * 4 by rw [fdsC_len, List.length_drop, HN.out])
              have i5 : ¬ c = p := by omega
              have i1 : (0 : Int) ≤ (p : Int) := by omega
              have i2 : (p : Int) ≤ (c : Int) := by omega
              have i3 : (p : Int) ≤ (n : Int) := by omega
              have i4 : p ≤ c := by omega
              go_region_held3 (fun w' => w'.cell? ⟨gx, 0, none⟩ = some (.int .i64 d) ∧ w'.cell? ⟨gx, 1, none⟩ = some (.int .i64 x) ∧ w'.cell? ⟨gx, 2, none⟩ = some (.int .i64 y) ∧ w'.cell? ⟨gx, 3, none⟩ = some (.int .i64 z))
                (first | exact g3 | (refine HG.out _ ?_; first | exact hbel.trans (hs5.below.mono hbz) | exact hbel.trans (hs4.below.mono hbz) | (refine hbel.trans ?_; refine Below.mono ?_ hbz; (repeat (first | exact hs3.below | refine Below.drew ?_ | refine Below.alloc ?_ (by first | exact hs3.base | omega | (simp; omega)) _)); done) | ((repeat (first | exact hbel | refine Below.drew ?_ | refine Below.alloc ?_ (by first | exact Nat.le_refl _ | omega | (simp; done) | (simp; omega)) _)); done)))
                ((first
                  | (refine step_append_to wz wz.heap.size (some ⟨wz.heap.size, 0, none⟩) 0 0 [] (some ⟨g, 0, none⟩) p c (fdsC (l.take p)) p (fdsC (l.take p)) (by omega) (by simp) rfl (.tmp 55) (.tmp 58) 59 (by rfl) (by rfl) (by rfl) Try.ulF8 Try.infoF8 rfl (by decide) (by exact HL1.out) (fdsC_one _) (by unfold maxLen; omega) (by omega) (by repeat (first | exact One.empty _ _ _ | exact One.second _ _ _ _ | refine One.drew ?_ | refine One.alloc ?_ _)) (by repeat (first | exact HTs.out | refine CellsAt.drewW ?_ | refine CellsAt.allocW ?_ _)) ?_; intro as3 cs3 ws3 hs3 gs3)
                  | (refine step_append_to wz wz.heap.size (some ⟨wz.heap.size + 1, 0, none⟩) 0 0 [] (some ⟨g, 0, none⟩) p c (fdsC (l.take p)) p (fdsC (l.take p)) (by omega) (by simp) rfl (.tmp 55) (.tmp 58) 59 (by rfl) (by rfl) (by rfl) Try.ulF8 Try.infoF8 rfl (by decide) (by exact HL1.out) (fdsC_one _) (by unfold maxLen; omega) (by omega) (by repeat (first | exact One.empty _ _ _ | exact One.second _ _ _ _ | refine One.drew ?_ | refine One.alloc ?_ _)) (by repeat (first | exact HTs.out | refine CellsAt.drewW ?_ | refine CellsAt.allocW ?_ _)) ?_; intro as3 cs3 ws3 hs3 gs3)
                  | (refine step_append_to wz wz.heap.size as3 p cs3 (fdsC (l.take p)) (some ⟨ws3.heap.size, 0, none⟩) 1 1 [.int .i64 d, .int .i64 x, .int .i64 y, .int .i64 z] (p + 1) (fdsC (l.take p) ++ [.int .i64 d, .int .i64 x, .int .i64 y, .int .i64 z]) (by omega) (by rfl) rfl (.tmp 59) (.tmp 61) 59 (by rfl) (by rfl) (by rfl) Try.ulF8 Try.infoF8 rfl (by decide) (by rfl) (by simp [Value.oneCell']) (by unfold maxLen; omega) (by omega) (by repeat (first | exact hs3 | refine One.drew ?_ | refine One.alloc ?_ _)) (by repeat (first | exact cellsAt_rec48 _ _ _ _ _ _ _ rfl | refine CellsAt.drewW ?_ | refine CellsAt.allocW ?_ _)) ?_; intro as4 cs4 ws4 hs4 gs4)
                  | (refine step_append_to wz wz.heap.size as3 p cs3 (fdsC (l.take p)) (some ⟨wz.heap.size + 1, 0, none⟩) 1 1 [.int .i64 d, .int .i64 x, .int .i64 y, .int .i64 z] (p + 1) (fdsC (l.take p) ++ [.int .i64 d, .int .i64 x, .int .i64 y, .int .i64 z]) (by omega) (by rfl) rfl (.tmp 59) (.tmp 61) 59 (by rfl) (by rfl) (by rfl) Try.ulF8 Try.infoF8 rfl (by decide) (by rfl) (by simp [Value.oneCell']) (by unfold maxLen; omega) (by omega) (by repeat (first | exact hs3 | refine One.drew ?_ | refine One.alloc ?_ _)) (by repeat (first | exact cellsAt_lit _ _ _ _ (by simp) | exact cellsAt_rec48 _ _ _ _ _ _ _ (by first | rfl | simp) | refine CellsAt.drewW ?_ | refine CellsAt.allocW ?_ _ | (refine CellsAt.grown ?_ gs3 ?_) | (intro b o hh; simp at hh; simp [Value.ownBlock]; omega))) ?_; intro as4 cs4 ws4 hs4 gs4)
                  | (refine step_append_to wz wz.heap.size as3 p cs3 (fdsC (l.take p)) (some ⟨wz.heap.size, 0, none⟩) 1 1 [.int .i64 d, .int .i64 x, .int .i64 y, .int .i64 z] (p + 1) (fdsC (l.take p) ++ [.int .i64 d, .int .i64 x, .int .i64 y, .int .i64 z]) (by omega) (by rfl) rfl (.tmp 59) (.tmp 61) 59 (by rfl) (by rfl) (by rfl) Try.ulF8 Try.infoF8 rfl (by decide) (by rfl) (by simp [Value.oneCell']) (by unfold maxLen; omega) (by omega) (by repeat (first | exact hs3 | refine One.drew ?_ | refine One.alloc ?_ _)) (by repeat (first | exact cellsAt_lit _ _ _ _ (by simp) | exact cellsAt_rec48 _ _ _ _ _ _ _ (by first | rfl | simp) | refine CellsAt.drewW ?_ | refine CellsAt.allocW ?_ _ | (refine CellsAt.grown ?_ gs3 ?_) | (intro b o hh; simp at hh; simp [Value.ownBlock]; omega))) ?_; intro as4 cs4 ws4 hs4 gs4)
                  | (refine step_append_to wz wz.heap.size as4 (p + 1) cs4 (fdsC (l.take p) ++ [.int .i64 d, .int .i64 x, .int .i64 y, .int .i64 z]) (some ⟨g, p * 4, none⟩) (n - p) (c - p) (fdsC (l.drop p)) (p + 1 + (n - p)) (fdsC (l.take p) ++ [.int .i64 d, .int .i64 x, .int .i64 y, .int .i64 z] ++ fdsC (l.drop p)) (by omega) (by simp) rfl (.tmp 62) (.tmp 65) 59 (by rfl) (by rfl) (by rfl) Try.ulF8 Try.infoF8 rfl (by decide) (by exact HL2.out) (fdsC_one _) (by unfold maxLen; omega) (by omega) (by repeat (first | exact hs4 | refine One.drew ?_)) (by repeat (first | exact HD.out _ hs4.below | refine CellsAt.drewW ?_)) ?_; intro as5 cs5 ws5 hs5 gs5)))
              all_goals go_wp2
              all_goals (
                go_ret
                obtain ⟨gs, rfl⟩ := hs5.addr (by omega)
                have hfin := hs5.under HOz.out.below HOz.out.base
                refine ⟨gs, _, _, rfl, ?_, ?_, HB0.out _ (Bz.trans (hs5.below.mono Bz.size))⟩
                · rw [HE.out]; simp; have := HN.out; omega
                · rw [HE.out, fdsC_append]
                  have e9 : fdsC ((d, x, y, z) :: l.drop p) = [.int .i64 d, .int .i64 x, .int .i64 y, .int .i64 z] ++ fdsC (l.drop p) := rfl
                  rw [e9, ← List.append_assoc]
                  exact hfin))
    · obtain rfl : p = n := by omega
      have HE : Hid (putF (d, x, y, z) l = l.take p ++ (d, x, y, z) :: l.drop p) := Lib.hid (by
        rw [putF_at8 (X := (d, x, y, z)) (by have := HN.out; omega) HP.out (fun h => by have := HN.out; omega)]
        rw [if_neg (by rw [List.getElem?_eq_none (by have := HN.out; omega)]; simp)])
      clear HP hone hp hpn
      go_wp2
      go_quiet (fail)
      go_wp2
      go_quiet (fail)
      go_wp2_with fail
      generalize hW : World.drewN _ _ = wz
      have Bz : Below w1.heap.size w1 wz := by rw [← hW]; first | exact below_drewN' (below_drewN' Bw _) _ | exact below_drewN' Bw _
      clear hW Bw b1 b2 b3 b4
      have HOz := Lib.hid (HO.out wz Bz)
      have HG := Lib.hid (show ∀ w', Below wz.heap.size wz w' → w'.cell? ⟨gx, 0, none⟩ = some (.int .i64 d) ∧ w'.cell? ⟨gx, 1, none⟩ = some (.int .i64 x) ∧ w'.cell? ⟨gx, 2, none⟩ = some (.int .i64 y) ∧ w'.cell? ⟨gx, 3, none⟩ = some (.int .i64 z) from fun w' h => HX.out w' (Bz.trans (h.mono Bz.size)))
      obtain ⟨b1, b2, b3, b4⟩ := HG.out wz (Below.refl _ _)
      have hbz : wz.heap.size ≤ wz.heap.size := Nat.le_refl _
      have hbel : Below wz.heap.size wz wz := Below.refl _ _
      have HTs := Lib.hid (show CellsAt wz (some ⟨g, 0, none⟩) (fdsC (l.take p)) by rw [← fdsC_take]; exact HOz.out.at_.upTo (p * 4))
      have HL1 := Lib.hid (show (fdsC (l.take p)).length = p * 4 by rw [fdsC_len, List.length_take, Nat.min_eq_left (by have := HN.out; omega)])
      have i1 : (0 : Int) ≤ (p : Int) := by omega
      have i2 : (p : Int) ≤ (c : Int) := by omega
      have i3 : (p : Int) ≤ (p : Int) := by omega
      have i4 : p ≤ c := by omega
      go_region_held3 (fun w' => w'.cell? ⟨gx, 0, none⟩ = some (.int .i64 d) ∧ w'.cell? ⟨gx, 1, none⟩ = some (.int .i64 x) ∧ w'.cell? ⟨gx, 2, none⟩ = some (.int .i64 y) ∧ w'.cell? ⟨gx, 3, none⟩ = some (.int .i64 z))
        (first | exact g3 | (refine HG.out _ ?_; first | exact hbel.trans (hs5.below.mono hbz) | exact hbel.trans (hs4.below.mono hbz) | (refine hbel.trans ?_; refine Below.mono ?_ hbz; (repeat (first | exact hs3.below | refine Below.drew ?_ | refine Below.alloc ?_ (by first | exact hs3.base | omega | (simp; omega)) _)); done) | ((repeat (first | exact hbel | refine Below.drew ?_ | refine Below.alloc ?_ (by first | exact Nat.le_refl _ | omega | (simp; done) | (simp; omega)) _)); done)))
        ((first
          | (refine step_append_to wz wz.heap.size (some ⟨wz.heap.size, 0, none⟩) 0 0 [] (some ⟨g, 0, none⟩) p c (fdsC (l.take p)) p (fdsC (l.take p)) (by omega) (by simp) rfl (.tmp 55) (.tmp 58) 59 (by rfl) (by rfl) (by rfl) Try.ulF8 Try.infoF8 rfl (by decide) (by exact HL1.out) (fdsC_one _) (by unfold maxLen; omega) (by omega) (by repeat (first | exact One.empty _ _ _ | exact One.second _ _ _ _ | refine One.drew ?_ | refine One.alloc ?_ _)) (by repeat (first | exact HTs.out | refine CellsAt.drewW ?_ | refine CellsAt.allocW ?_ _)) ?_; intro as3 cs3 ws3 hs3 gs3)
          | (refine step_append_to wz wz.heap.size (some ⟨wz.heap.size + 1, 0, none⟩) 0 0 [] (some ⟨g, 0, none⟩) p c (fdsC (l.take p)) p (fdsC (l.take p)) (by omega) (by simp) rfl (.tmp 55) (.tmp 58) 59 (by rfl) (by rfl) (by rfl) Try.ulF8 Try.infoF8 rfl (by decide) (by exact HL1.out) (fdsC_one _) (by unfold maxLen; omega) (by omega) (by repeat (first | exact One.empty _ _ _ | exact One.second _ _ _ _ | refine One.drew ?_ | refine One.alloc ?_ _)) (by repeat (first | exact HTs.out | refine CellsAt.drewW ?_ | refine CellsAt.allocW ?_ _)) ?_; intro as3 cs3 ws3 hs3 gs3)
          | (refine step_append_to wz wz.heap.size as3 p cs3 (fdsC (l.take p)) (some ⟨ws3.heap.size, 0, none⟩) 1 1 [.int .i64 d, .int .i64 x, .int .i64 y, .int .i64 z] (p + 1) (fdsC (l.take p) ++ [.int .i64 d, .int .i64 x, .int .i64 y, .int .i64 z]) (by omega) (by rfl) rfl (.tmp 59) (.tmp 61) 59 (by rfl) (by rfl) (by rfl) Try.ulF8 Try.infoF8 rfl (by decide) (by rfl) (by simp [Value.oneCell']) (by unfold maxLen; omega) (by omega) (by repeat (first | exact hs3 | refine One.drew ?_ | refine One.alloc ?_ _)) (by repeat (first | exact cellsAt_rec48 _ _ _ _ _ _ _ rfl | refine CellsAt.drewW ?_ | refine CellsAt.allocW ?_ _)) ?_; intro as4 cs4 ws4 hs4 gs4)
          | (refine step_append_to wz wz.heap.size as3 p cs3 (fdsC (l.take p)) (some ⟨wz.heap.size + 1, 0, none⟩) 1 1 [.int .i64 d, .int .i64 x, .int .i64 y, .int .i64 z] (p + 1) (fdsC (l.take p) ++ [.int .i64 d, .int .i64 x, .int .i64 y, .int .i64 z]) (by omega) (by rfl) rfl (.tmp 59) (.tmp 61) 59 (by rfl) (by rfl) (by rfl) Try.ulF8 Try.infoF8 rfl (by decide) (by rfl) (by simp [Value.oneCell']) (by unfold maxLen; omega) (by omega) (by repeat (first | exact hs3 | refine One.drew ?_ | refine One.alloc ?_ _)) (by repeat (first | exact cellsAt_lit _ _ _ _ (by simp) | exact cellsAt_rec48 _ _ _ _ _ _ _ (by first | rfl | simp) | refine CellsAt.drewW ?_ | refine CellsAt.allocW ?_ _ | (refine CellsAt.grown ?_ gs3 ?_) | (intro b o hh; simp at hh; simp [Value.ownBlock]; omega))) ?_; intro as4 cs4 ws4 hs4 gs4)
          | (refine step_append_to wz wz.heap.size as3 p cs3 (fdsC (l.take p)) (some ⟨wz.heap.size, 0, none⟩) 1 1 [.int .i64 d, .int .i64 x, .int .i64 y, .int .i64 z] (p + 1) (fdsC (l.take p) ++ [.int .i64 d, .int .i64 x, .int .i64 y, .int .i64 z]) (by omega) (by rfl) rfl (.tmp 59) (.tmp 61) 59 (by rfl) (by rfl) (by rfl) Try.ulF8 Try.infoF8 rfl (by decide) (by rfl) (by simp [Value.oneCell']) (by unfold maxLen; omega) (by omega) (by repeat (first | exact hs3 | refine One.drew ?_ | refine One.alloc ?_ _)) (by repeat (first | exact cellsAt_lit _ _ _ _ (by simp) | exact cellsAt_rec48 _ _ _ _ _ _ _ (by first | rfl | simp) | refine CellsAt.drewW ?_ | refine CellsAt.allocW ?_ _ | (refine CellsAt.grown ?_ gs3 ?_) | (intro b o hh; simp at hh; simp [Value.ownBlock]; omega))) ?_; intro as4 cs4 ws4 hs4 gs4)
          | (refine step_append_to wz wz.heap.size as4 (p + 1) cs4 (fdsC (l.take p) ++ [.int .i64 d, .int .i64 x, .int .i64 y, .int .i64 z]) _ 0 _ (fdsC []) (p + 1 + 0) (fdsC (l.take p) ++ [.int .i64 d, .int .i64 x, .int .i64 y, .int .i64 z] ++ fdsC []) (by omega) (by simp) rfl (.tmp 62) (.tmp 65) 59 (by rfl) (by rfl) (by rfl) Try.ulF8 Try.infoF8 rfl (by decide) (by rfl) (fdsC_one _) (by unfold maxLen; omega) (by omega) (by repeat (first | exact hs4 | refine One.drew ?_)) (by repeat (first | exact cellsAt_nil _ _ | refine CellsAt.drewW ?_)) ?_; intro as5 cs5 ws5 hs5 gs5)))
      all_goals go_wp2
      all_goals (
        go_ret
        obtain ⟨gs, rfl⟩ := hs5.addr (by omega)
        have hfin := hs5.under HOz.out.below HOz.out.base
        refine ⟨gs, _, _, rfl, ?_, ?_, HB0.out _ (Bz.trans (hs5.below.mono Bz.size))⟩
        · rw [HE.out]; simp; have := HN.out; omega
        · rw [HE.out, fdsC_append]
          have e9 : fdsC ((d, x, y, z) :: l.drop p) = [.int .i64 d, .int .i64 x, .int .i64 y, .int .i64 z] ++ fdsC [] := by rw [List.drop_of_length_le (by have := HN.out; omega)]; rfl
          rw [e9, ← List.append_assoc]
          exact hfin)

end Go.Proofs.Ytbnagmjhdnnheaa

namespace Go.Proofs.Ytbnagmjhdnnheaa
open Go.RowKit

theorem docAt_get {D : List ByteArray} {i : Nat} (h : i < D.length) : docAt D i = D[i] := by simp [docAt, h]
theorem allTo_len (D : List ByteArray) (k w : Int) (m : Nat) (hm : m ≤ D.length) : (allTo D k w m).length ≤ totalS (D.take m) := by
  induction m with
  | zero => exact Nat.zero_le _
  | succ m ih =>
    rw [allTo_next, List.length_append, entsOf, List.length_map, totalS_take D m (by omega), docAt_get (by omega)]
    have h1 := mkL_len D[m] k w
    have h2 := ih (by omega)
    omega
theorem allN_room {D : List ByteArray} (k w : Int) {m : Nat} (hm : m ≤ D.length) (hT : totalS D ≤ 1048576) : (allN D k w m).length ≤ 1048576 := by
  rw [allN_len]
  have h1 := allTo_len D k w m hm
  have h2 := totalS_take_le D m
  omega
/-- Rows of what is found, text by text, and of the text at hand the first ones. -/
theorem byDocs_step {F : Nat → List En} {i k : Nat} (hk : k < (F i).length) : ((F i).take (k + 1)).map (fun p => ((i : Int), p)) = ((F i).take k).map (fun p => ((i : Int), p)) ++ [((i : Int), (F i)[k])] := by
  rw [List.take_succ_eq_append_getElem hk, List.map_append]; rfl
theorem byDocs_len (F : Nat → List En) (G : Nat → Nat) (h : ∀ i, (F i).length ≤ G i) (m : Nat) : (byDocs F m).length ≤ ((List.range m).map G).sum := by
  induction m with
  | zero => exact Nat.zero_le _
  | succ m ih =>
    rw [byDocs_next, List.length_append, List.length_map, List.range_succ, List.map_append, List.sum_append]
    have := h m
    simp only [List.map_cons, List.map_nil, List.sum_cons, List.sum_nil]
    omega
theorem piecesT_len (s t : ByteArray) (n : Int) : (piecesT s t n).length ≤ s.size * t.size := by
  unfold piecesT
  split
  · exact Nat.zero_le _
  · exact piecesN_len s t n.toNat s.size
theorem askAll_room {D : List ByteArray} {s : ByteArray} (n : Int) (hT : totalS D ≤ 1048576) (hs : s.size ≤ 1048576) {m : Nat} (hm : m ≤ D.length) : (byDocs (fun i => piecesT (docAt D i) s n) m).length ≤ 1099511627776 := by
  have key : (byDocs (fun i => piecesT (docAt D i) s n) m).length ≤ totalS (D.take m) * s.size := by
    induction m with
    | zero => exact Nat.zero_le _
    | succ m ih =>
      have h1 := ih (by omega)
      have h2 := piecesT_len (docAt D m) s n
      rw [docAt_get (by omega)] at h2
      rw [byDocs_next, List.length_append, List.length_map, totalS_take D m (by omega), Nat.add_mul, docAt_get (by omega)]
      omega
  have h2 := totalS_take_le D m
  have h3 : totalS (D.take m) * s.size ≤ 1048576 * 1048576 := Nat.mul_le_mul (by omega) hs
  omega

set_option maxHeartbeats 8000000 in
theorem specAll_any (D : List ByteArray) (a : Option Addr) (n c : Nat) (k v : Int) (R : List En) (w : World) (hR : allN D k v D.length = R) (hn : n = D.length) (hn9 : n ≤ 1048576) (hT : totalS D ≤ 1048576) (hv9 : v ≤ 9223372036854775807) (hat : CellsAt w a (strsC D)) :
    Calls Try.prog 40 #[.slice a n c, .int .i64 k, .int .i64 v] w fun e w' => ∃ a' n' c', e = .returned (.slice a' n' c') ∧ One w w.heap.size w' 68 3 a' n' c' (entsC R) := by
  subst hR
  have HN := Lib.hid hn
  have HAT := Lib.hid hat
  clear hn hat
  go_enter Try.func40, Try.ntmps40
  go_wp2
  go_loopw [7, 8] (fun u i_ wr => ∃ (i m d : Nat) (a' : Option Addr), i ≤ n ∧ i_ = .int .i64 (i : Int) ∧ u = .slice a' m d ∧ Hid (One w w.heap.size wr 68 3 a' m d (entsC (allN D k v i)))) (fun _ i_ _ => n - (intOf i_).toNat)
  case atStart => exact ⟨0, _, _, _, Nat.zero_le _, rfl, rfl, Lib.hid (One.empty w 68 3)⟩
  case round =>
    obtain ⟨i, m, d, a', hi, rfl, rfl, HO⟩ := hrel
    by_cases hlt : i < n
    · have hil : i < D.length := by have := HN.out; omega
      obtain ⟨b, o, rfl, hb9, hc⟩ := (HAT.out.below HO.out.below).str (fun e => by rw [e] at hil; simp at hil)
      obtain ⟨s, hs⟩ : ∃ s, D[i] = s := ⟨_, rfl⟩
      have e1 := hc i hil
      rw [hs] at e1
      have hsz : s.size ≤ 1048576 := by have h1 := totalS_get D i hil; rw [hs] at h1; omega
      have z1 : (i : Int) < (n : Int) := by omega
      have z0 : (0 : Int) ≤ (i : Int) := by omega
      obtain ⟨M, hM⟩ : ∃ M, mkL s k v = M := ⟨_, rfl⟩
      have hMl : M.length ≤ 1048576 := by rw [← hM]; exact Nat.le_trans (mkL_len s k v) hsz
      have c1 := fun w => specShelfOf_any (i : Int) s k v M w hM (by omega) hv9
      have hm1 := allN_room (D := D) k v (m := i) (by omega) hT
      have hml := ents_len HO.out.own
      have hnext : joinL5 (allN D k v i) (shelfL (i : Int) M) = allN D k v (i + 1) := by
        rw [allN_next, docAt_get hil, hs, hM, shelfL, if_neg (by omega)]
        exact joinL5_ok (allN_shelf D k v i) (by have h := ents_shelf i s k v; rw [hM] at h; exact h)
      have hEl : (shelfL (i : Int) M).length ≤ 1048576 := by
        rw [shelfL, if_neg (by omega)]
        have h := rowE_len (M.map fun m => (m.1, (i : Int), m.2))
        rw [List.length_map] at h
        omega
      have HNEXT := Lib.hid hnext
      have HML := Lib.hid hml
      have HM1 := Lib.hid hm1
      have HEL := Lib.hid hEl
      clear hnext hml hm1 hEl hM hs hc
      go_wp2_with fail
      refine (c1 _).mono ?_
      rintro e w2 ⟨g2, n2, d2, rfl, o2⟩
      have hon := HO.out.later o2.below
      have hl2 := ents_len o2.own
      have c2 := specJoin5_any (allN D k v i) (shelfL (i : Int) M) a' (some ⟨g2, 0, none⟩) m d n2 d2 w2 HML.out hl2 (by have := HML.out; have := HM1.out; omega) (by have := HEL.out; omega) hon.at_ o2.at_
      have HON := Lib.hid hon
      clear hl2 o2 c1 hon
      go_wp2_with fail
      refine c2.mono ?_
      rintro e w3 ⟨a3, n3, d3, rfl, o3⟩
      have o3 := o3.under HON.out.below HON.out.base
      rw [HNEXT.out] at o3
      have HO3 := Lib.hid o3
      clear o3 c2
      go_wp2
      go_roundw
      case rel => exact ⟨i + 1, n3, d3, a3, by omega, by go_num, rfl, HO3⟩
      case measure => simp [intOf]; omega
    · have z1 : ¬ (i : Int) < (n : Int) := by omega
      have hin : i = D.length := by have := HN.out; omega
      have HE := Lib.hid hin
      clear hin
      go_wp2
      go_ret
      exact ⟨_, _, _, rfl, by have h := HO.out; rw [HE.out] at h; exact h⟩

set_option maxHeartbeats 8000000 in
theorem specAskAll_any (D : List ByteArray) (s : ByteArray) (n : Int) (a : Option Addr) (nD c : Nat) (R : List Fd) (w : World) (hR : askAllL D s n = R) (hn : nD = D.length) (hn9 : nD ≤ 1048576) (hT : totalS D ≤ 1048576) (hs : s.size ≤ 1048576) (hat : CellsAt w a (strsC D)) :
    Calls Try.prog 50 #[.slice a nD c, .string s, .int .i64 n] w fun e w' => ∃ a' n' c', e = .returned (.slice a' n' c') ∧ One w w.heap.size w' 101 4 a' n' c' (fdsC R) := by
  subst hR
  have HN := Lib.hid hn
  have HAT := Lib.hid hat
  clear hn hat
  go_enter Try.func50, Try.ntmps50
  go_wp2
  go_loopw [7, 8] (fun u i_ wr => ∃ (i m d : Nat) (a' : Option Addr), i ≤ nD ∧ i_ = .int .i64 (i : Int) ∧ u = .slice a' m d ∧ Hid (One w w.heap.size wr 101 4 a' m d (fdsC (byDocs (fun i => piecesT (docAt D i) s n) i)))) (fun _ i_ _ => nD - (intOf i_).toNat)
  case atStart => exact ⟨0, _, _, _, Nat.zero_le _, rfl, rfl, Lib.hid (One.empty w 101 4)⟩
  case round =>
    obtain ⟨i, m, d, a', hi, rfl, rfl, HO⟩ := hrel
    by_cases hlt : i < nD
    · have hil : i < D.length := by have := HN.out; omega
      obtain ⟨b, o, rfl, hb9, hc⟩ := (HAT.out.below HO.out.below).str (fun e => by rw [e] at hil; simp at hil)
      obtain ⟨t, ht⟩ : ∃ s, D[i] = s := ⟨_, rfl⟩
      have e1 := hc i hil
      rw [ht] at e1
      have hsz : t.size ≤ 1048576 := by have h1 := totalS_get D i hil; rw [ht] at h1; omega
      have z1 : (i : Int) < (nD : Int) := by omega
      have z0 : (0 : Int) ≤ (i : Int) := by omega
      obtain ⟨L, hL⟩ : ∃ L, piecesT t s n = L := ⟨_, rfl⟩
      have c1 := fun w => specPieces_any t s n L w hL hsz hs
      have HF := Lib.hid (show (fun i => piecesT (docAt D i) s n) i = L by simp only [docAt_get hil, ht, hL])
      have HRM := Lib.hid (askAll_room (D := D) (s := s) n hT hs (m := i + 1) (by omega))
      clear hc ht hL
      go_wp2_with fail
      refine (c1 _).mono ?_
      rintro e w2 ⟨g2, n2, d2, rfl, o2⟩
      have HL2 := Lib.hid (ents_len7 o2.own)
      have HA2 := Lib.hid (show Beside w2 (some ⟨g2, 0, none⟩) (entsC L) (.slice a' m d) from ⟨o2.at_, fun _ b o hb hk => by
        simp only [Option.some.injEq, Addr.mk.injEq] at hb
        have h1 := HO.out.block_lt b hk
        have h2 := (o2.own.lt g2 (by simp [Value.ownBlock])).1
        omega⟩)
      have HO2 := Lib.hid (HO.out.later o2.below)
      have hn2 : n2 ≤ 1099511627776 := by
        have h1 := HRM.out
        rw [byDocs_next, List.length_append, List.length_map, HF.out] at h1
        have := HL2.out
        omega
      clear o2 c1
      go_wp2
      go_loopw [7, 10] (fun u k_ wr => ∃ (k m d : Nat) (a' : Option Addr), k ≤ n2 ∧ k_ = .int .i64 (k : Int) ∧ u = .slice a' m d ∧ Hid (One w w.heap.size wr 101 4 a' m d (fdsC (byDocs (fun i => piecesT (docAt D i) s n) i ++ (L.take k).map fun p => ((i : Int), p)))) ∧ Hid (Beside wr (some ⟨g2, 0, none⟩) (entsC L) (.slice a' m d))) (fun _ k_ _ => n2 - (intOf k_).toNat)
      case atStart => exact ⟨0, m, d, a', Nat.zero_le _, rfl, rfl, Lib.hid (by rw [List.take_zero, List.map_nil, List.append_nil]; exact HO2.out), HA2⟩
      case round =>
        clear HO2 HA2
        obtain ⟨k, m, d, a', hk, rfl, rfl, HO, HB⟩ := hrel
        by_cases hlk : k < n2
        · have hkl : k < L.length := by have := HL2.out; omega
          obtain ⟨x, hx⟩ : ∃ x, L[k].1 = x := ⟨_, rfl⟩
          obtain ⟨y, hy⟩ : ∃ x, L[k].2.1 = x := ⟨_, rfl⟩
          obtain ⟨z, hz⟩ : ∃ x, L[k].2.2 = x := ⟨_, rfl⟩
          have hm : L[k] = (x, y, z) := by rw [← hx, ← hy, ← hz]
          obtain ⟨b2, o2, hbo, hb92, q1, q2, q3⟩ := ent_cells HB.out.at_ hkl hm
          simp only [Option.some.injEq, Addr.mk.injEq, and_true] at hbo
          obtain ⟨rfl, rfl⟩ := hbo
          rw [Nat.zero_add] at q1 q2 q3
          have u1 : (k : Int) < (n2 : Int) := by omega
          have u0 : (0 : Int) ≤ (k : Int) := by omega
          have HNX := Lib.hid (show fdsC (byDocs (fun i => piecesT (docAt D i) s n) i ++ (L.take (k + 1)).map fun p => ((i : Int), p)) = fdsC (byDocs (fun i => piecesT (docAt D i) s n) i ++ (L.take k).map fun p => ((i : Int), p)) ++ [.int .i64 (i : Int), .int .i64 x, .int .i64 y, .int .i64 z] by
            rw [List.take_succ_eq_append_getElem hkl, List.map_append, hm, ← List.append_assoc]
            exact fdsC_snoc _ ((i : Int), x, y, z))
          have hm9 : m ≤ 1099511627776 := by
            have h1 := fds_len HO.out.own
            have h2 := HRM.out
            rw [byDocs_next, List.length_append, List.length_map, HF.out] at h2
            rw [List.length_append, List.length_map, List.length_take] at h1
            omega
          clear hx hy hz hm
          go_wp2_with (at_builtin; refine wpList_append_apart rfl (.tmp 31) (.tmp 38) 59 rfl Try.ulF8 Try.infoF8 rfl (by decide) HO.out rfl #[.int .i64 (i : Int), .int .i64 x, .int .i64 y, .int .i64 z] rfl rfl (by simp [Value.oneCell']) (by unfold maxLen; omega) (by omega) ?_; intro a6 c6 w6 o6 g6 s6)
          have HB6 := Lib.hid (HB.out.grow g6 s6)
          clear g6 s6
          go_roundw
          case rel => exact ⟨k + 1, m + 1, c6, a6, by omega, by go_num, rfl, Lib.hid (by rw [HNX.out]; exact o6), HB6⟩
          case measure => simp [intOf]; omega
        · have u1 : ¬ (k : Int) < (n2 : Int) := by omega
          have HO3 := Lib.hid (show One w w.heap.size wr 101 4 a' m d (fdsC (byDocs (fun i => piecesT (docAt D i) s n) (i + 1))) by
            have h := HO.out
            rw [List.take_of_length_le (by have := HL2.out; omega)] at h
            rw [byDocs_next, HF.out]
            exact h)
          clear HO HB
          go_wp2
          go_roundw
          case rel => exact ⟨i + 1, m, d, a', by omega, by go_num, rfl, HO3⟩
          case measure => simp [intOf]; omega
    · have z1 : ¬ (i : Int) < (nD : Int) := by omega
      have hin : i = D.length := by have := HN.out; omega
      have HE := Lib.hid hin
      clear hin
      go_wp2
      go_ret
      exact ⟨_, _, _, rfl, by have h := HO.out; rw [HE.out] at h; exact h⟩

end Go.Proofs.Ytbnagmjhdnnheaa

namespace Go.Proofs.Ytbnagmjhdnnheaa
open Go.RowKit

/-- What one entry tells of one mark. -/
theorem entry_ways {D : List ByteArray} {s : ByteArray} {K q : Nat} {n : Int} {p0 x0 d at_ : Int} (_hK : 1 ≤ K) (hok : enOk (x0, d, at_)) :
    ((D.length : Int) ≤ d ∧ askE D s K n (p0, (q : Int)) (x0, d, at_) = none) ∨
    (∃ (dn : Nat) (h : dn < D.length), d = dn ∧ (D[dn].size : Int) < K ∧ askE D s K n (p0, (q : Int)) (x0, d, at_) = none) ∨
    (∃ (dn : Nat) (h : dn < D.length), d = dn ∧ (K : Int) ≤ D[dn].size ∧ (D[dn].size : Int) - K < at_ ∧ askE D s K n (p0, (q : Int)) (x0, d, at_) = none) ∨
    (∃ (dn An : Nat) (h : dn < D.length), d = dn ∧ at_ = An ∧ An + K ≤ D[dn].size ∧ askE D s K n (p0, (q : Int)) (x0, d, at_) = (aroundP D[dn] s K n An q).map fun p => (d, p)) := by
  have hok2 : 0 ≤ x0 ∧ x0 < 1000003 ∧ 0 ≤ d ∧ 0 ≤ at_ := hok
  by_cases h1 : d < D.length
  · obtain ⟨dn, rfl⟩ : ∃ m : Nat, d = m := ⟨d.toNat, by omega⟩
    have hd : dn < D.length := by omega
    have hdoc : docAt D dn = D[dn] := docAt_get hd
    by_cases h2 : (D[dn].size : Int) < K
    · exact .inr (.inl ⟨dn, hd, rfl, h2, by rw [askE, if_neg]; simp only [Int.toNat_natCast, hdoc]; omega⟩)
    · by_cases h3 : (D[dn].size : Int) - K < at_
      · exact .inr (.inr (.inl ⟨dn, hd, rfl, by omega, h3, by rw [askE, if_neg]; simp only [Int.toNat_natCast, hdoc]; omega⟩))
      · obtain ⟨An, rfl⟩ : ∃ m : Nat, at_ = m := ⟨at_.toNat, by omega⟩
        refine .inr (.inr (.inr ⟨dn, An, hd, rfl, rfl, by omega, ?_⟩))
        rw [askE, if_pos (by simp only [Int.toNat_natCast, hdoc]; omega)]
        simp only [Int.toNat_natCast, hdoc]
  · exact .inl ⟨by omega, by rw [askE, if_neg (fun e => h1 e.1)]⟩
theorem below_call8 {w w' : World} (hb : Below w.drew.heap.size w.drew w') : Below w.heap.size w w' := (Below.refl w.heap.size w).drew.trans hb
theorem below_acall8 {w w' : World} {o : Obj} (hb : Below (w.alloc o).drew.heap.size (w.alloc o).drew w') : Below w.heap.size w w' :=
  (((Below.refl w.heap.size w).alloc (Nat.le_refl _) o).drew).trans (hb.mono (by show w.heap.size ≤ (w.alloc o).heap.size; simp))
theorem cells_own8 {w w' : World} {xs : Array Value} {e : TypeId} (hb : Below (w.alloc (.cells xs e)).drew.heap.size (w.alloc (.cells xs e)).drew w') : w'.heap[w.heap.size]? = some (.cells xs e (0, 0)) :=
  (hb.block w.heap.size (by show w.heap.size < (w.alloc (.cells xs e)).heap.size; simp)).trans (heap_alloc_new w _)
theorem cell_own8 {w w' : World} {xs : Array Value} {e : TypeId} (hb : Below (w.alloc (.cells xs e)).drew.heap.size (w.alloc (.cells xs e)).drew w') (i : Nat) (v : Value) (h : xs[i]? = some v) : w'.cell? ⟨w.heap.size, i, none⟩ = some v :=
  (cell_of_row w' w.heap.size i _ _ (0, 0) (cells_own8 hb)).trans h
theorem frozen_own8 {w w' : World} {xs : Array Value} {e : TypeId} (hb : Below (w.alloc (.cells xs e)).drew.heap.size (w.alloc (.cells xs e)).drew w') (i : Nat) : w'.frozen? ⟨w.heap.size, i, none⟩ = false := by
  simp [World.frozen?, cells_own8 hb]
theorem piece_set8 (w : World) (g : Nat) (x y z : Int) {u v s : Value} {e : TypeId} (h : w.heap[g]? = some (.cells #[u, v, s] e (0, 0))) :
    (((w.setCell ⟨g, 0, none⟩ (.int .i64 x)).setCell ⟨g, 1, none⟩ (.int .i64 y)).setCell ⟨g, 2, none⟩ (.int .i64 z)).heap[g]? = some (.cells #[.int .i64 x, .int .i64 y, .int .i64 z] e (0, 0)) := by
  have h1 : Side w 0 (.slice none 0 0) e g [u, v, s] := ⟨h, Nat.zero_le _, by simp [Value.ownBlock]⟩
  exact (((h1.set_self 0 (.int .i64 x)).set_self 1 (.int .i64 y)).set_self 2 (.int .i64 z)).at_
theorem rowF_room {S : List En} {D : List ByteArray} {s : ByteArray} {k n : Int} {M : List (Int × Int)} {i : Nat} {X : List Fd} (hi : i ≤ M.length) (hM : M.length ≤ 1048576) (hS : S.length ≤ 1048576) (hX : X.length ≤ 1048576) :
    (rowF (askTo S D s k n (M.take i) ++ X)).length ≤ 2199023255552 := by
  have h1 := rowF_len (askTo S D s k n (M.take i) ++ X)
  have h2 := askTo_len S D s k n (M.take i)
  rw [List.length_take, Nat.min_eq_left hi] at h2
  have h3 : i * S.length ≤ 1048576 * 1048576 := Nat.mul_le_mul (by omega) hS
  rw [List.length_append] at h1
  omega

set_option maxRecDepth 8000 in
set_option maxHeartbeats 32000000 in
theorem specAsk8_any (S : List En) (D : List ByteArray) (s : ByteArray) (k v n : Int) (a : Option Addr) (nS cS : Nat) (b : Option Addr) (nD cD : Nat) (R : List Fd) (w : World) (hR : ask8 S D s k v n = R) (hnS : nS = S.length) (hnD : nD = D.length) (hS9 : nS ≤ 1048576) (_hD9 : nD ≤ 1048576) (hScap : nS ≤ cS) (hSmax : cS ≤ maxLen)
    (hT : totalS D ≤ 1048576) (hs : s.size ≤ 1048576) (hk9 : k ≤ 9223372036854775807) (hv9 : v ≤ 9223372036854775807) (hatS : CellsAt w a (entsC S)) (hatD : CellsAt w b (strsC D)) :
    Calls Try.prog 45 #[.slice a nS cS, .slice b nD cD, .string s, .int .i64 k, .int .i64 v, .int .i64 n] w fun e w' => ∃ g m c, e = .returned (.slice (some ⟨g, 0, none⟩) m c) ∧ One w w.heap.size w' 101 4 (some ⟨g, 0, none⟩) m c (fdsC R) := by
  subst hR
  have HS := Lib.hid hatS
  have HD := Lib.hid hatD
  have HNS := Lib.hid hnS
  have HND := Lib.hid hnD
  clear hatS hatD hnS hnD
  by_cases hok : shOk S
  · have c0 := fun w h => specShelfOk_is true S a nS cS w ⟨fun _ => hok, fun _ => rfl⟩ HNS.out (by omega) h
    by_cases hk : k < 1
    · have HR := Lib.hid (ask8_not (L := S) (D := D) (s := s) (k := k) (w := v) (n := n) (fun h => by omega))
      have dk : decide (k < 1) = true := decide_eq_true hk
      clear hok
      go_enter Try.func45, Try.ntmps45
      go_wp2_with fail
      refine (c0 _ (HS.out.below ((Below.refl _ _).alloc (Nat.le_refl _) _))).mono ?_
      rintro e w1 ⟨rfl, b1⟩
      go_wp2
      go_ret
      exact ⟨_, _, _, rfl, by rw [HR.out]; exact (One.empty w 101 4).later b1⟩
    by_cases hv : v < 1
    · have HR := Lib.hid (ask8_not (L := S) (D := D) (s := s) (k := k) (w := v) (n := n) (fun h => by omega))
      have dk : decide (k < 1) = false := decide_eq_false hk
      have dv : decide (v < 1) = true := decide_eq_true hv
      clear hok
      go_enter Try.func45, Try.ntmps45
      go_wp2_with fail
      refine (c0 _ (HS.out.below ((Below.refl _ _).alloc (Nat.le_refl _) _))).mono ?_
      rintro e w1 ⟨rfl, b1⟩
      go_wp2
      go_ret
      exact ⟨_, _, _, rfl, by rw [HR.out]; exact (One.empty w 101 4).later b1⟩
    by_cases hn : n < 1
    · have HR := Lib.hid (ask8_not (L := S) (D := D) (s := s) (k := k) (w := v) (n := n) (fun h => by omega))
      have dk : decide (k < 1) = false := decide_eq_false hk
      have dv : decide (v < 1) = false := decide_eq_false hv
      have dn0 : decide (n < 1) = true := decide_eq_true hn
      clear hok
      go_enter Try.func45, Try.ntmps45
      go_wp2_with fail
      refine (c0 _ (HS.out.below ((Below.refl _ _).alloc (Nat.le_refl _) _))).mono ?_
      rintro e w1 ⟨rfl, b1⟩
      go_wp2
      go_ret
      exact ⟨_, _, _, rfl, by rw [HR.out]; exact (One.empty w 101 4).later b1⟩
    have dk : decide (k < 1) = false := decide_eq_false hk
    have dv : decide (v < 1) = false := decide_eq_false hv
    have dn0 : decide (n < 1) = false := decide_eq_false hn
    have HR := Lib.hid (ask8_ok (L := S) (D := D) (s := s) (k := k) (w := v) (n := n) ⟨hok, by omega, by omega, by omega⟩)
    have HOK := Lib.hid hok
    obtain ⟨K, rfl⟩ : ∃ K : Nat, k = K := ⟨k.toNat, by omega⟩
    have hK1 : 1 ≤ K := by omega
    obtain ⟨M, hM⟩ : ∃ M, mkL s (K : Int) v = M := ⟨_, rfl⟩
    have cM := fun w => specMarks_any s (K : Int) v M w hM (by omega) hv9
    have hMl : M.length ≤ 1048576 := by rw [← hM]; exact Nat.le_trans (mkL_len s K v) hs
    have HMK := Lib.hid hM
    clear hok hM hk hv
    go_enter Try.func45, Try.ntmps45
    go_wp2_with fail
    refine (c0 _ (HS.out.below ((Below.refl _ _).alloc (Nat.le_refl _) _))).mono ?_
    rintro e w1 ⟨rfl, b1⟩
    have HO := Lib.hid ((One.empty w 101 4).later b1)
    clear c0 b1
    go_wp2_with fail
    refine (cM _).mono ?_
    rintro e w2 ⟨aM, nM, dM, rfl, oM⟩
    have HO := Lib.hid (HO.out.later oM.below)
    have HA := Lib.hid oM.at_
    have HNM := Lib.hid (pairs_len oM.own)
    have hnM : nM ≤ 1048576 := by have h1 := pairs_len oM.own; omega
    clear oM cM
    go_wp2
    go_loopw [13, 15] (fun u i_ wr => ∃ (i g m c : Nat), i ≤ nM ∧ i_ = .int .i64 (i : Int) ∧ u = .slice (some ⟨g, 0, none⟩) m c ∧ Hid (m = (rowF (askTo S D s (K : Int) n (M.take i))).length) ∧ Hid (One w w.heap.size wr 101 4 (some ⟨g, 0, none⟩) m c (fdsC (rowF (askTo S D s (K : Int) n (M.take i))))) ∧ Hid (Below w2.heap.size w2 wr)) (fun _ i_ _ => nM - (intOf i_).toNat)
    case atStart => exact ⟨0, _, _, _, Nat.zero_le _, rfl, rfl, Lib.hid rfl, HO, Lib.hid (Below.refl _ _)⟩
    case round =>
      clear HO
      obtain ⟨i, g, m, c, hi, rfl, rfl, HLEN, HO, HB⟩ := hrel
      by_cases hlt : i < nM
      · have hil : i < M.length := by have := HNM.out; omega
        obtain ⟨q, K2, hKK, _, hpq, hq9, _⟩ := mkL_in (show M[i] ∈ mkL s (K : Int) v by rw [HMK.out]; exact List.getElem_mem hil)
        obtain rfl : K = K2 := by omega
        obtain ⟨p0, hp0⟩ : ∃ p : Int, ((prN (pieceL s.data.toList K q) : Nat) : Int) = p := ⟨_, rfl⟩
        rw [hp0] at hpq
        obtain ⟨bM, oM, rfl, hbM, hcM⟩ := (HA.out.below HB.out).pair (fun e => by rw [e] at hil; simp at hil)
        obtain ⟨e1, e2⟩ := hcM i hil
        rw [hpq] at e1 e2
        have z1 : (i : Int) < (nM : Int) := by omega
        have z0 : (0 : Int) ≤ (i : Int) := by omega
        have cF := fun w h => specFind5_any S p0 a nS cS w HNS.out (by omega) hScap hSmax h
        rw [findL5_ok HOK.out] at cF
        obtain ⟨E, hE⟩ : ∃ E, S.filter (fun x => x.1 == p0) = E := ⟨_, rfl⟩
        rw [hE] at cF
        have HE1 := Lib.hid (show withP S p0 = E from hE)
        have hEl : E.length ≤ 1048576 := by rw [← hE]; have h1 := List.length_filter_le (fun x : En => x.1 == p0) S; have := HNS.out; omega
        have HEO := Lib.hid (show ∀ x ∈ E, enOk x from fun x hx => by rw [← hE] at hx; exact HOK.out.1 x (List.mem_filter.1 hx).1)
        have HPQ := Lib.hid hpq
        have hww := HO.out.below
        clear hE hKK hp0 hcM hpq
        go_wp2_with fail
        refine (cF _ (HS.out.below hww)).mono ?_
        rintro e w3 ⟨aE, nE, dE, rfl, oE⟩
        have HE2 := Lib.hid oE.at_
        have HNE := Lib.hid (ents_len oE.own)
        have hnE : nE ≤ 1048576 := by have h1 := ents_len oE.own; omega
        have HON := Lib.hid (HO.out.later oE.below)
        have HB3 := Lib.hid (HB.out.trans (oE.below.mono HB.out.size))
        have HKM := Lib.hid (show ∀ w', Below w3.heap.size w3 w' → w'.cell? ⟨bM, oM + i * 2, none⟩ = some (.int .i64 p0) ∧ w'.cell? ⟨bM, oM + i * 2 + 1, none⟩ = some (.int .i64 (q : Int)) from fun w' h => by
          have h1 := oE.below.trans (h.mono oE.below.size)
          exact ⟨below_ents7 h1 hbM e1, below_ents7 h1 hbM e2⟩)
        clear oE cF hww e1 e2 HO HB
        go_wp2
        go_loopw [13, 17] (fun u j_ wr => ∃ (j g m c : Nat), j ≤ nE ∧ j_ = .int .i64 (j : Int) ∧ u = .slice (some ⟨g, 0, none⟩) m c ∧ Hid (m = (rowF (askTo S D s (K : Int) n (M.take i) ++ (E.take j).filterMap (askE D s (K : Int) n (p0, (q : Int))))).length) ∧ Hid (One w w.heap.size wr 101 4 (some ⟨g, 0, none⟩) m c (fdsC (rowF (askTo S D s (K : Int) n (M.take i) ++ (E.take j).filterMap (askE D s (K : Int) n (p0, (q : Int))))))) ∧ Hid (Below w3.heap.size w3 wr)) (fun _ j_ _ => nE - (intOf j_).toNat)
        case atStart => exact ⟨0, g, m, c, Nat.zero_le _, rfl, rfl, Lib.hid (by rw [List.take_zero, List.filterMap_nil, List.append_nil]; exact HLEN.out), Lib.hid (by rw [List.take_zero, List.filterMap_nil, List.append_nil]; exact HON.out), Lib.hid (Below.refl _ _)⟩
        case round =>
          clear HON HLEN
          obtain ⟨j, g, m, c, hj, rfl, rfl, HLEN, HO, HB⟩ := hrel
          by_cases hlj : j < nE
          · have hjl : j < E.length := by have := HNE.out; omega
            obtain ⟨x0, hx0⟩ : ∃ x, E[j].1 = x := ⟨_, rfl⟩
            obtain ⟨d, hd0⟩ : ∃ x, E[j].2.1 = x := ⟨_, rfl⟩
            obtain ⟨at_, ha0⟩ : ∃ x, E[j].2.2 = x := ⟨_, rfl⟩
            have hm : E[j] = (x0, d, at_) := by rw [← hx0, ← hd0, ← ha0]
            obtain ⟨bE, oE, rfl, hbE, g1, g2, g3⟩ := ent_cells (HE2.out.below HB.out) hjl hm
            have hen : enOk (x0, d, at_) := by rw [← hm]; exact HEO.out _ (List.getElem_mem hjl)
            have hen2 : 0 ≤ x0 ∧ x0 < 1000003 ∧ 0 ≤ d ∧ 0 ≤ at_ := hen
            obtain ⟨_, _, hd1, ha1⟩ := hen2
            have hways := entry_ways (D := D) (s := s) (q := q) (n := n) (p0 := p0) hK1 hen
            have u1 : (j : Int) < (nE : Int) := by omega
            have u0 : (0 : Int) ≤ (j : Int) := by omega
            have hm9 : m ≤ 2199023255552 := by
              rw [HLEN.out]
              refine rowF_room (by omega) hMl (by have := HNS.out; omega) (Nat.le_trans (List.length_filterMap_le _ _) ?_)
              rw [List.length_take]
              omega
            have ha := (Below.refl wr.heap.size wr).alloc (Nat.le_refl _) (.cells #[.int .i64 x0, .int .i64 d, .int .i64 at_] 68)
            have S5 := Side.fresh (w := wr) (B := 0) (v := .slice none 0 0) 68 [.int .i64 x0, .int .i64 d, .int .i64 at_] (Nat.zero_le _) (by intro k hk; simp [Value.ownBlock] at hk)
            have hone := HO.out.later ha
            have hbb := HB.out.trans (ha.mono HB.out.size)
            clear hx0 hd0 ha0 hen HO HB
            go_wp2
            obtain ⟨w5, hw5⟩ : ∃ w9, wr.alloc (.cells #[.int .i64 x0, .int .i64 d, .int .i64 at_] 68) = w9 := ⟨_, rfl⟩
            obtain ⟨gt, hgt⟩ : ∃ g, wr.heap.size = g := ⟨_, rfl⟩
            rw [hw5] at ha S5 hone hbb
            rw [hgt] at S5
            rw [hw5, hgt]
            have HONE := Lib.hid hone
            have HBB := Lib.hid hbb
            clear hw5 hgt ha hone hbb g1 g2 g3
            have k0 := S5.cell 0 _ rfl
            have k1 := S5.cell 1 _ rfl
            have k2 := S5.cell 2 _ rfl
            rcases hways with ⟨hc1, hap⟩ | ⟨dn, hdl, rfl, hc1, hap⟩ | ⟨dn, hdl, rfl, hc0, hc1, hap⟩ | ⟨dn, An, hdl, rfl, rfl, hc0, hap⟩
            · have y1 : (nD : Int) ≤ d := by have := HND.out; omega
              have dy : decide ((nD : Int) ≤ d) = true := decide_eq_true y1
              have HNX := Lib.hid (show askTo S D s (K : Int) n (M.take i) ++ (E.take (j + 1)).filterMap (askE D s (K : Int) n (p0, (q : Int))) = askTo S D s (K : Int) n (M.take i) ++ (E.take j).filterMap (askE D s (K : Int) n (p0, (q : Int))) by rw [fm_no hjl (by rw [hm]; exact hap)])
              clear hap hjl hm hc1 S5
              go_quiet (fail)
              go_wp2
              go_roundw
              case rel => exact ⟨j + 1, g, m, c, by omega, by go_num, rfl, Lib.hid (by rw [HNX.out]; exact HLEN.out), Lib.hid (by rw [HNX.out]; exact HONE.out.drewN _), Lib.hid (below_drewN' HBB.out _)⟩
              case measure => simp [intOf]; omega
            · obtain ⟨bD, oD, rfl, hbD, hcD⟩ := (HD.out.below HONE.out.below).str (fun e => by rw [e] at hdl; simp at hdl)
              obtain ⟨t, ht⟩ : ∃ t, D[dn] = t := ⟨_, rfl⟩
              have f1 := hcD dn hdl
              have htz : t.size ≤ 1048576 := by have h1 := totalS_get D dn hdl; rw [ht] at h1; omega
              rw [ht] at f1 hc1
              have y1 : (dn : Int) < (nD : Int) := by have := HND.out; omega
              have y0 : (0 : Int) ≤ (dn : Int) := by omega
              have dy : decide ((nD : Int) ≤ (dn : Int)) = false := decide_eq_false (by omega)
              have ny : ¬ (nD : Int) ≤ (dn : Int) := by omega
              have dz : decide ((t.size : Int) < (K : Int)) = true := decide_eq_true hc1
              have HNX := Lib.hid (show askTo S D s (K : Int) n (M.take i) ++ (E.take (j + 1)).filterMap (askE D s (K : Int) n (p0, (q : Int))) = askTo S D s (K : Int) n (M.take i) ++ (E.take j).filterMap (askE D s (K : Int) n (p0, (q : Int))) by rw [fm_no hjl (by rw [hm]; exact hap)])
              clear hap hjl hm S5 ht hcD
              go_quiet (fail)
              go_wp2
              go_roundw
              case rel => exact ⟨j + 1, g, m, c, by omega, by go_num, rfl, Lib.hid (by rw [HNX.out]; exact HLEN.out), Lib.hid (by rw [HNX.out]; exact HONE.out.drewN _), Lib.hid (below_drewN' HBB.out _)⟩
              case measure => simp [intOf]; omega
            · obtain ⟨bD, oD, rfl, hbD, hcD⟩ := (HD.out.below HONE.out.below).str (fun e => by rw [e] at hdl; simp at hdl)
              obtain ⟨t, ht⟩ : ∃ t, D[dn] = t := ⟨_, rfl⟩
              have f1 := hcD dn hdl
              have htz : t.size ≤ 1048576 := by have h1 := totalS_get D dn hdl; rw [ht] at h1; omega
              rw [ht] at f1 hc0 hc1
              have y1 : (dn : Int) < (nD : Int) := by have := HND.out; omega
              have y0 : (0 : Int) ≤ (dn : Int) := by omega
              have dy : decide ((nD : Int) ≤ (dn : Int)) = false := decide_eq_false (by omega)
              have ny : ¬ (nD : Int) ≤ (dn : Int) := by omega
              have dz : decide ((t.size : Int) < (K : Int)) = false := decide_eq_false (by omega)
              have nz : ¬ (t.size : Int) < (K : Int) := by omega
              have v1 : IntKind.i64.wrap ((t.size : Int) - (K : Int)) = (t.size : Int) - (K : Int) := IntWalk.i64_in _ (by omega)
              have da : decide ((t.size : Int) - (K : Int) < at_) = true := decide_eq_true hc1
              have HNX := Lib.hid (show askTo S D s (K : Int) n (M.take i) ++ (E.take (j + 1)).filterMap (askE D s (K : Int) n (p0, (q : Int))) = askTo S D s (K : Int) n (M.take i) ++ (E.take j).filterMap (askE D s (K : Int) n (p0, (q : Int))) by rw [fm_no hjl (by rw [hm]; exact hap)])
              clear hap hjl hm S5 ht hcD
              go_quiet (fail)
              go_wp2
              go_roundw
              case rel => exact ⟨j + 1, g, m, c, by omega, by go_num, rfl, Lib.hid (by rw [HNX.out]; exact HLEN.out), Lib.hid (by rw [HNX.out]; exact HONE.out.drewN _), Lib.hid (below_drewN' HBB.out _)⟩
              case measure => simp [intOf]; omega
            · obtain ⟨bD, oD, rfl, hbD, hcD⟩ := (HD.out.below HONE.out.below).str (fun e => by rw [e] at hdl; simp at hdl)
              obtain ⟨t, ht⟩ : ∃ t, D[dn] = t := ⟨_, rfl⟩
              have f1 := hcD dn hdl
              have htz : t.size ≤ 1048576 := by have h1 := totalS_get D dn hdl; rw [ht] at h1; omega
              rw [ht] at f1 hc0 hap
              have y1 : (dn : Int) < (nD : Int) := by have := HND.out; omega
              have y0 : (0 : Int) ≤ (dn : Int) := by omega
              have dy : decide ((nD : Int) ≤ (dn : Int)) = false := decide_eq_false (by omega)
              have ny : ¬ (nD : Int) ≤ (dn : Int) := by omega
              have dz : decide ((t.size : Int) < (K : Int)) = false := decide_eq_false (by omega)
              have nz : ¬ (t.size : Int) < (K : Int) := by omega
              have v1 : IntKind.i64.wrap ((t.size : Int) - (K : Int)) = (t.size : Int) - (K : Int) := IntWalk.i64_in _ (by omega)
              have da : decide ((t.size : Int) - (K : Int) < (An : Int)) = false := decide_eq_false (by omega)
              have na : ¬ (t.size : Int) - (K : Int) < (An : Int) := by omega
              have hways := around_ways t s K n An q hK1
              obtain ⟨P, hP⟩ : ∃ P, t.extract An (An + K) = P := ⟨_, rfl⟩
              obtain ⟨Q, hQ⟩ : ∃ P, s.extract q (q + K) = P := ⟨_, rfl⟩
              have hPQ : P = Q ↔ K ≤ runP t s An q := by rw [← hP, ← hQ]; exact extract_same hc0 hq9
              have sl1 : ∀ w, (Instr.slice 9 (.string t) (some (.int .i64 (An : Int))) (some (.int .i64 ((An : Int) + (K : Int)))) none).run Try.prog w = .ok (.string P) w := fun w => by
                have h1 := run_slice_string (P := Try.prog) w 9 t .i64 .i64 (An : Int) ((An : Int) + (K : Int)) Try.uls7 (by omega) (by omega) (by omega)
                rwa [Int.toNat_natCast, show ((An : Int) + (K : Int)).toNat = An + K by omega, hP] at h1
              have sl2 : ∀ w, (Instr.slice 9 (.string s) (some (.int .i64 (q : Int))) (some (.int .i64 ((q : Int) + (K : Int)))) none).run Try.prog w = .ok (.string Q) w := fun w => by
                have h1 := run_slice_string (P := Try.prog) w 9 s .i64 .i64 (q : Int) ((q : Int) + (K : Int)) Try.uls7 (by omega) (by omega) (by omega)
                rwa [Int.toNat_natCast, show ((q : Int) + (K : Int)).toNat = q + K by omega, hQ] at h1
              have v2 : IntKind.i64.wrap ((An : Int) + (K : Int)) = (An : Int) + (K : Int) := IntWalk.i64_in _ (by omega)
              have v3 : IntKind.i64.wrap ((q : Int) + (K : Int)) = (q : Int) + (K : Int) := IntWalk.i64_in _ (by omega)
              have hbD5 : bD < w5.heap.size := hbD
              have HSD := Lib.hid S5
              clear ht hcD hP hQ S5
              go_quiet (fail)
              have HKS := Lib.hid (show ∀ w', Below w5.heap.size w5 w' → (w'.cell? ⟨gt, 0, none⟩ = some (.int .i64 x0) ∧ w'.cell? ⟨gt, 1, none⟩ = some (.int .i64 (dn : Int)) ∧ w'.cell? ⟨gt, 2, none⟩ = some (.int .i64 (An : Int))) ∧ w'.cell? ⟨bD, oD + dn, none⟩ = some (.string t) ∧ w'.cell? ⟨bM, oM + i * 2, none⟩ = some (.int .i64 p0) ∧ w'.cell? ⟨bM, oM + i * 2 + 1, none⟩ = some (.int .i64 (q : Int)) from fun w' h =>
                ⟨⟨(HSD.out.later h).cell 0 _ rfl, (HSD.out.later h).cell 1 _ rfl, (HSD.out.later h).cell 2 _ rfl⟩, below_ents7 h hbD5 f1, HKM.out w' (HBB.out.trans (h.mono HBB.out.size))⟩)
              have hb6 := below_drewN' (Below.refl w5.heap.size w5) nq
              have HONE := Lib.hid (HONE.out.drewN nq)
              have HBB := Lib.hid (below_drewN' HBB.out nq)
              clear k0 k1 k2 f1
              obtain ⟨w6, hw6⟩ : ∃ w9, w5.drewN nq = w9 := ⟨_, rfl⟩
              rw [hw6] at hb6 HONE HBB
              rw [hw6]
              have HKS := Lib.hid (show ∀ w', Below w6.heap.size w6 w' → (w'.cell? ⟨gt, 0, none⟩ = some (.int .i64 x0) ∧ w'.cell? ⟨gt, 1, none⟩ = some (.int .i64 (dn : Int)) ∧ w'.cell? ⟨gt, 2, none⟩ = some (.int .i64 (An : Int))) ∧ w'.cell? ⟨bD, oD + dn, none⟩ = some (.string t) ∧ w'.cell? ⟨bM, oM + i * 2, none⟩ = some (.int .i64 p0) ∧ w'.cell? ⟨bM, oM + i * 2 + 1, none⟩ = some (.int .i64 (q : Int)) from fun w' h => HKS.out w' (hb6.trans (h.mono hb6.size)))
              clear hw6 hb6 HSD hbD5
              obtain ⟨⟨k0, k1, k2⟩, f1, e1, e2⟩ := HKS.out w6 (Below.refl _ _)
              rcases hways with ⟨hno, hap2⟩ | ⟨x, y, z, hok2, hg, hz, hap2⟩ | ⟨x, y, z, hok2, hg, hz, hap2⟩
              · have hb : (P.toList == Q.toList) = false := eq7_no (fun e => hno (hPQ.1 e))
                rw [hap2] at hap
                have HNX := Lib.hid (show askTo S D s (K : Int) n (M.take i) ++ (E.take (j + 1)).filterMap (askE D s (K : Int) n (p0, (q : Int))) = askTo S D s (K : Int) n (M.take i) ++ (E.take j).filterMap (askE D s (K : Int) n (p0, (q : Int))) by rw [fm_no hjl (by rw [hm]; exact hap)])
                clear hap hap2 hno hPQ hjl hm
                go_wp2
                go_quiet (fail)
                go_wp2
                go_roundw
                case rel => exact ⟨j + 1, g, m, c, by omega, by go_num, rfl, Lib.hid (by rw [HNX.out]; exact HLEN.out), Lib.hid (by rw [HNX.out]; exact HONE.out.drewN _), Lib.hid (below_drewN' HBB.out _)⟩
                case measure => simp [intOf]; omega
              · obtain rfl : P = Q := hPQ.2 hok2
                have cg := fun w => specGrow_any t s An q x y z true w hg (by omega) (by omega)
                rw [hap2] at hap
                have HNX := Lib.hid (show askTo S D s (K : Int) n (M.take i) ++ (E.take (j + 1)).filterMap (askE D s (K : Int) n (p0, (q : Int))) = askTo S D s (K : Int) n (M.take i) ++ (E.take j).filterMap (askE D s (K : Int) n (p0, (q : Int))) ++ [((dn : Int), x, y, z)] by rw [fm_yes hjl (by rw [hm]; exact hap), List.append_assoc])
                clear hap hap2 hok2 hPQ hjl hm hg
                go_wp2
                go_quiet (fail)
                have HONE := Lib.hid (HONE.out.drewN nq)
                have HBB := Lib.hid (below_drewN' HBB.out nq)
                have hb7 := below_drewN' (Below.refl w6.heap.size w6) nq
                obtain ⟨w7, hw7⟩ : ∃ w9, w6.drewN nq = w9 := ⟨_, rfl⟩
                rw [hw7] at hb7 HONE HBB
                rw [hw7]
                have HKS := Lib.hid (fun (w' : World) (h : Below w7.heap.size w7 w') => HKS.out w' (hb7.trans (h.mono hb7.size)))
                clear hw7 hb7 k0 k1 k2 f1 e1 e2
                obtain ⟨⟨k0, k1, k2⟩, f1, e1, e2⟩ := HKS.out w7 (Below.refl _ _)
                go_upto_region 15 with fail
                go_cut [19, 20] (fun s19 s20 wx => ∃ gp : Nat, s19 = .pointer (some ⟨gp, 0, none⟩) ∧ s20 = .bool true ∧ Hid (Below w7.heap.size w7 wx) ∧ Hid (wx.heap[gp]? = some (.cells #[.int .i64 x, .int .i64 y, .int .i64 z] 88 (0, 0))))
                case first =>
                  go_region_held3 (fun w' => (w'.cell? ⟨gt, 0, none⟩ = some (.int .i64 x0) ∧ w'.cell? ⟨gt, 1, none⟩ = some (.int .i64 (dn : Int)) ∧ w'.cell? ⟨gt, 2, none⟩ = some (.int .i64 (An : Int))) ∧ w'.cell? ⟨bD, oD + dn, none⟩ = some (.string t) ∧ w'.cell? ⟨bM, oM + i * 2, none⟩ = some (.int .i64 p0) ∧ w'.cell? ⟨bM, oM + i * 2 + 1, none⟩ = some (.int .i64 (q : Int))) (first | go_keep | exact HKS.out _ hc8 | exact HKS.out _ (hc8.alloc hc8.size _) | exact HKS.out _ (((hc8.setCell (p := ⟨w7.heap.size, 0, none⟩) (Nat.le_refl _) _).setCell (p := ⟨w7.heap.size, 1, none⟩) (Nat.le_refl _) _).setCell (p := ⟨w7.heap.size, 2, none⟩) (Nat.le_refl _) _) | exact HKS.out _ ((Below.refl _ _).alloc (Nat.le_refl _) _))
                    ((go_at_call 65; refine (cg _).mono ?_; rintro e w8 ⟨rfl, hb8⟩; have hc8 : Below w7.heap.size w7 w8 := (by first | exact below_call8 hb8 | exact below_acall8 hb8); (first | (have zz := cells_own8 hb8; have z1 := cell_own8 hb8 0 _ rfl; have z2 := cell_own8 hb8 1 _ rfl; have z3 := cell_own8 hb8 2 _ rfl; have y1 := frozen_own8 hb8 0; have y2 := frozen_own8 hb8 1; have y3 := frozen_own8 hb8 2) | skip)))
                  all_goals (
                    go_wp2
                    go_meet
                    first
                      | exact ⟨_, rfl, rfl, Lib.hid (hc8.alloc hc8.size _), Lib.hid (heap_alloc_new w8 _)⟩
                      | exact ⟨_, rfl, rfl, Lib.hid (((hc8.setCell (p := ⟨w7.heap.size, 0, none⟩) (Nat.le_refl _) _).setCell (p := ⟨w7.heap.size, 1, none⟩) (Nat.le_refl _) _).setCell (p := ⟨w7.heap.size, 2, none⟩) (Nat.le_refl _) _), Lib.hid (piece_set8 w8 w7.heap.size _ _ _ zz)⟩)
                case rest =>
                obtain ⟨gp, rfl, rfl, HC9, HGP⟩ := hcut
                have HONE := Lib.hid (HONE.out.later HC9.out)
                have HBB := Lib.hid (HBB.out.trans (HC9.out.mono HBB.out.size))
                obtain ⟨⟨k0, k1, k2⟩, f1, e1, e2⟩ := HKS.out _ HC9.out
                have j0 := cell_of_row wc gp 0 _ _ _ HGP.out
                have j1 := cell_of_row wc gp 1 _ _ _ HGP.out
                have j2 := cell_of_row wc gp 2 _ _ _ HGP.out
                clear HC9 HKS cg f1 e1 e2 k0 k2
                have hz2 : decide (n ≤ z) = true := decide_eq_true hz
                obtain ⟨L, hL⟩ : ∃ L, askTo S D s (K : Int) n (M.take i) ++ (E.take j).filterMap (askE D s (K : Int) n (p0, (q : Int))) = L := ⟨_, rfl⟩
                have HNX := Lib.hid (show putF ((dn : Int), x, y, z) (rowF L) = rowF (askTo S D s (K : Int) n (M.take i) ++ (E.take (j + 1)).filterMap (askE D s (K : Int) n (p0, (q : Int)))) by rw [HNX.out, ← hL, putF_snoc])
                rw [hL] at HLEN HONE
                clear hL
                have cp := specPut8_any (rowF L) (dn : Int) x y z g m c w.heap.size w _ HLEN.out hm9 HONE.out
                go_wp2_with fail
                refine cp.mono ?_
                rintro e w10 ⟨g8, n8, c8, rfl, hn8, o8, b8⟩
                have HN8 := Lib.hid hn8
                clear hn8 cp
                go_wp2
                go_roundw
                case rel => exact ⟨j + 1, g8, n8, c8, by omega, by go_num, rfl, Lib.hid (by rw [← HNX.out]; exact HN8.out), Lib.hid (by rw [← HNX.out]; exact o8), Lib.hid (HBB.out.trans (b8.mono HBB.out.size))⟩
                case measure => simp [intOf]; omega
              · obtain rfl : P = Q := hPQ.2 hok2
                have cg := fun w => specGrow_any t s An q x y z true w hg (by omega) (by omega)
                rw [hap2] at hap
                have HNX := Lib.hid (show askTo S D s (K : Int) n (M.take i) ++ (E.take (j + 1)).filterMap (askE D s (K : Int) n (p0, (q : Int))) = askTo S D s (K : Int) n (M.take i) ++ (E.take j).filterMap (askE D s (K : Int) n (p0, (q : Int))) by rw [fm_no hjl (by rw [hm]; exact hap)])
                clear hap hap2 hok2 hPQ hjl hm hg
                go_wp2
                go_quiet (fail)
                have HONE := Lib.hid (HONE.out.drewN nq)
                have HBB := Lib.hid (below_drewN' HBB.out nq)
                have hb7 := below_drewN' (Below.refl w6.heap.size w6) nq
                obtain ⟨w7, hw7⟩ : ∃ w9, w6.drewN nq = w9 := ⟨_, rfl⟩
                rw [hw7] at hb7 HONE HBB
                rw [hw7]
                have HKS := Lib.hid (fun (w' : World) (h : Below w7.heap.size w7 w') => HKS.out w' (hb7.trans (h.mono hb7.size)))
                clear hw7 hb7 k0 k1 k2 f1 e1 e2
                obtain ⟨⟨k0, k1, k2⟩, f1, e1, e2⟩ := HKS.out w7 (Below.refl _ _)
                go_upto_region 15 with fail
                go_cut [19, 20] (fun s19 s20 wx => ∃ gp : Nat, s19 = .pointer (some ⟨gp, 0, none⟩) ∧ s20 = .bool true ∧ Hid (Below w7.heap.size w7 wx) ∧ Hid (wx.heap[gp]? = some (.cells #[.int .i64 x, .int .i64 y, .int .i64 z] 88 (0, 0))))
                case first =>
                  go_region_held3 (fun w' => (w'.cell? ⟨gt, 0, none⟩ = some (.int .i64 x0) ∧ w'.cell? ⟨gt, 1, none⟩ = some (.int .i64 (dn : Int)) ∧ w'.cell? ⟨gt, 2, none⟩ = some (.int .i64 (An : Int))) ∧ w'.cell? ⟨bD, oD + dn, none⟩ = some (.string t) ∧ w'.cell? ⟨bM, oM + i * 2, none⟩ = some (.int .i64 p0) ∧ w'.cell? ⟨bM, oM + i * 2 + 1, none⟩ = some (.int .i64 (q : Int))) (first | go_keep | exact HKS.out _ hc8 | exact HKS.out _ (hc8.alloc hc8.size _) | exact HKS.out _ (((hc8.setCell (p := ⟨w7.heap.size, 0, none⟩) (Nat.le_refl _) _).setCell (p := ⟨w7.heap.size, 1, none⟩) (Nat.le_refl _) _).setCell (p := ⟨w7.heap.size, 2, none⟩) (Nat.le_refl _) _) | exact HKS.out _ ((Below.refl _ _).alloc (Nat.le_refl _) _))
                    ((go_at_call 65; refine (cg _).mono ?_; rintro e w8 ⟨rfl, hb8⟩; have hc8 : Below w7.heap.size w7 w8 := (by first | exact below_call8 hb8 | exact below_acall8 hb8); (first | (have zz := cells_own8 hb8; have z1 := cell_own8 hb8 0 _ rfl; have z2 := cell_own8 hb8 1 _ rfl; have z3 := cell_own8 hb8 2 _ rfl; have y1 := frozen_own8 hb8 0; have y2 := frozen_own8 hb8 1; have y3 := frozen_own8 hb8 2) | skip)))
                  all_goals (
                    go_wp2
                    go_meet
                    first
                      | exact ⟨_, rfl, rfl, Lib.hid (hc8.alloc hc8.size _), Lib.hid (heap_alloc_new w8 _)⟩
                      | exact ⟨_, rfl, rfl, Lib.hid (((hc8.setCell (p := ⟨w7.heap.size, 0, none⟩) (Nat.le_refl _) _).setCell (p := ⟨w7.heap.size, 1, none⟩) (Nat.le_refl _) _).setCell (p := ⟨w7.heap.size, 2, none⟩) (Nat.le_refl _) _), Lib.hid (piece_set8 w8 w7.heap.size _ _ _ zz)⟩)
                case rest =>
                obtain ⟨gp, rfl, rfl, HC9, HGP⟩ := hcut
                have HONE := Lib.hid (HONE.out.later HC9.out)
                have HBB := Lib.hid (HBB.out.trans (HC9.out.mono HBB.out.size))
                obtain ⟨⟨k0, k1, k2⟩, f1, e1, e2⟩ := HKS.out _ HC9.out
                have j0 := cell_of_row wc gp 0 _ _ _ HGP.out
                have j1 := cell_of_row wc gp 1 _ _ _ HGP.out
                have j2 := cell_of_row wc gp 2 _ _ _ HGP.out
                clear HC9 HKS cg f1 e1 e2 k0 k2
                have hz2 : decide (n ≤ z) = false := decide_eq_false (by omega)
                go_wp2
                go_roundw
                case rel => exact ⟨j + 1, g, m, c, by omega, by go_num, rfl, Lib.hid (by rw [HNX.out]; exact HLEN.out), Lib.hid (by rw [HNX.out]; exact HONE.out), HBB⟩
                case measure => simp [intOf]; omega
          · have u1 : ¬ (j : Int) < (nE : Int) := by omega
            have HEX := Lib.hid (show askTo S D s (K : Int) n (M.take i) ++ (E.take j).filterMap (askE D s (K : Int) n (p0, (q : Int))) = askTo S D s (K : Int) n (M.take (i + 1)) by
              rw [show E.take j = E from List.take_of_length_le (by have := HNE.out; omega), askTo_next hil, HPQ.out, askM, HE1.out])
            have HB4 := Lib.hid (HB3.out.trans (HB.out.mono HB3.out.size))
            go_wp2
            go_roundw
            case rel => exact ⟨i + 1, g, m, c, by omega, by go_num, rfl, Lib.hid (by rw [← HEX.out]; exact HLEN.out), Lib.hid (by rw [← HEX.out]; exact HO.out), HB4⟩
            case measure => simp [intOf]; omega
      · have z1 : ¬ (i : Int) < (nM : Int) := by omega
        have HEX := Lib.hid (show M.take i = M from List.take_of_length_le (by have := HNM.out; omega))
        go_wp2
        go_ret
        exact ⟨_, _, _, rfl, by rw [HR.out, askR, HMK.out]; have h := HO.out; rw [HEX.out] at h; exact h⟩
  · have c0 := fun w h => specShelfOk_is false S a nS cS w ⟨(fun h => absurd h (by decide)), (fun h => absurd h hok)⟩ HNS.out (by omega) h
    have HR := Lib.hid (ask8_not (L := S) (D := D) (s := s) (k := k) (w := v) (n := n) (fun h => hok h.1))
    clear hok
    go_enter Try.func45, Try.ntmps45
    go_wp2_with fail
    refine (c0 _ (HS.out.below ((Below.refl _ _).alloc (Nat.le_refl _) _))).mono ?_
    rintro e w1 ⟨rfl, b1⟩
    go_wp2
    go_ret
    exact ⟨_, _, _, rfl, by rw [HR.out]; exact (One.empty w 101 4).later b1⟩

end Go.Proofs.Ytbnagmjhdnnheaa

namespace Go.Proofs.Ytbnagmjhdnnheaa

/-- Ahead of another one. -/
def ltI (x y : Int) : Prop := x < y
instance (x y : Int) : Decidable (ltI x y) := by unfold ltI; infer_instance
theorem ltI_irrefl (x : Int) : ¬ ltI x x := by unfold ltI; omega
theorem ltI_trans {x y z : Int} (h : ltI x y) (k : ltI y z) : ltI x z := by unfold ltI at *; omega
theorem ltI_asymm {x y : Int} (h : ltI x y) : ¬ ltI y x := by unfold ltI at *; omega
theorem ltI_three (x y : Int) : ltI x y ∨ x = y ∨ ltI y x := by unfold ltI; omega

/-- The row in order of these numbers. -/
structure IsRowI (l : List Int) (S : List Int) : Prop where
  up : S.Pairwise ltI
  mem : ∀ x, x ∈ S ↔ x ∈ l
theorem IsRowI.unique {l S T : List Int} (h : IsRowI l S) (k : IsRowI l T) : S = T := pairwise_unique ltI_irrefl (fun _ _ => ltI_asymm) h.up k.up fun x => (h.mem x).trans (k.mem x).symm

/-- How many numbers are ahead. -/
def atI (x : Int) : List Int → Nat
  | [] => 0
  | y :: l => if ltI y x then atI x l + 1 else 0
/-- A number put among others. -/
def putI (x : Int) (l : List Int) : List Int := if l[atI x l]? = some x then l else l.take (atI x l) ++ x :: l.drop (atI x l)

theorem atI_le (x : Int) (l : List Int) : atI x l ≤ l.length := by
  induction l with
  | nil => exact Nat.le_refl _
  | cons y l ih => unfold atI; split <;> simp <;> omega
theorem atI_ahead (x : Int) (l : List Int) (i : Nat) (h : i < atI x l) (hi : i < l.length) : ltI l[i] x := by
  induction l generalizing i with
  | nil => simp at hi
  | cons y l ih =>
    unfold atI at h
    split at h
    · rename_i h2
      cases i with
      | zero => exact h2
      | succ i => exact ih i (by omega) (by simpa using hi)
    · omega
theorem atI_not (x : Int) (l : List Int) (h : atI x l < l.length) : ¬ ltI l[atI x l] x := by
  induction l with
  | nil => simp at h
  | cons y l ih =>
    by_cases h2 : ltI y x
    · have e : atI x (y :: l) = atI x l + 1 := by rw [atI, if_pos h2]
      simp only [e] at h ⊢
      simpa using ih (by simpa using h)
    · have e : atI x (y :: l) = 0 := by rw [atI, if_neg h2]
      simp only [e]
      exact h2
theorem atI_is (x : Int) (l : List Int) (k : Nat) (hk : k ≤ l.length) (h1 : ∀ i, i < k → ∀ h : i < l.length, ltI l[i] x) (h2 : ∀ h : k < l.length, ¬ ltI l[k] x) : atI x l = k := by
  rcases Nat.lt_trichotomy (atI x l) k with h | h | h
  · exact absurd (h1 _ h (by omega)) (atI_not x l (by omega))
  · exact h
  · exact absurd (atI_ahead x l k h (by have := atI_le x l; omega)) (h2 (by have := atI_le x l; omega))

theorem putI_row {l S : List Int} (x : Int) (h : IsRowI l S) : IsRowI (x :: l) (putI x S) := by
  unfold putI
  have hle := atI_le x S
  by_cases he : S[atI x S]? = some x
  · rw [if_pos he]
    refine ⟨h.up, fun y => ?_⟩
    rw [h.mem, List.mem_cons]
    refine ⟨.inr, fun hy => ?_⟩
    rcases hy with rfl | hy
    · exact (h.mem _).1 (List.mem_of_getElem? he)
    · exact hy
  · rw [if_neg he]
    have hb : ∀ y ∈ S.drop (atI x S), ltI x y := by
      intro y hy
      obtain ⟨i, hi, rfl⟩ := List.getElem_of_mem hy
      rw [List.length_drop] at hi
      rw [List.getElem_drop]
      have hlt : atI x S < S.length := by omega
      have h0 : ltI x S[atI x S] := by
        rcases ltI_three x S[atI x S] with h1 | h1 | h1
        · exact h1
        · exact absurd (by rw [List.getElem?_eq_getElem hlt, ← h1]) he
        · exact absurd h1 (atI_not x S hlt)
      by_cases e : i = 0
      · subst e; exact h0
      · exact ltI_trans h0 (List.pairwise_iff_getElem.1 h.up (atI x S) (atI x S + i) hlt (by omega) (by omega))
    have ha : ∀ y ∈ S.take (atI x S), ltI y x := by
      intro y hy
      obtain ⟨i, hi, rfl⟩ := List.getElem_of_mem hy
      rw [List.length_take] at hi
      rw [List.getElem_take]
      exact atI_ahead x S i (by omega) (by omega)
    refine ⟨?_, fun y => ?_⟩
    · rw [List.pairwise_append, List.pairwise_cons]
      refine ⟨h.up.take, ⟨hb, h.up.drop⟩, fun y hy z hz => ?_⟩
      rcases List.mem_cons.1 hz with rfl | hz
      · exact ha y hy
      · exact ltI_trans (ha y hy) (hb z hz)
    · have e : y ∈ S ↔ y ∈ S.take (atI x S) ∨ y ∈ S.drop (atI x S) := by rw [← List.mem_append, List.take_append_drop]
      rw [List.mem_append, List.mem_cons, List.mem_cons, ← h.mem, e]
      constructor
      · rintro (h1 | h1 | h1)
        · exact .inr (.inl h1)
        · exact .inl h1
        · exact .inr (.inr h1)
      · rintro (h1 | h1 | h1)
        · exact .inr (.inl h1)
        · exact .inl h1
        · exact .inr (.inr h1)

/-- Entries in order, each once. -/
def rowI : List Int → List Int
  | [] => []
  | x :: l => putI x (rowI l)
theorem rowI_is (l : List Int) : IsRowI l (rowI l) := by
  induction l with
  | nil => exact ⟨.nil, fun x => Iff.rfl⟩
  | cons x l ih => exact putI_row x ih
theorem rowI_of {l S : List Int} (h : IsRowI l S) : rowI l = S := (rowI_is l).unique h
theorem rowI_self {l : List Int} (h : l.Pairwise ltI) : rowI l = l := rowI_of ⟨h, fun _ => Iff.rfl⟩
theorem rowI_mem (l : List Int) (x : Int) : x ∈ rowI l ↔ x ∈ l := (rowI_is l).mem x
theorem rowI_same {l m : List Int} (h : ∀ x, x ∈ l ↔ x ∈ m) : rowI l = rowI m := rowI_of ⟨(rowI_is m).up, fun x => ((rowI_is m).mem x).trans (h x).symm⟩
theorem putI_snoc (x : Int) (l : List Int) : putI x (rowI l) = rowI (l ++ [x]) := by
  refine (rowI_of ?_).symm
  have h := putI_row x (rowI_is l)
  exact ⟨h.up, fun y => (h.mem y).trans (by simp [or_comm])⟩
theorem putI_len (x : Int) (l : List Int) : (putI x l).length ≤ l.length + 1 := by
  unfold putI
  split
  · omega
  · rw [List.length_append, List.length_cons, List.length_take, List.length_drop]; have := atI_le x l; omega
theorem rowI_len (l : List Int) : (rowI l).length ≤ l.length := by
  induction l with
  | nil => exact Nat.le_refl _
  | cons x l ih => have := putI_len x (rowI l); rw [rowI, List.length_cons]; omega

theorem putI_at {l : List Int} {X : Int} {p : Nat} (hp : p ≤ l.length) (h1 : ∀ i, i < p → ∀ h : i < l.length, l[i] < X) (h2 : ∀ h : p < l.length, ¬ l[p] < X) : putI X l = if l[p]? = some X then l else l.take p ++ X :: l.drop p := by
  have e := atI_is X l p hp h1 h2
  rw [putI, e]

end Go.Proofs.Ytbnagmjhdnnheaa

namespace Go.Proofs.Ytbnagmjhdnnheaa

/-- Where a merge of two rows stands. -/
structure GM {α : Type} (r : α → α → Prop) (A B : List α) (i k : Nat) (S : List α) : Prop where
  up : S.Pairwise r
  mem : ∀ x, x ∈ S ↔ x ∈ A.take i ∨ x ∈ B.take k
  lo : ∀ x ∈ S, ∀ h : i < A.length, r x A[i]
  hi : ∀ x ∈ S, ∀ h : k < B.length, r x B[k]

theorem gm_start {α : Type} (r : α → α → Prop) (A B : List α) : GM r A B 0 0 [] := ⟨.nil, by intro x; simp, by intro x hx; simp at hx, by intro x hx; simp at hx⟩
theorem GM.turn {α : Type} {r : α → α → Prop} {A B : List α} {i k : Nat} {S : List α} (h : GM r A B i k S) : GM r B A k i S := ⟨h.up, fun x => (h.mem x).trans or_comm, h.hi, h.lo⟩
theorem gup_at {α : Type} {r : α → α → Prop} {A : List α} (hA : A.Pairwise r) {i j : Nat} (hij : i < j) (hj : j < A.length) : r (A[i]'(by omega)) A[j] := List.pairwise_iff_getElem.1 hA i j (by omega) hj hij
theorem GM.takeA {α : Type} {r : α → α → Prop} (ht : ∀ x y z, r x y → r y z → r x z) {A B : List α} {i k : Nat} {S : List α} (h : GM r A B i k S) (hA : A.Pairwise r) (hi : i < A.length) (hk : ∀ h : k < B.length, r A[i] B[k]) : GM r A B (i + 1) k (S ++ [A[i]]) := by
  refine ⟨?_, fun x => ?_, fun x hx h2 => ?_, fun x hx h2 => ?_⟩
  · rw [List.pairwise_append]
    refine ⟨h.up, List.pairwise_singleton _ _, fun x hx y hy => ?_⟩
    obtain rfl := List.mem_singleton.1 hy
    exact h.lo x hx hi
  · rw [List.mem_append, h.mem, List.mem_singleton, List.take_succ_eq_append_getElem hi, List.mem_append, List.mem_singleton]
    constructor
    · rintro ((h1 | h1) | h1)
      · exact .inl (.inl h1)
      · exact .inr h1
      · exact .inl (.inr h1)
    · rintro ((h1 | h1) | h1)
      · exact .inl (.inl h1)
      · exact .inr h1
      · exact .inl (.inr h1)
  · rcases List.mem_append.1 hx with h1 | h1
    · exact ht _ _ _ (h.lo x h1 hi) (gup_at hA (by omega) h2)
    · obtain rfl := List.mem_singleton.1 h1
      exact gup_at hA (by omega) h2
  · rcases List.mem_append.1 hx with h1 | h1
    · exact h.hi x h1 h2
    · obtain rfl := List.mem_singleton.1 h1
      exact hk h2
theorem GM.takeB {α : Type} {r : α → α → Prop} (ht : ∀ x y z, r x y → r y z → r x z) {A B : List α} {i k : Nat} {S : List α} (h : GM r A B i k S) (hB : B.Pairwise r) (hk : k < B.length) (hi : ∀ h : i < A.length, r B[k] A[i]) : GM r A B i (k + 1) (S ++ [B[k]]) := (h.turn.takeA ht hB hk hi).turn
theorem GM.both {α : Type} {r : α → α → Prop} (ht : ∀ x y z, r x y → r y z → r x z) {A B : List α} {i k : Nat} {S : List α} (h : GM r A B i k S) (hA : A.Pairwise r) (hB : B.Pairwise r) (hi : i < A.length) (hk : k < B.length) (he : A[i] = B[k]) : GM r A B (i + 1) (k + 1) (S ++ [A[i]]) := by
  refine ⟨?_, fun x => ?_, fun x hx h2 => ?_, fun x hx h2 => ?_⟩
  · rw [List.pairwise_append]
    refine ⟨h.up, List.pairwise_singleton _ _, fun x hx y hy => ?_⟩
    obtain rfl := List.mem_singleton.1 hy
    exact h.lo x hx hi
  · rw [List.mem_append, h.mem, List.mem_singleton, List.take_succ_eq_append_getElem hi, List.take_succ_eq_append_getElem hk, List.mem_append, List.mem_singleton, List.mem_append, List.mem_singleton, he]
    constructor
    · rintro ((h1 | h1) | h1)
      · exact .inl (.inl h1)
      · exact .inr (.inl h1)
      · exact .inl (.inr h1)
    · rintro ((h1 | h1) | (h1 | h1))
      · exact .inl (.inl h1)
      · exact .inr h1
      · exact .inl (.inr h1)
      · exact .inr h1
  · rcases List.mem_append.1 hx with h1 | h1
    · exact ht _ _ _ (h.lo x h1 hi) (gup_at hA (by omega) h2)
    · obtain rfl := List.mem_singleton.1 h1
      exact gup_at hA (by omega) h2
  · rcases List.mem_append.1 hx with h1 | h1
    · exact ht _ _ _ (h.hi x h1 hk) (gup_at hB (by omega) h2)
    · obtain rfl := List.mem_singleton.1 h1
      rw [he]
      exact gup_at hB (by omega) h2
theorem gm_rest {α : Type} {r : α → α → Prop} (ht : ∀ x y z, r x y → r y z → r x z) {A : List α} {i : Nat} (hA : A.Pairwise r) {x : α} (hx : ∀ h : i < A.length, r x A[i]) : ∀ y ∈ A.drop i, r x y := by
  intro y hy
  obtain ⟨j, hj, rfl⟩ := List.getElem_of_mem hy
  rw [List.length_drop] at hj
  rw [List.getElem_drop]
  by_cases e : j = 0
  · subst e; exact hx (by omega)
  · exact ht _ _ _ (hx (by omega)) (gup_at hA (by omega) (by omega))
theorem GM.tail {α : Type} {r : α → α → Prop} (ht : ∀ x y z, r x y → r y z → r x z) {A B : List α} {i k : Nat} {S : List α} (h : GM r A B i k S) (hA : A.Pairwise r) (hB : B.Pairwise r) (he : A.length ≤ i ∨ B.length ≤ k) :
    (S ++ A.drop i ++ B.drop k).Pairwise r ∧ ∀ x, x ∈ S ++ A.drop i ++ B.drop k ↔ x ∈ A ++ B := by
  constructor
  · rw [List.pairwise_append, List.pairwise_append]
    refine ⟨⟨h.up, hA.drop, fun x hx => gm_rest ht hA (h.lo x hx)⟩, hB.drop, fun x hx y hy => ?_⟩
    rcases List.mem_append.1 hx with h1 | h1
    · exact gm_rest ht hB (h.hi x h1) y hy
    · rcases he with h2 | h2
      · rw [List.drop_of_length_le h2] at h1; simp at h1
      · rw [List.drop_of_length_le h2] at hy; simp at hy
  · intro x
    have e1 : x ∈ A ↔ x ∈ A.take i ∨ x ∈ A.drop i := by rw [← List.mem_append, List.take_append_drop]
    have e2 : x ∈ B ↔ x ∈ B.take k ∨ x ∈ B.drop k := by rw [← List.mem_append, List.take_append_drop]
    rw [List.mem_append, List.mem_append, List.mem_append, h.mem, e1, e2]
    constructor
    · rintro (((h1 | h1) | h1) | h1)
      · exact .inl (.inl h1)
      · exact .inr (.inl h1)
      · exact .inl (.inr h1)
      · exact .inr (.inr h1)
    · rintro ((h1 | h1) | (h1 | h1))
      · exact .inl (.inl (.inl h1))
      · exact .inl (.inr h1)
      · exact .inl (.inl (.inr h1))
      · exact .inr h1

theorem gmE_done {A B : List En} {i k : Nat} {S : List En} (h : GM enLt A B i k S) (hA : A.Pairwise enLt) (hB : B.Pairwise enLt) (he : A.length ≤ i ∨ B.length ≤ k) : rowE (A ++ B) = S ++ A.drop i ++ B.drop k := by
  have h1 := GM.tail (r := enLt) (fun _ _ _ => enLt_trans) h hA hB he
  exact rowE_of ⟨h1.1, h1.2⟩
theorem gmI_done {A B : List Int} {i k : Nat} {S : List Int} (h : GM ltI A B i k S) (hA : A.Pairwise ltI) (hB : B.Pairwise ltI) (he : A.length ≤ i ∨ B.length ≤ k) : rowI (A ++ B) = S ++ A.drop i ++ B.drop k := by
  have h1 := GM.tail (r := ltI) (fun _ _ _ => ltI_trans) h hA hB he
  exact rowI_of ⟨h1.1, h1.2⟩
theorem rowE_halves (l : List En) (h : Nat) : rowE (rowE (l.take h) ++ rowE (l.drop h)) = rowE l := by
  refine rowE_same fun x => ?_
  rw [List.mem_append, rowE_mem, rowE_mem, ← List.mem_append, List.take_append_drop]
theorem rowI_halves (l : List Int) (h : Nat) : rowI (rowI (l.take h) ++ rowI (l.drop h)) = rowI l := by
  refine rowI_same fun x => ?_
  rw [List.mem_append, rowI_mem, rowI_mem, ← List.mem_append, List.take_append_drop]
theorem rowE_short {l : List En} (h : l.length < 2) : rowE l = l := by
  refine rowE_self ?_
  match l, h with
  | [], _ => exact .nil
  | [x], _ => exact List.pairwise_singleton _ _
theorem rowI_short {l : List Int} (h : l.length < 2) : rowI l = l := by
  refine rowI_self ?_
  match l, h with
  | [], _ => exact .nil
  | [x], _ => exact List.pairwise_singleton _ _

/-- The first place at which a number is not less. -/
def posI (l : List Int) (p : Int) : Nat := l.findIdx (fun x => decide (p ≤ x))
theorem posI_le (l : List Int) (p : Int) : posI l p ≤ l.length := List.findIdx_le_length
theorem posI_lt {l : List Int} {p : Int} {i : Nat} (h : i < posI l p) (hi : i < l.length) : l[i] < p := by
  have h1 := List.not_of_lt_findIdx h
  simp at h1
  exact h1
theorem posI_is {l : List Int} {p : Int} {k : Nat} (hk : k ≤ l.length) (h1 : ∀ i (h : i < l.length), i < k → l[i] < p) (h2 : ∀ h : k < l.length, p ≤ l[k]) : posI l p = k := by
  rcases Nat.lt_trichotomy (posI l p) k with h | h | h
  · have h3 := h1 (posI l p) (by omega) h
    have h4 := List.findIdx_getElem (xs := l) (p := fun x => decide (p ≤ x)) (w := by show posI l p < l.length; omega)
    simp at h4
    have h5 : p ≤ l[posI l p]'(by omega) := h4
    omega
  · exact h
  · have := posI_le l p
    have h3 := posI_lt h (by omega)
    have h4 := h2 (by omega)
    omega

/-- The fingerprints of entries. -/
def prL (l : List En) : List Int := l.map (fun x => x.1)
theorem prL_len (l : List En) : (prL l).length = l.length := by simp [prL]
theorem prL_get (l : List En) (i : Nat) (h : i < l.length) : (prL l)[i]'(by rw [prL_len]; exact h) = l[i].1 := by simp [prL]

/-- Up, and the same may come again. -/
def UpI (P : List Int) : Prop := ∀ i j (hij : i ≤ j) (hj : j < P.length), P[i]'(by omega) ≤ P[j]
theorem upI_pos {P : List Int} (h : UpI P) {p : Int} {k : Nat} (hk : k < P.length) (hp : posI P p ≤ k) : p ≤ P[k] := by
  have h1 : posI P p < P.length := by omega
  have h4 := List.findIdx_getElem (xs := P) (p := fun x => decide (p ≤ x)) (w := h1)
  simp at h4
  have h5 : p ≤ P[posI P p] := h4
  have h6 := h (posI P p) k hp hk
  omega

/-- A row told place by place. -/
def vecI (n : Nat) (f : Nat → Int) : List Int := (List.range n).map f
theorem vecI_len (n : Nat) (f : Nat → Int) : (vecI n f).length = n := by simp [vecI]
theorem vecI_get (n : Nat) (f : Nat → Int) (i : Nat) (h : i < n) : (vecI n f)[i]'(by rw [vecI_len]; exact h) = f i := by simp [vecI]
theorem vecI_same {n : Nat} {f g : Nat → Int} (h : ∀ i, i < n → f i = g i) : vecI n f = vecI n g := by
  unfold vecI
  apply List.map_congr_left
  intro i hi
  exact h i (by simpa using hi)
theorem vecI_set {n : Nat} {f g : Nat → Int} {i : Nat} {v : Int} (hv : g i = v) (h : ∀ j, j < n → j ≠ i → g j = f j) : (vecI n f).set i v = vecI n g := by
  apply List.ext_getElem
  · rw [List.length_set, vecI_len, vecI_len]
  · intro j h1 h2
    rw [vecI_len] at h2
    rw [List.getElem_set]
    split
    · rename_i e; subst e; rw [vecI_get _ _ _ h2, hv]
    · rename_i e; rw [vecI_get _ _ _ h2, vecI_get _ _ _ h2, h j h2 (fun e2 => e e2.symm)]
theorem vecI_zero (n : Nat) : vecI n (fun _ => 0) = List.replicate n 0 := by
  apply List.ext_getElem
  · rw [vecI_len, List.length_replicate]
  · intro i h1 h2; rw [vecI_len] at h1; rw [vecI_get _ _ _ h1, List.getElem_replicate]

/-- How many marks have a fingerprint. -/
def cM (M : List (Int × Int)) (p : Int) : Nat := (M.filter (fun m => m.1 == p)).length
theorem cM_len (M : List (Int × Int)) (p : Int) : cM M p ≤ M.length := List.length_filter_le _ _
theorem cM_snoc {M : List (Int × Int)} {j : Nat} (hj : j < M.length) (p : Int) : cM (M.take (j + 1)) p = cM (M.take j) p + (if M[j].1 = p then 1 else 0) := by
  rw [cM, cM, List.take_succ_eq_append_getElem hj, List.filter_append, List.length_append]
  by_cases h : M[j].1 = p
  · rw [if_pos h]; simp [h]
  · rw [if_neg h]; simp [h]

/-- What is counted at the first entry of each fingerprint. -/
def t1 (P : List Int) (M : List (Int × Int)) (i : Nat) : Int := if posI P (P.getD i 0) = i then (cM M (P.getD i 0) : Int) else 0
theorem getD_at (P : List Int) (i : Nat) (h : i < P.length) : P.getD i 0 = P[i] := by simp [h]
theorem t1_zero (P : List Int) (i : Nat) : t1 P [] i = 0 := by unfold t1; split <;> simp [cM]
theorem t1_hit {P : List Int} {M : List (Int × Int)} {j : Nat} (hj : j < M.length) {p : Int} (hp : M[j].1 = p) (ha : posI P p < P.length) (he : P[posI P p] = p) :
    t1 P (M.take (j + 1)) (posI P p) = t1 P (M.take j) (posI P p) + 1 ∧ ∀ i, i < P.length → i ≠ posI P p → t1 P (M.take (j + 1)) i = t1 P (M.take j) i := by
  constructor
  · have e : P.getD (posI P p) 0 = p := by rw [getD_at _ _ ha, he]
    unfold t1
    rw [e, if_pos rfl, if_pos rfl, cM_snoc hj, if_pos hp]
    omega
  · intro i hi hne
    unfold t1
    split
    · rename_i h1
      rw [cM_snoc hj, if_neg (fun h2 => hne (by rw [← hp, h2]; exact h1.symm))]
      omega
    · rfl
theorem t1_miss {P : List Int} (hU : UpI P) {M : List (Int × Int)} {j : Nat} (hj : j < M.length) {p : Int} (hp : M[j].1 = p) (h : ∀ ha : posI P p < P.length, P[posI P p] ≠ p) :
    ∀ i, i < P.length → t1 P (M.take (j + 1)) i = t1 P (M.take j) i := by
  intro i hi
  have hne : ¬ P[i] = p := by
    intro e
    by_cases h1 : i < posI P p
    · have := posI_lt h1 hi; omega
    · have h2 : posI P p < P.length := by omega
      have h3 := upI_pos hU h2 (Nat.le_refl _)
      have h4 := hU (posI P p) i (by omega) hi
      exact h h2 (by omega)
  unfold t1
  rw [getD_at _ _ hi]
  split
  · rw [cM_snoc hj, if_neg (fun h2 => hne (by rw [← hp, h2]))]
    omega
  · rfl

/-- What is counted behind the second loop has come so far. -/
def t2 (P : List Int) (M : List (Int × Int)) (k i : Nat) : Int := if i < k then (cM M (P.getD i 0) : Int) else t1 P M i
theorem t2_one {P : List Int} (M : List (Int × Int)) (i : Nat) (hi : i < P.length) : t2 P M 1 i = t1 P M i := by
  unfold t2
  split
  · obtain rfl : i = 0 := by omega
    unfold t1
    rw [if_pos]
    refine posI_is (Nat.zero_le _) (fun j _ hj => absurd hj (Nat.not_lt_zero _)) (fun h => by rw [getD_at _ _ hi]; exact Int.le_refl _)
  · rfl
theorem t2_same {P : List Int} {M : List (Int × Int)} {k : Nat} (hk : k + 1 < P.length) (h : P[k + 1] = P[k]) : t2 P M (k + 2) (k + 1) = t2 P M (k + 1) k ∧ ∀ i, i < P.length → i ≠ k + 1 → t2 P M (k + 2) i = t2 P M (k + 1) i := by
  constructor
  · unfold t2
    rw [if_pos (by omega), if_pos (by omega), getD_at _ _ hk, getD_at _ _ (by omega), h]
  · intro i hi hne
    unfold t2
    by_cases h1 : i < k + 1
    · rw [if_pos h1, if_pos (by omega)]
    · rw [if_neg h1, if_neg (by omega)]
theorem t2_new {P : List Int} (hU : UpI P) {M : List (Int × Int)} {k : Nat} (hk : k + 1 < P.length) (h : ¬ P[k + 1] = P[k]) : ∀ i, i < P.length → t2 P M (k + 2) i = t2 P M (k + 1) i := by
  intro i hi
  unfold t2
  by_cases h1 : i < k + 1
  · rw [if_pos h1, if_pos (by omega)]
  · rw [if_neg h1]
    by_cases h2 : i = k + 1
    · subst h2
      rw [if_pos (by omega)]
      unfold t1
      rw [if_pos]
      refine posI_is (by omega) (fun j hj hjk => ?_) (fun h => by rw [getD_at _ _ hi]; exact Int.le_refl _)
      rw [getD_at _ _ hi]
      have h3 := hU j k (by omega) (by omega)
      have h4 := hU k (k + 1) (by omega) hk
      omega
    · rw [if_neg (by omega)]

/-- How often pairs of entries of a text and marks have one fingerprint, entry by entry. -/
def sD (l : List En) (M : List (Int × Int)) (d : Int) : Nat := ((l.filter (fun x => x.2.1 == d)).map (fun x => cM M x.1)).sum
theorem sD_snoc {l : List En} (M : List (Int × Int)) {i : Nat} (hi : i < l.length) (d : Int) : sD (l.take (i + 1)) M d = sD (l.take i) M d + (if l[i].2.1 = d then cM M l[i].1 else 0) := by
  rw [sD, sD, List.take_succ_eq_append_getElem hi, List.filter_append, List.map_append, List.sum_append]
  by_cases h : l[i].2.1 = d
  · rw [if_pos h]; simp [h]
  · rw [if_neg h]; simp [h]
theorem sD_nil (l : List En) (d : Int) : sD l [] d = 0 := by
  unfold sD
  induction l with
  | nil => rfl
  | cons x l ih => rw [List.filter_cons]; split <;> simp_all [cM]
theorem cM_cons (m : Int × Int) (M : List (Int × Int)) (p : Int) : cM (m :: M) p = (if p = m.1 then 1 else 0) + cM M p := by
  unfold cM
  rw [List.filter_cons]
  by_cases h : p = m.1
  · subst h; simp; omega
  · rw [if_neg h]
    have : (m.1 == p) = false := by simp; omega
    simp [this]
theorem sD_cons (l : List En) (m : Int × Int) (M : List (Int × Int)) (d : Int) : sD l (m :: M) d = ((l.filter (fun x => x.1 == m.1)).filter (fun x => x.2.1 == d)).length + sD l M d := by
  unfold sD
  induction l with
  | nil => rfl
  | cons x l ih =>
    rw [List.filter_cons, List.filter_cons]
    by_cases h1 : x.2.1 = d
    · have h2 : (x.2.1 == d) = true := by simpa using h1
      rw [if_pos h2, List.map_cons, List.map_cons, List.sum_cons, List.sum_cons, ih, cM_cons]
      by_cases h3 : x.1 = m.1
      · have h4 : (x.1 == m.1) = true := by simpa using h3
        rw [if_pos h3, if_pos h4, List.filter_cons, if_pos h2, List.length_cons]; omega
      · have h4 : ¬ (x.1 == m.1) = true := by simpa using h3
        rw [if_neg h3, if_neg h4]; omega
    · have h2 : ¬ (x.2.1 == d) = true := by simpa using h1
      rw [if_neg h2, ih]
      by_cases h4 : (x.1 == m.1) = true
      · rw [if_pos h4, List.filter_cons, if_neg h2]
      · rw [if_neg h4]
theorem sD_le (l : List En) (M : List (Int × Int)) (d : Int) : sD l M d ≤ l.length * M.length := by
  unfold sD
  induction l with
  | nil => simp
  | cons x l ih =>
    rw [List.filter_cons, List.length_cons, Nat.add_mul, Nat.one_mul]
    split
    · rw [List.map_cons, List.sum_cons]
      have := cM_len M x.1
      omega
    · omega

/-- A number of a row in order stands at its place. -/
theorem posI_mem {D : List Int} (hD : D.Pairwise ltI) {i : Nat} (hi : i < D.length) : posI D D[i] = i :=
  posI_is (by omega) (fun j hj hji => by
    have := gup_at hD hji hi
    unfold ltI at this; exact this) (fun _ => Int.le_refl _)

end Go.Proofs.Ytbnagmjhdnnheaa

namespace Go.Proofs.Ytbnagmjhdnnheaa

/-- Of twins with one shift those are first that are first in the text. -/
def OrdT (T : List (Int × Int)) : Prop := ∀ i j (hi : i < T.length) (hj : j < T.length), i < j → T[i].1 - T[i].2 = T[j].1 - T[j].2 → T[i].1 ≤ T[j].1
/-- Twins at places. -/
def PosT (T : List (Int × Int)) : Prop := ∀ x ∈ T, 0 ≤ x.1 ∧ x.1 ≤ 9223372036854775807 ∧ 0 ≤ x.2 ∧ x.2 ≤ 9223372036854775807
theorem ordT_of {T : List (Int × Int)} (h : T.Pairwise (fun p q => p.1 - p.2 = q.1 - q.2 → p.1 ≤ q.1)) : OrdT T := fun i j hi hj hij => List.pairwise_iff_getElem.1 h i j hi hj hij

theorem okP_run {s t : ByteArray} {x y k : Int} (hx : 0 ≤ x) (hy : 0 ≤ y) (hk : 1 ≤ k) : okP s t (x, y, k) ↔ k.toNat ≤ runP s t x.toNat y.toNat := by
  rw [okP_iff]
  constructor
  · exact fun h => h.2.2.2.2.2
  · intro h
    have hsm := runP_same s t x.toNat y.toNat 0 (by omega)
    have h1 := hsm.1
    have h2 := hsm.2.1
    have h3 := runP_room s t x.toNat y.toNat (by omega) (by omega)
    exact ⟨hx, hy, hk, by omega, by omega, h⟩
/-- The place behind what grows. -/
theorem growN_end (s t : ByteArray) (i j : Nat) : (growN s t i j).1 + (growN s t i j).2.2 = ((i + runP s t i j : Nat) : Int) := by
  have h1 := backP_le s t i j
  have h2 := runP_back s t i j
  simp only [growN, h2]
  omega
/-- From the places behind it the same one grows. -/
theorem growN_on {s t : ByteArray} {i j d : Nat} (h : d < runP s t i j) : growN s t (i + d) (j + d) = growN s t i j := by
  have h1 := backP_le s t i j
  have h2 := runP_back s t i j
  have h3 := (growN_same (s := s) (t := t) (i := i) (j := j) (k := backP s t i j + d) (by omega)).2
  rwa [show i - backP s t i j + (backP s t i j + d) = i + d by omega, show j - backP s t i j + (backP s t i j + d) = j + d by omega] at h3

/-- So many twins have been seen: what was found, and behind which place there is something new for each shift. -/
structure GrownI (s t : ByteArray) (k n : Int) (T : List (Int × Int)) (q : Nat) (E : Int → Int) (L : List En) : Prop where
  mem : ∀ p, p ∈ L ↔ p ∈ foundTo s t k n (T.take q)
  ends : ∀ d, E d = 0 ∨ ∃ i, ∃ h : i < T.length, i < q ∧ T[i].1 - T[i].2 = d ∧ k.toNat ≤ runP s t T[i].1.toNat T[i].2.toNat ∧ E d = ((T[i].1.toNat + runP s t T[i].1.toNat T[i].2.toNat : Nat) : Int)
  len : L.length ≤ q
  room : ∀ d, 0 ≤ E d ∧ E d ≤ s.size
theorem grown_start (s t : ByteArray) (k n : Int) (T : List (Int × Int)) : GrownI s t k n T 0 (fun _ => 0) [] := ⟨fun p => by simp [foundTo], fun _ => .inl rfl, Nat.le_refl _, fun _ => ⟨Int.le_refl _, by omega⟩⟩
theorem GrownI.wider {s t : ByteArray} {k n : Int} {T : List (Int × Int)} {q : Nat} {E : Int → Int} {L : List En} (h : GrownI s t k n T q E L) (hm : ∀ p, p ∈ foundTo s t k n (T.take (q + 1)) ↔ p ∈ foundTo s t k n (T.take q)) : GrownI s t k n T (q + 1) E L :=
  ⟨fun p => (h.mem p).trans (hm p).symm, fun d => (h.ends d).imp id (fun ⟨i, hi, h1, h2⟩ => ⟨i, hi, by omega, h2⟩), by have := h.len; omega, h.room⟩
/-- A twin within what has grown already: nothing new. -/
theorem GrownI.within {s t : ByteArray} {k n : Int} {T : List (Int × Int)} {q : Nat} {E : Int → Int} {L : List En} (h : GrownI s t k n T q E L) (hO : OrdT T) (hP : PosT T) (hk : 1 ≤ k) (hq : q < T.length) (hin : T[q].1 < E (T[q].1 - T[q].2)) : GrownI s t k n T (q + 1) E L := by
  refine h.wider fun p => ?_
  cases ha : aroundP s t k n T[q].1.toNat T[q].2.toNat with
  | none => rw [foundTo_no hq ha]
  | some r =>
    rw [foundTo_yes hq ha, List.mem_append]
    refine ⟨fun hp => ?_, .inl⟩
    rcases hp with hp | hp
    · exact hp
    · obtain rfl : p = r := by simpa using hp
      have hpq := hP T[q] (List.getElem_mem hq)
      rcases h.ends (T[q].1 - T[q].2) with h0 | ⟨i, hi, h1, h2, h3, h4⟩
      · omega
      · have hpi := hP T[i] (List.getElem_mem hi)
        have ho := hO i q hi hq h1 h2
        rw [h4] at hin
        obtain ⟨a1, a2, a3⟩ := aroundP_some.1 ha
        have g := growN_on (s := s) (t := t) (i := T[i].1.toNat) (j := T[i].2.toNat) (d := T[q].1.toNat - T[i].1.toNat) (by omega)
        rw [show T[i].1.toNat + (T[q].1.toNat - T[i].1.toNat) = T[q].1.toNat by omega, show T[i].2.toNat + (T[q].1.toNat - T[i].1.toNat) = T[q].2.toNat by omega] at g
        rw [foundTo, List.mem_filterMap]
        refine ⟨T[i], ?_, aroundP_some.2 ⟨h3, a2, a3.trans g⟩⟩
        rw [List.mem_take_iff_getElem]
        exact ⟨i, by omega, rfl⟩
/-- A twin whose bytes differ: nothing new. -/
theorem GrownI.lies {s t : ByteArray} {k n : Int} {T : List (Int × Int)} {q : Nat} {E : Int → Int} {L : List En} (h : GrownI s t k n T q E L) (hq : q < T.length) (hno : ¬ k.toNat ≤ runP s t T[q].1.toNat T[q].2.toNat) : GrownI s t k n T (q + 1) E L :=
  h.wider fun p => by rw [foundTo_no hq (by rw [aroundP, if_neg (fun e => hno e.1)])]
/-- A new piece. -/
theorem GrownI.grows {s t : ByteArray} {k n : Int} {T : List (Int × Int)} {q : Nat} {E E' : Int → Int} {L : List En} (h : GrownI s t k n T q E L) (hk : 1 ≤ k) (hq : q < T.length) (hr : k.toNat ≤ runP s t T[q].1.toNat T[q].2.toNat)
    (h1 : E' (T[q].1 - T[q].2) = (growN s t T[q].1.toNat T[q].2.toNat).1 + (growN s t T[q].1.toNat T[q].2.toNat).2.2) (h2 : ∀ d, d ≠ T[q].1 - T[q].2 → E' d = E d) :
    (n ≤ (growN s t T[q].1.toNat T[q].2.toNat).2.2 → GrownI s t k n T (q + 1) E' (L ++ [growN s t T[q].1.toNat T[q].2.toNat])) ∧ (¬ n ≤ (growN s t T[q].1.toNat T[q].2.toNat).2.2 → GrownI s t k n T (q + 1) E' L) := by
  rw [growN_end] at h1
  have he : ∀ d, E' d = 0 ∨ ∃ i, ∃ h : i < T.length, i < q + 1 ∧ T[i].1 - T[i].2 = d ∧ k.toNat ≤ runP s t T[i].1.toNat T[i].2.toNat ∧ E' d = ((T[i].1.toNat + runP s t T[i].1.toNat T[i].2.toNat : Nat) : Int) := by
    intro d
    by_cases hd : d = T[q].1 - T[q].2
    · subst hd
      exact .inr ⟨q, hq, by omega, rfl, hr, h1⟩
    · rw [h2 d hd]
      exact (h.ends d).imp id (fun ⟨i, hi, a, b⟩ => ⟨i, hi, by omega, b⟩)
  have hro : ∀ d, 0 ≤ E' d ∧ E' d ≤ s.size := by
    intro d
    by_cases hd : d = T[q].1 - T[q].2
    · subst hd
      have hsm := runP_same s t T[q].1.toNat T[q].2.toNat 0 (by omega)
      have h3 := hsm.1
      have h4 := hsm.2.1
      have h5 := runP_room s t T[q].1.toNat T[q].2.toNat (by omega) (by omega)
      omega
    · rw [h2 d hd]
      exact h.room d
  have hl := h.len
  constructor
  · intro hn
    have hs := aroundP_some.2 ⟨hr, hn, rfl⟩
    refine ⟨fun p => ?_, he, by rw [List.length_append]; simp; omega, hro⟩
    rw [foundTo_yes hq hs, List.mem_append, List.mem_append, h.mem]
  · intro hn
    refine ⟨fun p => ?_, he, by omega, hro⟩
    rw [foundTo_no hq (by rw [aroundP, if_neg (fun e => hn e.2)]), h.mem]
theorem GrownI.done {s t : ByteArray} {k n : Int} {T : List (Int × Int)} {q : Nat} {E : Int → Int} {L : List En} (h : GrownI s t k n T q E L) (hq : q = T.length) : rowE L = rowE (foundTo s t k n T) := by
  subst hq
  refine rowE_same fun p => ?_
  rw [h.mem, List.take_length]

/-- Twins of marks are in order. -/
theorem mkL_up (s : ByteArray) (k w : Int) : (mkL s k w).Pairwise (fun p q => p.2 ≤ q.2) := by
  rw [mkL, marksL, List.pairwise_map]
  refine List.Pairwise.imp ?_ (chosenN_up _ w)
  intro a b hab
  simp only
  omega
theorem twins_ord (s t : ByteArray) (k w : Int) : OrdT (twinsL (mkL s k w) (mkL t k w)) := by
  refine ordT_of (List.Pairwise.imp (R := fun (p q : Int × Int) => p.1 ≤ q.1) (fun h e => by omega) ?_)
  rw [twinsL]
  have h := mkL_up s k w
  generalize mkL s k w = A at h ⊢
  induction A with
  | nil => exact .nil
  | cons a A ih =>
    rw [List.pairwise_cons] at h
    rw [List.flatMap_cons, List.pairwise_append]
    refine ⟨?_, ih h.2, ?_⟩
    · rw [rowT, List.pairwise_map]
      exact List.pairwise_of_forall (fun _ _ => Int.le_refl _)
    · intro x hx y hy
      obtain ⟨_, _, rfl⟩ := List.mem_map.1 hx
      obtain ⟨b, hb, hy⟩ := List.mem_flatMap.1 hy
      obtain ⟨_, _, rfl⟩ := List.mem_map.1 hy
      exact h.1 b hb
theorem twins_pos {s t : ByteArray} {k w : Int} (hs : s.size ≤ 1048576) (ht : t.size ≤ 1048576) : PosT (twinsL (mkL s k w) (mkL t k w)) := fun x hx => by
  obtain ⟨i, j, K, _, _, rfl, h1, h2, _⟩ := twin_in hx
  simp only
  omega

/-- Twins of a text with a number: its entries with the fingerprint of a mark. -/
def twOf (L : List En) (M : List (Int × Int)) (d : Int) : List (Int × Int) := M.flatMap fun m => ((withP L m.1).filter fun x => x.2.1 == d).map fun x => (x.2.2, m.2)
theorem twOf_mem {L : List En} {M : List (Int × Int)} {d : Int} {z : Int × Int} : z ∈ twOf L M d ↔ ∃ m ∈ M, ∃ x ∈ L, x.1 = m.1 ∧ x.2.1 = d ∧ z = (x.2.2, m.2) := by
  rw [twOf, List.mem_flatMap]
  constructor
  · rintro ⟨m, hm, h⟩
    obtain ⟨x, hx, rfl⟩ := List.mem_map.1 h
    rw [List.mem_filter, withP, List.mem_filter] at hx
    exact ⟨m, hm, x, hx.1.1, by simpa using hx.1.2, by simpa using hx.2, rfl⟩
  · rintro ⟨m, hm, x, hx, h1, h2, rfl⟩
    exact ⟨m, hm, List.mem_map.2 ⟨x, by rw [List.mem_filter, withP, List.mem_filter]; exact ⟨⟨hx, by simpa using h1⟩, by simpa using h2⟩, rfl⟩⟩
theorem twOf_ord (L : List En) (s : ByteArray) (k w : Int) (d : Int) : OrdT (twOf L (mkL s k w) d) := by
  refine ordT_of (List.Pairwise.imp (R := fun (p q : Int × Int) => p.2 ≤ q.2) (fun h e => by omega) ?_)
  rw [twOf]
  have h := mkL_up s k w
  generalize mkL s k w = A at h ⊢
  induction A with
  | nil => exact .nil
  | cons a A ih =>
    rw [List.pairwise_cons] at h
    rw [List.flatMap_cons, List.pairwise_append]
    refine ⟨?_, ih h.2, ?_⟩
    · rw [List.pairwise_map]
      exact List.pairwise_of_forall (fun _ _ => Int.le_refl _)
    · intro x hx y hy
      obtain ⟨_, _, rfl⟩ := List.mem_map.1 hx
      obtain ⟨b, hb, hy⟩ := List.mem_flatMap.1 hy
      obtain ⟨_, _, rfl⟩ := List.mem_map.1 hy
      exact h.1 b hb
theorem twOf_pos {L : List En} (hL : ∀ x ∈ L, enOk x) (hL9 : ∀ x ∈ L, x.2.2 ≤ 9223372036854775807) {s : ByteArray} {k w : Int} (hs : s.size ≤ 1048576) (d : Int) : PosT (twOf L (mkL s k w) d) := fun z hz => by
  obtain ⟨m, hm, x, hx, _, _, rfl⟩ := twOf_mem.1 hz
  have h1 := hL x hx
  have h2 := hL9 x hx
  obtain ⟨i, K, _, _, rfl, h3, _⟩ := mkL_in hm
  unfold enOk at h1
  simp only
  omega
theorem sum_le_of {α : Type} (l : List α) (f : α → Nat) (c : Nat) (h : ∀ x ∈ l, f x ≤ c) : (l.map f).sum ≤ l.length * c := by
  induction l with
  | nil => simp
  | cons x l ih =>
    rw [List.map_cons, List.sum_cons, List.length_cons, Nat.succ_mul]
    have h1 := h x (by simp)
    have h2 := ih (fun y hy => h y (by simp [hy]))
    omega
theorem twOf_len (L : List En) (M : List (Int × Int)) (d : Int) : (twOf L M d).length ≤ M.length * L.length := by
  rw [twOf, List.length_flatMap]
  refine sum_le_of M _ L.length fun m _ => ?_
  rw [List.length_map]
  exact Nat.le_trans (List.length_filter_le _ _) (withP_len L m.1)
/-- What is told of each text, one text behind the other, is what is found by the shelf. -/
theorem ask_byDocs {L : List En} (hL : ∀ x ∈ L, enOk x) (D : List ByteArray) (s : ByteArray) {k : Int} (hk : 1 ≤ k) (w n : Int) : byDocs (fun i => rowE (foundTo (docAt D i) s k n (twOf L (mkL s k w) (i : Int)))) D.length = askR L D s k w n := by
  refine pairwise_unique fdLt_irrefl (fun _ _ => fdLt_asymm) (byDocs_up (fun i => (rowE_is _).up) _) (rowF_is _).up fun f => ?_
  rw [byDocs_mem, askR, rowF_mem, askTo_mem]
  constructor
  · rintro ⟨i, hi, h1, h2⟩
    rw [rowE_mem, foundTo, List.mem_filterMap] at h2
    obtain ⟨z, hz, h2⟩ := h2
    obtain ⟨m, hm, x, hx, h3, h4, rfl⟩ := twOf_mem.1 hz
    refine ⟨m, hm, x, hx, h3, askE_some.2 ⟨by omega, ?_, by rw [h1, h4], by rw [h4, Int.toNat_natCast]; exact h2⟩⟩
    have h5 := (aroundP_some.1 h2).1
    simp only at h5
    have h6 := hL x hx
    unfold enOk at h6
    have hsm := runP_same (docAt D i) s x.2.2.toNat m.2.toNat 0 (by omega)
    have a1 := hsm.1
    have a2 := hsm.2.1
    have a3 := runP_room (docAt D i) s x.2.2.toNat m.2.toNat (by omega) (by omega)
    rw [h4, Int.toNat_natCast]
    omega
  · rintro ⟨m, hm, x, hx, h3, h⟩
    obtain ⟨h1, _, h2, h4⟩ := askE_some.1 h
    have h6 := hL x hx
    unfold enOk at h6
    refine ⟨x.2.1.toNat, by omega, by omega, ?_⟩
    rw [rowE_mem, foundTo, List.mem_filterMap]
    exact ⟨(x.2.2, m.2), twOf_mem.2 ⟨m, hm, x, hx, h3, by omega, rfl⟩, h4⟩

/-- The shelves of the first texts, one behind the other. -/
def sofTo (D : List ByteArray) (k w : Int) (m : Nat) : List En := (List.range m).flatMap fun i => rowE (entsOf i (mkL (docAt D i) k w))
theorem sofTo_next (D : List ByteArray) (k w : Int) (m : Nat) : sofTo D k w (m + 1) = sofTo D k w m ++ rowE (entsOf m (mkL (docAt D m) k w)) := by
  rw [sofTo, List.range_succ, List.flatMap_append]; simp [sofTo]
theorem sofTo_row (D : List ByteArray) (k w : Int) (m : Nat) : rowE (sofTo D k w m) = allN D k w m := by
  rw [allN]
  refine rowE_same fun x => ?_
  rw [sofTo, allTo, List.mem_flatMap, List.mem_flatMap]
  constructor
  · rintro ⟨i, hi, h⟩; exact ⟨i, hi, (rowE_mem _ _).1 h⟩
  · rintro ⟨i, hi, h⟩; exact ⟨i, hi, (rowE_mem _ _).2 h⟩

end Go.Proofs.Ytbnagmjhdnnheaa
