/-
  The contract of the model's function l5Put. Condition: rows have at most 2^21 entries. (Written by wip/tools/ch5_put.py.)
  The contract of the model's function ShelfOf. Condition: texts have at most 2^21 bytes.
-/
import Derived.Test.YtclblnkeakkdeaaMg26
import Derived.Test.YtclblnkeakkdeaaMg18
namespace Go.Proofs.Ytclblnkeakkdeaa
open Go.RowKit

theorem cellsAt_rec3 (w : World) (e : TypeId) (a b c : Value) (g : Nat) (hg : g = w.heap.size) : CellsAt (w.alloc (.cells #[a, b, c] e)) (some ⟨g, 0, none⟩) [a, b, c] := cellsAt_lit w e #[a, b, c] g hg

theorem putE_at {l : List En} {X : En} {p : Nat} (hp : p ≤ l.length) (h1 : ∀ i, i < p → ∀ h : i < l.length, enLt l[i] X) (h2 : ∀ h : p < l.length, ¬ enLt l[p] X) : putE X l = if l[p]? = some X then l else l.take p ++ X :: l.drop p := by
  have e := atE_is X l p hp h1 h2
  rw [putE, e]

set_option maxRecDepth 8000 in
set_option maxHeartbeats 40000000 in
theorem specPut5_any (l : List En) (x y z : Int) (g n c B : Nat) (W w : World) (hn : n = l.length) (hl : n ≤ 2097152) (hone : One W B w 31 3 (some ⟨g, 0, none⟩) n c (entsC l)) :
    Calls Try.prog 120 #[.slice (some ⟨g, 0, none⟩) n c, .agg #[.int .i64 x, .int .i64 y, .int .i64 z]] w fun e w' => ∃ g' n' c', e = .returned (.slice (some ⟨g', 0, none⟩) n' c') ∧ n' = (putE (x, y, z) l).length ∧ One W B w' 31 3 (some ⟨g', 0, none⟩) n' c' (entsC (putE (x, y, z) l)) ∧ Below w.heap.size w w' := by
  have HN := Lib.hid hn
  have hcap := hone.cap
  obtain ⟨hnc, hc9⟩ := hcap
  have hbx : Below w.heap.size w (w.alloc (.cells #[.int .i64 x, .int .i64 y, .int .i64 z] 31)) := (Below.refl _ _).alloc (Nat.le_refl _) _
  obtain ⟨gx, hgx⟩ : ∃ gx, w.heap.size = gx := ⟨_, rfl⟩
  have hx0 : (w.alloc (.cells #[.int .i64 x, .int .i64 y, .int .i64 z] 31)).cell? ⟨gx, 0, none⟩ = some (.int .i64 x) ∧ (w.alloc (.cells #[.int .i64 x, .int .i64 y, .int .i64 z] 31)).cell? ⟨gx, 1, none⟩ = some (.int .i64 y) ∧ (w.alloc (.cells #[.int .i64 x, .int .i64 y, .int .i64 z] 31)).cell? ⟨gx, 2, none⟩ = some (.int .i64 z) := by
    subst hgx
    exact ⟨cell_of_row _ w.heap.size 0 _ _ (0, 0) (heap_alloc_new w _), cell_of_row _ w.heap.size 1 _ _ (0, 0) (heap_alloc_new w _), cell_of_row _ w.heap.size 2 _ _ (0, 0) (heap_alloc_new w _)⟩
  have hone1 := hone.alloc (.cells #[.int .i64 x, .int .i64 y, .int .i64 z] 31)
  have hgx1 : gx < (w.alloc (.cells #[.int .i64 x, .int .i64 y, .int .i64 z] 31)).heap.size := by rw [← hgx]; simp
  have HGX := Lib.hid hgx
  have HB0' := Lib.hid hbx
  clear hn hone hbx hgx
  go_enter Try.func120, Try.ntmps120
  go_wp2
  rw [HGX.out]
  generalize hw1 : w.alloc (.cells #[.int .i64 x, .int .i64 y, .int .i64 z] 31) = w1
  have HB0 := Lib.hid (show ∀ w', Below w1.heap.size w1 w' → Below w.heap.size w w' from fun w' h => by have h2 := HB0'.out; rw [HGX.out, hw1] at h2; rw [HGX.out]; exact h2.trans (h.mono (Nat.le_of_lt (by rw [← hw1]; exact hgx1))))
  rw [hw1] at hx0 hone1 hgx1
  clear hw1 HB0'
  have HX := Lib.hid (show ∀ w', Below w1.heap.size w1 w' → w'.cell? ⟨gx, 0, none⟩ = some (.int .i64 x) ∧ w'.cell? ⟨gx, 1, none⟩ = some (.int .i64 y) ∧ w'.cell? ⟨gx, 2, none⟩ = some (.int .i64 z) from fun w' h => ⟨below_ents h hgx1 hx0.1, below_ents h hgx1 hx0.2.1, below_ents h hgx1 hx0.2.2⟩)
  have HO := Lib.hid (show ∀ w', Below w1.heap.size w1 w' → One W B w' 31 3 (some ⟨g, 0, none⟩) n c (entsC l) from fun w' h => hone1.later h)
  clear hx0 hone1
  go_loopw [5] (fun p_ wr => ∃ p : Nat, p ≤ n ∧ p_ = .int .i64 p ∧ Hid (∀ i, i < p → ∀ h : i < l.length, enLt l[i] (x, y, z)) ∧ Below w1.heap.size w1 wr) (fun p_ _ => n - (intOf p_).toNat)
  case atStart => exact ⟨0, Nat.zero_le _, rfl, Lib.hid (fun i h => absurd h (Nat.not_lt_zero _)), Below.refl _ _⟩
  case round =>
    obtain ⟨p, hp, rfl, HP, Bw⟩ := hrel
    obtain ⟨b1, b2, b3⟩ := HX.out wr Bw
    have hone := HO.out wr Bw
    by_cases hpn : p < n
    · have hpl : p < l.length := by have := HN.out; omega
      obtain ⟨x', hx⟩ : ∃ x', l[p].1 = x' := ⟨_, rfl⟩
      obtain ⟨y', hy⟩ : ∃ y', l[p].2.1 = y' := ⟨_, rfl⟩
      obtain ⟨z', hz⟩ : ∃ z', l[p].2.2 = z' := ⟨_, rfl⟩
      have hm : l[p] = (x', y', z') := by rw [← hx, ← hy, ← hz]
      obtain ⟨g', o', hgo, hg9, g1, g2, g3⟩ := ent_cells hone.at_ hpl hm
      obtain ⟨rfl, rfl⟩ := (by simpa using hgo : g = g' ∧ 0 = o')
      rw [Nat.zero_add] at g1 g2 g3
      have HM := Lib.hid hm
      have z1 : (p : Int) < (n : Int) := by omega
      have z2 : (0 : Int) ≤ (p : Int) := by omega
      have hgxr : gx < wr.heap.size := Nat.lt_of_lt_of_le hgx1 Bw.size
      have HKS := Lib.hid (show ∀ w', Below wr.heap.size wr w' → (w'.cell? ⟨gx, 0, none⟩ = some (.int .i64 x) ∧ w'.cell? ⟨gx, 1, none⟩ = some (.int .i64 y) ∧ w'.cell? ⟨gx, 2, none⟩ = some (.int .i64 z)) ∧ w'.cell? ⟨g, p * 3, none⟩ = some (.int .i64 x') ∧ w'.cell? ⟨g, p * 3 + 1, none⟩ = some (.int .i64 y') ∧ w'.cell? ⟨g, p * 3 + 2, none⟩ = some (.int .i64 z') from fun w' h => ⟨⟨below_ents h hgxr b1, below_ents h hgxr b2, below_ents h hgxr b3⟩, below_ents h hg9 g1, below_ents h hg9 g2, below_ents h hg9 g3⟩)
      have t1 : decide (p < n) = true := decide_eq_true hpn
      clear hx hy hz hm hgo
      by_cases hlt : enLt (x', y', z') (x, y, z)
      · have c1 := fun w => specLess_is true x' y' z' x y z w ⟨fun _ => hlt, fun _ => rfl⟩
        have HP2 := Lib.hid (show ∀ i, i < p + 1 → ∀ h : i < l.length, enLt l[i] (x, y, z) from fun i h1 h2 => by
          by_cases e : i = p
          · subst e; rw [HM.out]; exact hlt
          · exact HP.out i (by omega) h2)
        clear hlt HP hone
        go_wp2
        go_region_held3 (fun w' => (w'.cell? ⟨gx, 0, none⟩ = some (.int .i64 x) ∧ w'.cell? ⟨gx, 1, none⟩ = some (.int .i64 y) ∧ w'.cell? ⟨gx, 2, none⟩ = some (.int .i64 z)) ∧ w'.cell? ⟨g, p * 3, none⟩ = some (.int .i64 x') ∧ w'.cell? ⟨g, p * 3 + 1, none⟩ = some (.int .i64 y') ∧ w'.cell? ⟨g, p * 3 + 2, none⟩ = some (.int .i64 z')) (first | go_keep | exact HKS.out _ (Below.trans (by repeat (first | exact Below.refl _ _ | refine Below.drew ?_ | refine below_drewN' ?_ _)) (hb5.mono (by simp))))
          ((go_at_call 101; refine (c1 _).mono ?_; rintro e w5 ⟨rfl, hb5⟩))
        go_wp2
        go_roundw
        case rel => exact ⟨p + 1, by omega, by go_num, HP2, Bw.trans (Below.mono (Below.trans (by repeat (first | exact Below.refl _ _ | refine Below.drew ?_ | refine below_drewN' ?_ _)) (hb5.mono (by simp))) Bw.size)⟩
        case measure => simp [intOf]; omega
      · have c1 := fun w => specLess_is false x' y' z' x y z w ⟨(fun h => absurd h (by decide)), (fun h => absurd h hlt)⟩
        have hput := putE_at (X := (x, y, z)) (by have := HN.out; omega) HP.out (fun h => by rw [HM.out]; exact hlt)
        rw [List.getElem?_eq_getElem hpl, HM.out] at hput
        have HPUT := Lib.hid hput
        clear hlt HP hone hput
        go_wp2
        go_region_held3 (fun w' => (w'.cell? ⟨gx, 0, none⟩ = some (.int .i64 x) ∧ w'.cell? ⟨gx, 1, none⟩ = some (.int .i64 y) ∧ w'.cell? ⟨gx, 2, none⟩ = some (.int .i64 z)) ∧ w'.cell? ⟨g, p * 3, none⟩ = some (.int .i64 x') ∧ w'.cell? ⟨g, p * 3 + 1, none⟩ = some (.int .i64 y') ∧ w'.cell? ⟨g, p * 3 + 2, none⟩ = some (.int .i64 z')) (first | go_keep | exact HKS.out _ (Below.trans (by repeat (first | exact Below.refl _ _ | refine Below.drew ?_ | refine below_drewN' ?_ _)) (hb5.mono (by simp))))
          ((go_at_call 101; refine (c1 _).mono ?_; rintro e w5 ⟨rfl, hb5⟩))
        have W5 : Below wr.heap.size wr w5 := (Below.trans (by repeat (first | exact Below.refl _ _ | refine Below.drew ?_ | refine below_drewN' ?_ _)) (hb5.mono (by simp)))
        obtain ⟨⟨b1, b2, b3⟩, g1, g2, g3⟩ := HKS.out w5 W5
        have B5 : Below w1.heap.size w1 w5 := Bw.trans (W5.mono Bw.size)
        clear hb5 HKS c1 W5 Bw
        by_cases he : (x', y', z') = (x, y, z)
        · have HE := Lib.hid (HPUT.out.trans (if_pos (by rw [he])))
          simp only [Prod.mk.injEq] at he
          obtain ⟨rfl, rfl, rfl⟩ := he
          have tx : (x' == x') = true := beq_self_eq_true _
          have ty : (y' == y') = true := beq_self_eq_true _
          have tz : (z' == z') = true := beq_self_eq_true _
          go_wp2
          go_quiet (fail)
          go_wp2
          go_ret
          have HOn := HO.out w5 B5
          exact ⟨_, _, _, rfl, by rw [HE.out]; exact HN.out, by rw [HE.out]; exact HOn.drewN _, HB0.out _ (below_drewN' B5 _)⟩
        · have HE := Lib.hid (HPUT.out.trans (if_neg (fun h => he (by injection h))))
          have hcase : (x' == x) = false ∨ (x' == x) = true ∧ ((y' == y) = false ∨ (y' == y) = true ∧ (z' == z) = false) := by
            by_cases h1 : x' = x
            · by_cases h2 : y' = y
              · by_cases h3 : z' = z
                · exact absurd (by rw [h1, h2, h3]) he
                · exact .inr ⟨by simpa using h1, .inr ⟨by simpa using h2, by simpa using h3⟩⟩
              · exact .inr ⟨by simpa using h1, .inl (by simpa using h2)⟩
            · exact .inl (by simpa using h1)
          clear he
          rcases hcase with t1 | ⟨t1, t2 | ⟨t2, t3⟩⟩
          all_goals (
            go_wp2
            go_quiet (fail)
            go_wp2_with fail
            generalize hW : World.drewN _ _ = wz
            have Bz : Below w1.heap.size w1 wz := by rw [← hW]; exact below_drewN' B5 _
            clear hW B5 b1 b2 b3 g1 g2 g3
            have HOz := Lib.hid (HO.out wz Bz)
            have HG := Lib.hid (show ∀ w', Below wz.heap.size wz w' → w'.cell? ⟨gx, 0, none⟩ = some (.int .i64 x) ∧ w'.cell? ⟨gx, 1, none⟩ = some (.int .i64 y) ∧ w'.cell? ⟨gx, 2, none⟩ = some (.int .i64 z) from fun w' h => HX.out w' (Bz.trans (h.mono Bz.size)))
            obtain ⟨b1, b2, b3⟩ := HG.out wz (Below.refl _ _)
            have hbz : wz.heap.size ≤ wz.heap.size := Nat.le_refl _
            have hbel : Below wz.heap.size wz wz := Below.refl _ _
            have HTs := Lib.hid (show CellsAt wz (some ⟨g, 0, none⟩) (entsC (l.take p)) by rw [← entsC_take]; exact HOz.out.at_.upTo (p * 3))
            have HL1 := Lib.hid (show (entsC (l.take p)).length = p * 3 by rw [entsC_len, List.length_take, Nat.min_eq_left (by have := HN.out; omega)])
            have HD := Lib.hid (fun (w' : World) (hb : Below wz.heap.size wz w') => (show CellsAt wz (some ⟨g, p * 3, none⟩) (entsC (l.drop p)) by rw [← entsC_drop]; have h := HOz.out.at_.from_lit (p * 3); rwa [Nat.zero_add] at h).below hb)
            have HL2 := Lib.hid (show (entsC (l.drop p)).length = (n - p) * 3 by rw [entsC_len, List.length_drop, HN.out])
            have i5 : ¬ c = p := by omega
            have i1 : (0 : Int) ≤ (p : Int) := by omega
            have i2 : (p : Int) ≤ (c : Int) := by omega
            have i3 : (p : Int) ≤ (n : Int) := by omega
            have i4 : p ≤ c := by omega
            go_region_held3 (fun w' => w'.cell? ⟨gx, 0, none⟩ = some (.int .i64 x) ∧ w'.cell? ⟨gx, 1, none⟩ = some (.int .i64 y) ∧ w'.cell? ⟨gx, 2, none⟩ = some (.int .i64 z))
              (first | exact g3 | (refine HG.out _ ?_; first | exact hbel.trans (hs5.below.mono hbz) | exact hbel.trans (hs4.below.mono hbz) | (refine hbel.trans ?_; refine Below.mono ?_ hbz; (repeat (first | exact hs3.below | refine Below.drew ?_ | refine Below.alloc ?_ (by first | exact hs3.base | omega | (simp; omega)) _)); done) | ((repeat (first | exact hbel | refine Below.drew ?_ | refine Below.alloc ?_ (by first | exact Nat.le_refl _ | omega | (simp; done) | (simp; omega)) _)); done)))
              ((first
                | (refine step_append_to wz wz.heap.size (some ⟨wz.heap.size, 0, none⟩) 0 0 [] (some ⟨g, 0, none⟩) p c (entsC (l.take p)) p (entsC (l.take p)) (by omega) (by simp) rfl (.tmp 33) (.tmp 36) 23 (by rfl) (by rfl) (by rfl) Try.ulE5 Try.infoE5 rfl (by decide) (by exact HL1.out) (entsC_one _) (by unfold maxLen; omega) (by omega) (by repeat (first | exact One.empty _ _ _ | exact One.second _ _ _ _ | refine One.drew ?_ | refine One.alloc ?_ _)) (by repeat (first | exact HTs.out | refine CellsAt.drewW ?_ | refine CellsAt.allocW ?_ _)) ?_; intro as3 cs3 ws3 hs3 gs3)
                | (refine step_append_to wz wz.heap.size (some ⟨wz.heap.size + 1, 0, none⟩) 0 0 [] (some ⟨g, 0, none⟩) p c (entsC (l.take p)) p (entsC (l.take p)) (by omega) (by simp) rfl (.tmp 33) (.tmp 36) 23 (by rfl) (by rfl) (by rfl) Try.ulE5 Try.infoE5 rfl (by decide) (by exact HL1.out) (entsC_one _) (by unfold maxLen; omega) (by omega) (by repeat (first | exact One.empty _ _ _ | exact One.second _ _ _ _ | refine One.drew ?_ | refine One.alloc ?_ _)) (by repeat (first | exact HTs.out | refine CellsAt.drewW ?_ | refine CellsAt.allocW ?_ _)) ?_; intro as3 cs3 ws3 hs3 gs3)
                | (refine step_append_to wz wz.heap.size as3 p cs3 (entsC (l.take p)) (some ⟨ws3.heap.size, 0, none⟩) 1 1 [.int .i64 x, .int .i64 y, .int .i64 z] (p + 1) (entsC (l.take p) ++ [.int .i64 x, .int .i64 y, .int .i64 z]) (by omega) (by rfl) rfl (.tmp 37) (.tmp 39) 23 (by rfl) (by rfl) (by rfl) Try.ulE5 Try.infoE5 rfl (by decide) (by rfl) (by simp [Value.oneCell']) (by unfold maxLen; omega) (by omega) (by repeat (first | exact hs3 | refine One.drew ?_ | refine One.alloc ?_ _)) (by repeat (first | exact cellsAt_rec3 _ _ _ _ _ _ rfl | refine CellsAt.drewW ?_ | refine CellsAt.allocW ?_ _)) ?_; intro as4 cs4 ws4 hs4 gs4)
                | (refine step_append_to wz wz.heap.size as3 p cs3 (entsC (l.take p)) (some ⟨wz.heap.size + 1, 0, none⟩) 1 1 [.int .i64 x, .int .i64 y, .int .i64 z] (p + 1) (entsC (l.take p) ++ [.int .i64 x, .int .i64 y, .int .i64 z]) (by omega) (by rfl) rfl (.tmp 37) (.tmp 39) 23 (by rfl) (by rfl) (by rfl) Try.ulE5 Try.infoE5 rfl (by decide) (by rfl) (by simp [Value.oneCell']) (by unfold maxLen; omega) (by omega) (by repeat (first | exact hs3 | refine One.drew ?_ | refine One.alloc ?_ _)) (by repeat (first | exact cellsAt_lit _ _ _ _ (by simp) | exact cellsAt_rec3 _ _ _ _ _ _ (by first | rfl | simp) | refine CellsAt.drewW ?_ | refine CellsAt.allocW ?_ _ | (refine CellsAt.grown ?_ gs3 ?_) | (intro b o hh; simp at hh; simp [Value.ownBlock]; omega))) ?_; intro as4 cs4 ws4 hs4 gs4)
                | (refine step_append_to wz wz.heap.size as3 p cs3 (entsC (l.take p)) (some ⟨wz.heap.size, 0, none⟩) 1 1 [.int .i64 x, .int .i64 y, .int .i64 z] (p + 1) (entsC (l.take p) ++ [.int .i64 x, .int .i64 y, .int .i64 z]) (by omega) (by rfl) rfl (.tmp 37) (.tmp 39) 23 (by rfl) (by rfl) (by rfl) Try.ulE5 Try.infoE5 rfl (by decide) (by rfl) (by simp [Value.oneCell']) (by unfold maxLen; omega) (by omega) (by repeat (first | exact hs3 | refine One.drew ?_ | refine One.alloc ?_ _)) (by repeat (first | exact cellsAt_lit _ _ _ _ (by simp) | exact cellsAt_rec3 _ _ _ _ _ _ (by first | rfl | simp) | refine CellsAt.drewW ?_ | refine CellsAt.allocW ?_ _ | (refine CellsAt.grown ?_ gs3 ?_) | (intro b o hh; simp at hh; simp [Value.ownBlock]; omega))) ?_; intro as4 cs4 ws4 hs4 gs4)
                | (refine step_append_to wz wz.heap.size as4 (p + 1) cs4 (entsC (l.take p) ++ [.int .i64 x, .int .i64 y, .int .i64 z]) (some ⟨g, p * 3, none⟩) (n - p) (c - p) (entsC (l.drop p)) (p + 1 + (n - p)) (entsC (l.take p) ++ [.int .i64 x, .int .i64 y, .int .i64 z] ++ entsC (l.drop p)) (by omega) (by simp) rfl (.tmp 40) (.tmp 43) 23 (by rfl) (by rfl) (by rfl) Try.ulE5 Try.infoE5 rfl (by decide) (by exact HL2.out) (entsC_one _) (by unfold maxLen; omega) (by omega) (by repeat (first | exact hs4 | refine One.drew ?_)) (by repeat (first | exact HD.out _ hs4.below | refine CellsAt.drewW ?_)) ?_; intro as5 cs5 ws5 hs5 gs5)))
            all_goals go_wp2
            all_goals (
              go_ret
              obtain ⟨gs, rfl⟩ := hs5.addr (by omega)
              have hfin := hs5.under HOz.out.below HOz.out.base
              refine ⟨gs, _, _, rfl, ?_, ?_, HB0.out _ (Bz.trans (hs5.below.mono Bz.size))⟩
              · rw [HE.out]; simp; have := HN.out; omega
              · rw [HE.out, entsC_append]
                have e9 : entsC ((x, y, z) :: l.drop p) = [.int .i64 x, .int .i64 y, .int .i64 z] ++ entsC (l.drop p) := rfl
                rw [e9, ← List.append_assoc]
                exact hfin))
    · obtain rfl : p = n := by omega
      have HE : Hid (putE (x, y, z) l = l.take p ++ (x, y, z) :: l.drop p) := Lib.hid (by
        rw [putE_at (X := (x, y, z)) (by have := HN.out; omega) HP.out (fun h => by have := HN.out; omega)]
        rw [if_neg (by rw [List.getElem?_eq_none (by have := HN.out; omega)]; simp)])
      clear HP hone hp hpn
      go_wp2
      go_quiet (fail)
      go_wp2
      go_quiet (fail)
      go_wp2_with fail
      generalize hW : World.drewN _ _ = wz
      have Bz : Below w1.heap.size w1 wz := by rw [← hW]; first | exact below_drewN' (below_drewN' Bw _) _ | exact below_drewN' Bw _
      clear hW Bw b1 b2 b3
      have HOz := Lib.hid (HO.out wz Bz)
      have HG := Lib.hid (show ∀ w', Below wz.heap.size wz w' → w'.cell? ⟨gx, 0, none⟩ = some (.int .i64 x) ∧ w'.cell? ⟨gx, 1, none⟩ = some (.int .i64 y) ∧ w'.cell? ⟨gx, 2, none⟩ = some (.int .i64 z) from fun w' h => HX.out w' (Bz.trans (h.mono Bz.size)))
      obtain ⟨b1, b2, b3⟩ := HG.out wz (Below.refl _ _)
      have hbz : wz.heap.size ≤ wz.heap.size := Nat.le_refl _
      have hbel : Below wz.heap.size wz wz := Below.refl _ _
      have HTs := Lib.hid (show CellsAt wz (some ⟨g, 0, none⟩) (entsC (l.take p)) by rw [← entsC_take]; exact HOz.out.at_.upTo (p * 3))
      have HL1 := Lib.hid (show (entsC (l.take p)).length = p * 3 by rw [entsC_len, List.length_take, Nat.min_eq_left (by have := HN.out; omega)])
      have i1 : (0 : Int) ≤ (p : Int) := by omega
      have i2 : (p : Int) ≤ (c : Int) := by omega
      have i3 : (p : Int) ≤ (p : Int) := by omega
      have i4 : p ≤ c := by omega
      go_region_held3 (fun w' => w'.cell? ⟨gx, 0, none⟩ = some (.int .i64 x) ∧ w'.cell? ⟨gx, 1, none⟩ = some (.int .i64 y) ∧ w'.cell? ⟨gx, 2, none⟩ = some (.int .i64 z))
        (first | exact g3 | (refine HG.out _ ?_; first | exact hbel.trans (hs5.below.mono hbz) | exact hbel.trans (hs4.below.mono hbz) | (refine hbel.trans ?_; refine Below.mono ?_ hbz; (repeat (first | exact hs3.below | refine Below.drew ?_ | refine Below.alloc ?_ (by first | exact hs3.base | omega | (simp; omega)) _)); done) | ((repeat (first | exact hbel | refine Below.drew ?_ | refine Below.alloc ?_ (by first | exact Nat.le_refl _ | omega | (simp; done) | (simp; omega)) _)); done)))
        ((first
          | (refine step_append_to wz wz.heap.size (some ⟨wz.heap.size, 0, none⟩) 0 0 [] (some ⟨g, 0, none⟩) p c (entsC (l.take p)) p (entsC (l.take p)) (by omega) (by simp) rfl (.tmp 33) (.tmp 36) 23 (by rfl) (by rfl) (by rfl) Try.ulE5 Try.infoE5 rfl (by decide) (by exact HL1.out) (entsC_one _) (by unfold maxLen; omega) (by omega) (by repeat (first | exact One.empty _ _ _ | exact One.second _ _ _ _ | refine One.drew ?_ | refine One.alloc ?_ _)) (by repeat (first | exact HTs.out | refine CellsAt.drewW ?_ | refine CellsAt.allocW ?_ _)) ?_; intro as3 cs3 ws3 hs3 gs3)
          | (refine step_append_to wz wz.heap.size (some ⟨wz.heap.size + 1, 0, none⟩) 0 0 [] (some ⟨g, 0, none⟩) p c (entsC (l.take p)) p (entsC (l.take p)) (by omega) (by simp) rfl (.tmp 33) (.tmp 36) 23 (by rfl) (by rfl) (by rfl) Try.ulE5 Try.infoE5 rfl (by decide) (by exact HL1.out) (entsC_one _) (by unfold maxLen; omega) (by omega) (by repeat (first | exact One.empty _ _ _ | exact One.second _ _ _ _ | refine One.drew ?_ | refine One.alloc ?_ _)) (by repeat (first | exact HTs.out | refine CellsAt.drewW ?_ | refine CellsAt.allocW ?_ _)) ?_; intro as3 cs3 ws3 hs3 gs3)
          | (refine step_append_to wz wz.heap.size as3 p cs3 (entsC (l.take p)) (some ⟨ws3.heap.size, 0, none⟩) 1 1 [.int .i64 x, .int .i64 y, .int .i64 z] (p + 1) (entsC (l.take p) ++ [.int .i64 x, .int .i64 y, .int .i64 z]) (by omega) (by rfl) rfl (.tmp 37) (.tmp 39) 23 (by rfl) (by rfl) (by rfl) Try.ulE5 Try.infoE5 rfl (by decide) (by rfl) (by simp [Value.oneCell']) (by unfold maxLen; omega) (by omega) (by repeat (first | exact hs3 | refine One.drew ?_ | refine One.alloc ?_ _)) (by repeat (first | exact cellsAt_rec3 _ _ _ _ _ _ rfl | refine CellsAt.drewW ?_ | refine CellsAt.allocW ?_ _)) ?_; intro as4 cs4 ws4 hs4 gs4)
          | (refine step_append_to wz wz.heap.size as3 p cs3 (entsC (l.take p)) (some ⟨wz.heap.size + 1, 0, none⟩) 1 1 [.int .i64 x, .int .i64 y, .int .i64 z] (p + 1) (entsC (l.take p) ++ [.int .i64 x, .int .i64 y, .int .i64 z]) (by omega) (by rfl) rfl (.tmp 37) (.tmp 39) 23 (by rfl) (by rfl) (by rfl) Try.ulE5 Try.infoE5 rfl (by decide) (by rfl) (by simp [Value.oneCell']) (by unfold maxLen; omega) (by omega) (by repeat (first | exact hs3 | refine One.drew ?_ | refine One.alloc ?_ _)) (by repeat (first | exact cellsAt_lit _ _ _ _ (by simp) | exact cellsAt_rec3 _ _ _ _ _ _ (by first | rfl | simp) | refine CellsAt.drewW ?_ | refine CellsAt.allocW ?_ _ | (refine CellsAt.grown ?_ gs3 ?_) | (intro b o hh; simp at hh; simp [Value.ownBlock]; omega))) ?_; intro as4 cs4 ws4 hs4 gs4)
          | (refine step_append_to wz wz.heap.size as3 p cs3 (entsC (l.take p)) (some ⟨wz.heap.size, 0, none⟩) 1 1 [.int .i64 x, .int .i64 y, .int .i64 z] (p + 1) (entsC (l.take p) ++ [.int .i64 x, .int .i64 y, .int .i64 z]) (by omega) (by rfl) rfl (.tmp 37) (.tmp 39) 23 (by rfl) (by rfl) (by rfl) Try.ulE5 Try.infoE5 rfl (by decide) (by rfl) (by simp [Value.oneCell']) (by unfold maxLen; omega) (by omega) (by repeat (first | exact hs3 | refine One.drew ?_ | refine One.alloc ?_ _)) (by repeat (first | exact cellsAt_lit _ _ _ _ (by simp) | exact cellsAt_rec3 _ _ _ _ _ _ (by first | rfl | simp) | refine CellsAt.drewW ?_ | refine CellsAt.allocW ?_ _ | (refine CellsAt.grown ?_ gs3 ?_) | (intro b o hh; simp at hh; simp [Value.ownBlock]; omega))) ?_; intro as4 cs4 ws4 hs4 gs4)
          | (refine step_append_to wz wz.heap.size as4 (p + 1) cs4 (entsC (l.take p) ++ [.int .i64 x, .int .i64 y, .int .i64 z]) _ 0 _ (entsC []) (p + 1 + 0) (entsC (l.take p) ++ [.int .i64 x, .int .i64 y, .int .i64 z] ++ entsC []) (by omega) (by simp) rfl (.tmp 40) (.tmp 43) 23 (by rfl) (by rfl) (by rfl) Try.ulE5 Try.infoE5 rfl (by decide) (by rfl) (entsC_one _) (by unfold maxLen; omega) (by omega) (by repeat (first | exact hs4 | refine One.drew ?_)) (by repeat (first | exact cellsAt_nil _ _ | refine CellsAt.drewW ?_)) ?_; intro as5 cs5 ws5 hs5 gs5)))
      all_goals go_wp2
      all_goals (
        go_ret
        obtain ⟨gs, rfl⟩ := hs5.addr (by omega)
        have hfin := hs5.under HOz.out.below HOz.out.base
        refine ⟨gs, _, _, rfl, ?_, ?_, HB0.out _ (Bz.trans (hs5.below.mono Bz.size))⟩
        · rw [HE.out]; simp; have := HN.out; omega
        · rw [HE.out, entsC_append]
          have e9 : entsC ((x, y, z) :: l.drop p) = [.int .i64 x, .int .i64 y, .int .i64 z] ++ entsC [] := by rw [List.drop_of_length_le (by have := HN.out; omega)]; rfl
          rw [e9, ← List.append_assoc]
          exact hfin)

end Go.Proofs.Ytclblnkeakkdeaa

namespace Go.Proofs.Ytclblnkeakkdeaa
open Go.RowKit

/-- The shelf of a text with a number. -/
def shelfL (d : Int) (M : List (Int × Int)) : List En := if d < 0 then [] else rowE (M.map fun m => (m.1, d, m.2))
theorem shelfL_not {d : Int} (h : d < 0) (M : List (Int × Int)) : shelfL d M = [] := by rw [shelfL, if_pos h]
theorem shelfL_ok {d : Int} (h : ¬ d < 0) (M : List (Int × Int)) : shelfL d M = rowE (M.map fun m => (m.1, d, m.2)) := by rw [shelfL, if_neg h]

theorem pair_at5 {w : World} {a : Option Addr} {M : List (Int × Int)} (h : CellsAt w a (pairsC M)) {i : Nat} {p x : Int} (hi : i < M.length) (hm : M[i] = (p, x)) : ∃ b o, a = some ⟨b, o, none⟩ ∧ b < w.heap.size ∧ w.cell? ⟨b, o + i * 2, none⟩ = some (.int .i64 p) ∧ w.cell? ⟨b, o + i * 2 + 1, none⟩ = some (.int .i64 x) := by
  obtain ⟨b, o, ha, hb, hc⟩ := h.pair (fun e => by rw [e] at hi; simp at hi)
  have h1 := hc i hi
  rw [hm] at h1
  exact ⟨b, o, ha, hb, h1.1, h1.2⟩

set_option maxRecDepth 4000 in
set_option maxHeartbeats 8000000 in
theorem specShelfOf_any (d : Int) (s : ByteArray) (k v : Int) (M : List (Int × Int)) (w : World) (hM : marksL s.data.toList k v = M) (hs : s.size ≤ 2097152) (hv9 : v ≤ 9223372036854775807) :
    Calls Try.prog 94 #[.int .i64 d, .string s, .int .i64 k, .int .i64 v] w fun e w' => ∃ g n c, e = .returned (.slice (some ⟨g, 0, none⟩) n c) ∧ One w w.heap.size w' 31 3 (some ⟨g, 0, none⟩) n c (entsC (shelfL d M)) := by
  by_cases hd : d < 0
  · rw [shelfL_not hd]
    go_enter Try.func94, Try.ntmps94
    go_wp2
    go_ret
    exact ⟨_, _, _, rfl, One.empty w 31 3⟩
  have hMl : M.length ≤ 2097152 := by
    rw [← hM, marksL, List.length_map]
    have h1 := chosenN_len (printsL s.data.toList k) v
    have h2 := printsN_room s.data.toList k
    have : s.data.toList.length = s.size := rfl
    unfold marksAt
    omega
  have c1 := fun w => specMarks_any s k v M w hM (by omega) hv9
  have HR := Lib.hid (shelfL_ok hd M)
  have HMl := Lib.hid hMl
  have hd2 : (0 : Int) ≤ d := by omega
  clear hM hMl hd
  go_enter Try.func94, Try.ntmps94
  go_wp2_with fail
  refine (c1 _).mono ?_
  rintro e w2 ⟨ma, mn, mc, rfl, h2⟩
  have HMN := Lib.hid (pairs_len h2.own)
  have hmn9 : mn ≤ 2097152 := by have := HMN.out; have := HMl.out; omega
  have hone0 : One w w.heap.size w2 31 3 (some ⟨w.heap.size, 0, none⟩) 0 0 (entsC (rowE ((M.take 0).map fun m => (m.1, d, m.2)))) := (One.empty w 31 3).later h2.below
  have hat0 := h2.at_
  clear h2 c1
  go_wp2
  go_loopw [9, 11] (fun o_ i_ wr => ∃ i : Nat, i ≤ mn ∧ i_ = .int .i64 i ∧ ∃ g n c, o_ = .slice (some ⟨g, 0, none⟩) n c ∧ n ≤ i ∧ One w w.heap.size wr 31 3 (some ⟨g, 0, none⟩) n c (entsC (rowE ((M.take i).map fun m => (m.1, d, m.2)))) ∧ CellsAt wr ma (pairsC M)) (fun _ i_ _ => mn - (intOf i_).toNat)
  case atStart => exact ⟨0, Nat.zero_le _, rfl, _, 0, _, rfl, Nat.le_refl _, hone0, hat0⟩
  case round =>
    clear hone0 hat0
    obtain ⟨i, hi, rfl, g, n, c, rfl, hn, hone, hat⟩ := hrel
    by_cases hlt : i < mn
    · have hiM : i < M.length := by have := HMN.out; omega
      obtain ⟨p, hp⟩ : ∃ p, M[i].1 = p := ⟨_, rfl⟩
      obtain ⟨x, hx⟩ : ∃ x, M[i].2 = x := ⟨_, rfl⟩
      have hm : M[i] = (p, x) := by rw [← hp, ← hx]
      obtain ⟨mb, mo, rfl, hmb, g1, g2⟩ := pair_at5 hat hiM hm
      obtain ⟨L, hL⟩ : ∃ L, rowE ((M.take i).map fun m => (m.1, d, m.2)) = L := ⟨_, rfl⟩
      have hnx : rowE ((M.take (i + 1)).map fun m => (m.1, d, m.2)) = putE (p, d, x) L := by
        rw [List.take_succ_eq_append_getElem hiM, List.map_append, hm, ← hL, putE_snoc]; rfl
      rw [hL] at hone
      have hlen := ents_len hone.own
      have c2 := fun w' h => specPut5_any L p d x g n c w.heap.size w w' hlen (by omega) h
      have HNX := Lib.hid hnx
      have HL2 := Lib.hid (show (putE (p, d, x) L).length ≤ i + 1 by have h := putE_len (p, d, x) L; omega)
      have HKS := Lib.hid (show ∀ w', Below wr.heap.size wr w' → w'.cell? ⟨mb, mo + i * 2, none⟩ = some (.int .i64 p) ∧ w'.cell? ⟨mb, mo + i * 2 + 1, none⟩ = some (.int .i64 x) from fun w' h => ⟨below_ents h hmb g1, below_ents h hmb g2⟩)
      have z1 : (i : Int) < (mn : Int) := by omega
      have z2 : (0 : Int) ≤ (i : Int) := by omega
      clear hp hx hm hL hnx hlen
      go_wp2
      go_region_held3 (fun w' => w'.cell? ⟨mb, mo + i * 2, none⟩ = some (.int .i64 p) ∧ w'.cell? ⟨mb, mo + i * 2 + 1, none⟩ = some (.int .i64 x)) (first | go_keep | exact HKS.out _ (Below.trans (by repeat (first | exact Below.refl _ _ | refine Below.drew ?_ | refine below_drewN' ?_ _)) (hb5.mono (by simp))))
        ((go_at_call 120; refine (c2 _ (by repeat (first | exact hone | refine One.drew ?_ | exact One.drewN hone _))).mono ?_; rintro e w5 ⟨g', n', c', rfl, hn', hone5, hb5⟩; have HN5 := Lib.hid hn'; clear hn'))
      have W5 : Below wr.heap.size wr w5 := (Below.trans (by repeat (first | exact Below.refl _ _ | refine Below.drew ?_ | refine below_drewN' ?_ _)) (hb5.mono (by simp)))
      have hat5 := hat.below W5
      have hn5 : n' ≤ i + 1 := by rw [HN5.out]; exact HL2.out
      clear hb5 W5
      go_wp2
      go_roundw
      case rel => exact ⟨i + 1, by omega, by go_num, g', n', c', rfl, hn5, by rw [HNX.out]; exact hone5, hat5⟩
      case measure => simp [intOf]; omega
    · have HO := Lib.hid (show One w w.heap.size wr 31 3 (some ⟨g, 0, none⟩) n c (entsC (shelfL d M)) by
        have h := hone
        rw [List.take_of_length_le (by have := HMN.out; omega)] at h
        rw [HR.out]
        exact h)
      clear hone hat
      go_wp2
      go_ret
      exact ⟨_, _, _, rfl, HO.out⟩

end Go.Proofs.Ytclblnkeakkdeaa
