/-
  The walk of the table's law ShelfOk: it returns true, and nothing that was there is written. No conditions.
-/
import Derived.Test.YteieolkpmjoohaaHelpE
import Derived.Test.YteieolkpmjoohaaMathLawsS
namespace Go.Proofs.Yteieolkpmjoohaa
open Go.RowKit

theorem shOk_drop {L : List En} (h : shOk L) (k : Nat) : shOk (L.drop k) := ⟨fun x hx => h.1 x (List.mem_of_mem_drop hx), h.2.drop⟩
theorem shOk_take {L : List En} (h : shOk L) (k : Nat) : shOk (L.take k) := ⟨fun x hx => h.1 x (List.mem_of_mem_take hx), h.2.take⟩
theorem shOk_twice (L : List En) (x : En) (hx : x ∈ L) : ¬ shOk (L ++ [x]) := fun h => by
  have h1 := (List.pairwise_append.1 h.2).2.2 x hx x (List.mem_singleton.2 rfl)
  exact enLt_irrefl x h1

theorem implOk_dec (v : Bool) (L : List En) (a : Option Addr) (n c : Nat) (w : World) (h : EnAt w a n c L) (hr : v = true ↔ shOk L) (h9 : L.length ≤ 1048576) :
    Calls Try.prog 19 #[.slice a n c] w fun e w' => e = .returned (.bool v) ∧ Below w.heap.size w w' := implOk_w v L a n c w hr h h9

/-- The elements of a slice are appended to a row of the call's own, at a guarded step of a region that draws. -/
theorem step_append_toG {P : Program} {ops : Array Oper} {o : Oper} {act : Act} {K : Act → World → Prop} {Q : Exit → Act → World → Prop} {E : Prop} {w0 : World} (W : World) (B : Nat) {e1 : TypeId} {s1 : Nat} (a1 : Option Addr) (n1 c1 : Nat) (xs1 : List Value)
    (A : Option Addr) (m c : Nat) (news : List Value) (n' : Nat) (xs' : List Value) (hn' : n1 + m = n') (hx' : xs1 ++ news = xs')
    (hw : Region.wanted o (yielded ops act.tmps) = true) (s x : Operand) (t : TypeId) (ho : o.op = .call { callee := .builtin .append, args := #[s, x], argTypes := #[t, t] })
    (hs : act.eval s = .slice a1 n1 c1) (hx : act.eval x = .slice A m c)
    {z : Value} {bytes : Nat} (ht : P.underlying t = some (.slice e1)) (hinfo : (P.info? e1).map (fun i => (i.zero, i.size, i.bytes)) = some (some z, s1, bytes)) (hzs : z.cells.size = s1) (hsz : 0 < s1)
    (hm : news.length = m * s1) (h1 : ∀ u ∈ news, u.oneCell' = true) (h63 : n' ≤ maxLen) (hbytes : n' * bytes ≤ 140737488355328)
    (h2 : One W B w0 e1 s1 a1 n1 c1 xs1) (hat : CellsAt w0 A news)
    (h : ∀ ad' cap' w', One W B w' e1 s1 ad' n' cap' xs' → w0.grownBy w' (Value.ownBlock (.slice a1 n1 c1)) → K (act.put o.dst (.slice ad' n' cap')) w') :
    if Region.wanted o (yielded ops act.tmps) = true then Oper.wp P o act w0 K Q else E := by
  subst hn' hx'
  rw [if_pos hw]
  exact wp_append_src s x t ho ht hinfo hzs hsz h2 hs A m c hx news hm hat h1 h63 hbytes h

theorem below_allocB {w w' : World} (h : Below w.heap.size w w') (o : Obj) : Below w.heap.size w (w'.alloc o) := h.alloc h.size o
theorem oneEmptyB {w w' : World} (h : Below w.heap.size w w') (e : TypeId) (s : Nat) : One w w.heap.size (w'.alloc (.cells #[] e)) e s (some ⟨w'.heap.size, 0, none⟩) 0 0 [] := (One.empty w' e s).under h h.size
theorem oneSecondB {w w' : World} (h : Below w.heap.size w w') (o : Obj) (e : TypeId) (s : Nat) : One w w.heap.size ((w'.alloc o).alloc (.cells #[] e)) e s (some ⟨w'.heap.size + 1, 0, none⟩) 0 0 [] := (One.second w' o e s).under h h.size
theorem below_goK {B : Nat} {w1 W0 w' : World} (h : Below B w1 W0) (k : Below W0.heap.size W0 w') (hB : B ≤ w1.heap.size) : Below B w1 w' := h.trans (k.mono (Nat.le_trans hB h.size))

set_option maxRecDepth 4000 in
set_option maxHeartbeats 16000000 in
theorem walkFnShelfOk (a : Option Addr) (len cap : Nat) (zs : List Int) (w : World) (h : IsRowK .u8 w a len cap zs) :
    Calls Try.prog 4 #[.slice a len cap] w fun e w' => e = .returned (.bool true) ∧ Below w.heap.size w w' := by
  by_cases hs : 1048576 < len
  · have h2 : (1048576 : Int) < (len : Int) := by omega
    go_enter Try.func4, Try.ntmps4
    go_wp2
    go_ret
    exact ⟨rfl, Below.refl _ _⟩
  go_enter Try.func4, Try.ntmps4
  go_wp2_with fail
  refine (DrawShelfOk_any _ _ _ _ _ h).mono ?_
  rintro e wk0 ⟨L, a1, n1, c1, rfl, hL, hE1, hbw⟩
  have hn1 := hE1.len
  have hn9 : n1 ≤ 40 := by omega
  have HN := Lib.hid hn1
  have E1 := Lib.hid hE1
  have HBW := Lib.hid hbw
  have BK0 : Below wk0.heap.size wk0 wk0 := Below.refl _ _
  obtain ⟨r, hr⟩ : ∃ r : Bool, r = true ↔ shOk L := by
    by_cases hk : shOk L
    · exact ⟨true, fun _ => hk, fun _ => rfl⟩
    · exact ⟨false, (fun e => absurd e (by decide)), (fun e => absurd e hk)⟩
  have HRr := Lib.hid hr
  have hnc := hE1.cap
  clear h hE1 hbw hs hn1 hr
  go_wp2_with fail
  refine (implOk_w r L _ _ _ _ HRr.out (E1.out.later BK0) (by omega)).mono ?_
  rintro e wk1 ⟨rfl, hx⟩
  have BK1 := BK0.trans (hx.mono BK0.size)
  clear hx BK0
  go_wp2_with fail
  refine (specOk_w r L _ _ _ _ HRr.out (E1.out.later BK1) (by omega)).mono ?_
  rintro e wk2 ⟨rfl, hx⟩
  have BK2 := BK1.trans (hx.mono BK1.size)
  have t1 : (r == r) = true := beq_self_eq_true _
  have t2 : (r != r) = false := by rw [bne, t1]; rfl
  clear hx BK1
  go_wp2_with fail
  refine (implOk_w true [] _ _ _ _ ⟨fun _ => shOk_nil, fun _ => rfl⟩ (enAt_nil _) (by simp)).mono ?_
  rintro e wb ⟨rfl, hx⟩
  have BK3 := BK2.trans (hx.mono BK2.size)
  have HBB := Lib.hid (show Below w.heap.size w wb from HBW.out.trans (BK3.mono HBW.out.size))
  have EB := Lib.hid (E1.out.later BK3)
  clear hx BK2 BK3 t1 t2
  by_cases h0 : 0 < n1
  · obtain ⟨m, hm⟩ : ∃ m, n1 = m + 1 := ⟨n1 - 1, by omega⟩
    subst hm
    have hmL : m < L.length := by have := HN.out; omega
    obtain ⟨x, hx⟩ : ∃ x, L[m].1 = x := ⟨_, rfl⟩
    obtain ⟨y, hy⟩ : ∃ x, L[m].2.1 = x := ⟨_, rfl⟩
    obtain ⟨z, hz⟩ : ∃ x, L[m].2.2 = x := ⟨_, rfl⟩
    have hml : L[m] = (x, y, z) := by rw [← hx, ← hy, ← hz]
    have HBad := Lib.hid (shOk_twice L (x, y, z) (by rw [← hml]; exact List.getElem_mem hmL))
    obtain ⟨b, o, hbo, hb9, g1, g2, g3⟩ := ent_cells EB.out.at_ hmL hml
    subst hbo
    obtain ⟨a2, q2, f2, hq2, hqf2, _, sl1, hc2⟩ := ents_from (some ⟨b, o, none⟩) (m + 1) c1 1 (by omega) (by omega)
    obtain ⟨a3, sl2, hc3⟩ := ents_upto (some ⟨b, o, none⟩) (m + 1) c1 m (by omega)
    have sl3 : ∀ w, (Instr.slice 30 (.slice (some ⟨b, o, none⟩) (m + 1) c1) (some (.int .i64 1)) none none).run Try.prog w = .ok (.slice a2 q2 f2) w := fun w => by have h := sl1 w; rwa [show ((1 : Nat) : Int) = 1 from rfl] at h
    clear sl1
    have HKS := Lib.hid (show ∀ w', Below wb.heap.size wb w' → w'.cell? ⟨b, o + m * 3, none⟩ = some (.int .i64 x) ∧ w'.cell? ⟨b, o + m * 3 + 1, none⟩ = some (.int .i64 y) ∧ w'.cell? ⟨b, o + m * 3 + 2, none⟩ = some (.int .i64 z) from fun w' h => ⟨below_ents h hb9 g1, below_ents h hb9 g2, below_ents h hb9 g3⟩)
    have HE1 := Lib.hid (show ∀ w', Below wb.heap.size wb w' → EnAt w' a2 q2 f2 (L.drop 1) from fun w' h => ⟨by rw [List.length_drop, hq2, HN.out], hqf2, hc2 w' L HN.out (EB.out.later h).at_⟩)
    have HE2 := Lib.hid (show ∀ w', Below wb.heap.size wb w' → EnAt w' a3 m c1 (L.take m) from fun w' h => ⟨by rw [List.length_take]; omega, by omega, hc3 w' L (EB.out.later h).at_⟩)
    have HE3 := Lib.hid (show ∀ w', Below wb.heap.size wb w' → CellsAt w' (some ⟨b, o, none⟩) (entsC L) from fun w' h => (EB.out.later h).at_)
    have HL3 := Lib.hid (show (entsC L).length = (m + 1) * 3 by rw [entsC_len, HN.out])
    have HS3 := Lib.hid (show entsC (L ++ [(x, y, z)]) = entsC L ++ [.int .i64 x, .int .i64 y, .int .i64 z] from entsC_snoc _ _)
    have e1 : IntKind.i64.wrap (((m + 1 : Nat) : Int) - 1) = (m : Int) := by rw [IntWalk.i64_in _ (by omega)]; omega
    have e2 : IntKind.i64.wrap ((m : Int) + 1 - 1) = (m : Int) := by rw [IntWalk.i64_in _ (by omega)]; omega
    have e3 : IntKind.i64.wrap (m : Int) = (m : Int) := IntWalk.i64_in _ (by omega)
    have z1 : (0 : Int) ≤ (m : Int) := by omega
    have z2 : (m : Int) < (m : Int) + 1 := by omega
    have z3 : (m : Int) ≤ (c1 : Int) := by omega
    have HD := Lib.hid (fun h => shOk_drop (L := L) h 1)
    have HT := Lib.hid (fun h => shOk_take (L := L) h m)
    clear hx hy hz hml hc2 hc3 hq2 h0 hnc
    have HM1 := Lib.hid (show (L.drop 1).length ≤ 1048576 by rw [List.length_drop]; omega)
    have HM2 := Lib.hid (show (L.take m).length ≤ 1048576 by rw [List.length_take]; omega)
    have HM3 := Lib.hid (show (L ++ [(x, y, z)]).length ≤ 1048576 by simp; omega)
    have HR3 := Lib.hid (show false = true ↔ shOk (L ++ [(x, y, z)]) from ⟨(fun h => absurd h (by decide)), (fun h => absurd h HBad.out)⟩)
    cases r with
    | true =>
      have HR1 := Lib.hid (show shOk (L.drop 1) from HD.out (HRr.out.1 rfl))
      have HR2 := Lib.hid (show shOk (L.take m) from HT.out (HRr.out.1 rfl))
      clear HD HT
      go_wp2_with fail
      go_region_held3 (fun w' => w'.cell? ⟨b, o + m * 3, none⟩ = some (.int .i64 x) ∧ w'.cell? ⟨b, o + m * 3 + 1, none⟩ = some (.int .i64 y) ∧ w'.cell? ⟨b, o + m * 3 + 2, none⟩ = some (.int .i64 z)) (first | go_keep | exact HKS.out _ (by repeat (first | exact Below.refl _ _ | exact hc8 | exact hs4.below | exact hs3.below | exact hc6 | refine Below.drew ?_ | refine below_drewN' ?_ _ | refine below_allocB ?_ _)))
        ((first
          | (go_at_call 17; refine (alive_any _).mono ?_; rintro e w9 ⟨rfl, rfl⟩)
          | (go_at_call 19; refine (implOk_dec _ _ _ _ _ _ (by first | exact HE1.out _ (by repeat (first | exact Below.refl _ _ | exact hc8 | exact hs4.below | exact hs3.below | exact hc6 | refine Below.drew ?_ | refine below_drewN' ?_ _ | refine below_allocB ?_ _)) | exact HE2.out _ (by repeat (first | exact Below.refl _ _ | exact hc8 | exact hs4.below | exact hs3.below | exact hc6 | refine Below.drew ?_ | refine below_drewN' ?_ _ | refine below_allocB ?_ _))) (by first | exact ⟨fun _ => HR1.out, fun _ => rfl⟩ | exact ⟨fun _ => HR2.out, fun _ => rfl⟩) (by first | exact HM1.out | exact HM2.out)).mono ?_; rintro e w6 ⟨rfl, hb6⟩; have hc6 : Below wb.heap.size wb w6 := below_goK (by repeat (first | exact Below.refl _ _ | exact hc8 | exact hs4.below | exact hs3.below | exact hc6 | refine Below.drew ?_ | refine below_drewN' ?_ _ | refine below_allocB ?_ _)) hb6 (Nat.le_refl _); clear hb6)
          | (refine step_append_toG wb wb.heap.size _ 0 0 [] (some ⟨b, o, none⟩) (m + 1) c1 (entsC L) (m + 1) (entsC L) (by omega) (by simp) (by rfl) (.tmp 39) (.tmp 40) 30 (by rfl) (by rfl) (by rfl) Try.ulE5 Try.infoE5 rfl (by decide) (by exact HL3.out) (entsC_one _) (by unfold maxLen; omega) (by omega) (by repeat (first | exact oneEmptyB (by repeat (first | exact Below.refl _ _ | exact hc8 | exact hs4.below | exact hs3.below | exact hc6 | refine Below.drew ?_ | refine below_drewN' ?_ _ | refine below_allocB ?_ _)) _ _ | exact oneSecondB (by repeat (first | exact Below.refl _ _ | exact hc8 | exact hs4.below | exact hs3.below | exact hc6 | refine Below.drew ?_ | refine below_drewN' ?_ _ | refine below_allocB ?_ _)) _ _ _ | refine One.drew ?_ | refine One.alloc ?_ _)) (by exact HE3.out _ (by repeat (first | exact Below.refl _ _ | exact hc8 | exact hs4.below | exact hs3.below | exact hc6 | refine Below.drew ?_ | refine below_drewN' ?_ _ | refine below_allocB ?_ _))) ?_; intro as3 cs3 ws3 hs3 gs3)
          | (refine step_append_toG wb wb.heap.size as3 (m + 1) cs3 (entsC L) _ 1 1 [.int .i64 x, .int .i64 y, .int .i64 z] (m + 1 + 1) (entsC L ++ [.int .i64 x, .int .i64 y, .int .i64 z]) (by omega) (by rfl) (by rfl) (.tmp 41) (.tmp 48) 30 (by rfl) (by rfl) (by rfl) Try.ulE5 Try.infoE5 rfl (by decide) (by rfl) (by simp [Value.oneCell']) (by unfold maxLen; omega) (by omega) (by repeat (first | exact hs3 | refine One.drew ?_ | refine One.alloc ?_ _)) (by repeat (first | exact cellsAt_rec3 _ _ _ _ _ _ rfl | exact cellsAt_lit _ _ _ _ (by simp) | refine CellsAt.drewW ?_ | refine CellsAt.allocW ?_ _ | (refine CellsAt.grown ?_ gs3 ?_) | (intro b o hh; simp at hh; simp [Value.ownBlock]; omega))) ?_; intro as4 cs4 ws4 hs4 gs4)
          | (go_at_call 19; refine (implOk_dec _ _ _ _ _ _ (EnAt.later (enAt_of (by rw [HS3.out]; exact hs4.own)) (by repeat (first | exact Below.refl _ _ | refine Below.drew ?_ | refine below_drewN' ?_ _ | refine below_allocB ?_ _))) HR3.out HM3.out).mono ?_; rintro e w6 ⟨rfl, hb6⟩; have hc6 : Below wb.heap.size wb w6 := below_goK (by repeat (first | exact Below.refl _ _ | exact hc8 | exact hs4.below | exact hs3.below | exact hc6 | refine Below.drew ?_ | refine below_drewN' ?_ _ | refine below_allocB ?_ _)) hb6 (Nat.le_refl _); clear hb6)))
      all_goals (
        go_wp2
        go_ret
        exact ⟨rfl, HBB.out.trans (Below.mono (by repeat (first | exact Below.refl _ _ | exact hc8 | exact hs4.below | exact hs3.below | exact hc6 | refine Below.drew ?_ | refine below_drewN' ?_ _ | refine below_allocB ?_ _)) HBB.out.size)⟩)
    | false =>
      clear HD HT
      go_wp2_with fail
      refine wp_region_held_drew (S := fun w' => w'.cell? ⟨b, o + m * 3, none⟩ = some (.int .i64 x) ∧ w'.cell? ⟨b, o + m * 3 + 1, none⟩ = some (.int .i64 y) ∧ w'.cell? ⟨b, o + m * 3 + 2, none⟩ = some (.int .i64 z)) (by kernel_rfl) (HKS.out _ (Below.drew (Below.refl _ _))) (fun hHeld => ?_)
      refine wpAnyH_take (i := 0) (v := .bool false) rfl (by kernel_rfl) (by kernel_rfl) (by kernel_rfl) (fun _ _ _ h => h) (Or.inl ⟨by kernel_rfl, fun w' hSw => ?_⟩) hHeld ?_
      · (try dsimp only at hSw); (try obtain ⟨hS1, hS2, hS3⟩ := hSw); go_simp
      simp only [Act.put, List.setIfInBounds_toArray]
      refine wpAnyH_take (i := 1) (v := .bool true) rfl (by kernel_rfl) (by kernel_rfl) (by kernel_rfl) (fun _ _ _ h => h) (Or.inl ⟨by kernel_rfl, fun w' hSw => ?_⟩) hHeld ?_
      · (try dsimp only at hSw); (try obtain ⟨hS1, hS2, hS3⟩ := hSw); go_simp
      simp only [Act.put]
      refine wpAnyH_take (i := 2) (v := .bool true) rfl (by kernel_rfl) (by kernel_rfl) (by kernel_rfl) (fun _ _ _ h => h) (Or.inl ⟨by kernel_rfl, fun w' hSw => ?_⟩) hHeld ?_
      · (try dsimp only at hSw); (try obtain ⟨hS1, hS2, hS3⟩ := hSw); go_simp
      simp only [Act.put]
      refine wpAnyH_take (i := 3) (v := undef) rfl (by kernel_rfl) (by kernel_rfl) (by kernel_rfl) (fun _ _ _ h => h) (Or.inr ⟨by kernel_rfl, rfl⟩) hHeld ?_
      simp only [Act.put]
      refine wpAnyH_take (i := 4) (v := undef) rfl (by kernel_rfl) (by kernel_rfl) (by kernel_rfl) (fun _ _ _ h => h) (Or.inr ⟨by kernel_rfl, rfl⟩) hHeld ?_
      simp only [Act.put]
      refine wpAnyH_take (i := 5) (v := undef) rfl (by kernel_rfl) (by kernel_rfl) (by kernel_rfl) (fun _ _ _ h => h) (Or.inr ⟨by kernel_rfl, rfl⟩) hHeld ?_
      simp only [Act.put]
      refine wpAnyH_take (i := 6) (v := undef) rfl (by kernel_rfl) (by kernel_rfl) (by kernel_rfl) (fun _ _ _ h => h) (Or.inr ⟨by kernel_rfl, rfl⟩) hHeld ?_
      simp only [Act.put]
      refine wpAnyH_take (i := 7) (v := undef) rfl (by kernel_rfl) (by kernel_rfl) (by kernel_rfl) (fun _ _ _ h => h) (Or.inr ⟨by kernel_rfl, rfl⟩) hHeld ?_
      simp only [Act.put]
      refine wpAnyH_take (i := 8) (v := undef) rfl (by kernel_rfl) (by kernel_rfl) (by kernel_rfl) (fun _ _ _ h => h) (Or.inr ⟨by kernel_rfl, rfl⟩) hHeld ?_
      simp only [Act.put]
      refine wpAnyH_take (i := 9) (v := undef) rfl (by kernel_rfl) (by kernel_rfl) (by kernel_rfl) (fun _ _ _ h => h) (Or.inr ⟨by kernel_rfl, rfl⟩) hHeld ?_
      simp only [Act.put]
      refine wpAnyH_take (i := 10) (v := undef) rfl (by kernel_rfl) (by kernel_rfl) (by kernel_rfl) (fun _ _ _ h => h) (Or.inr ⟨by kernel_rfl, rfl⟩) hHeld ?_
      simp only [Act.put]
      refine wpAnyH_take (i := 11) (v := undef) rfl (by kernel_rfl) (by kernel_rfl) (by kernel_rfl) (fun _ _ _ h => h) (Or.inr ⟨by kernel_rfl, rfl⟩) hHeld ?_
      simp only [Act.put]
      refine wpAnyH_take (i := 12) (v := undef) rfl (by kernel_rfl) (by kernel_rfl) (by kernel_rfl) (fun _ _ _ h => h) (Or.inr ⟨by kernel_rfl, rfl⟩) hHeld ?_
      simp only [Act.put]
      refine wpAnyH_take (i := 13) (v := undef) rfl (by kernel_rfl) (by kernel_rfl) (by kernel_rfl) (fun _ _ _ h => h) (Or.inr ⟨by kernel_rfl, rfl⟩) hHeld ?_
      simp only [Act.put]
      refine wpAnyH_take (i := 14) (v := .bool true) rfl (by kernel_rfl) (by kernel_rfl) (by kernel_rfl) (fun _ _ _ h => h) (Or.inl ⟨by kernel_rfl, fun w' hSw => ?_⟩) hHeld ?_
      · (try dsimp only at hSw); (try obtain ⟨hS1, hS2, hS3⟩ := hSw); go_simp
      simp only [Act.put]
      refine wpAnyH_take (i := 15) (v := .bool true) rfl (by kernel_rfl) (by kernel_rfl) (by kernel_rfl) (fun _ _ _ h => h) (Or.inl ⟨by kernel_rfl, fun w' hSw => ?_⟩) hHeld ?_
      · (try dsimp only at hSw); (try obtain ⟨hS1, hS2, hS3⟩ := hSw); go_simp
      simp only [Act.put]
      refine wpAnyH_take (i := 17) (v := .slice (some ⟨b, o, none⟩) (m + 1) c1) rfl (by kernel_rfl) (by kernel_rfl) (by kernel_rfl) (fun _ _ _ h => h) (Or.inl ⟨by kernel_rfl, fun w' hSw => ?_⟩) hHeld ?_
      · (try dsimp only at hSw); (try obtain ⟨hS1, hS2, hS3⟩ := hSw); go_simp
      simp only [Act.put]
      refine wpAnyH_take (i := 19) (v := .slice (some ⟨b, o, none⟩) (m + 1) c1) rfl (by kernel_rfl) (by kernel_rfl) (by kernel_rfl) (fun _ _ _ h => h) (Or.inl ⟨by kernel_rfl, fun w' hSw => ?_⟩) hHeld ?_
      · (try dsimp only at hSw); (try obtain ⟨hS1, hS2, hS3⟩ := hSw); go_simp
      simp only [Act.put]
      refine wpAnyH_take (i := 20) (v := .slice (some ⟨b, o, none⟩) (m + 1) c1) rfl (by kernel_rfl) (by kernel_rfl) (by kernel_rfl) (fun _ _ _ h => h) (Or.inl ⟨by kernel_rfl, fun w' hSw => ?_⟩) hHeld ?_
      · (try dsimp only at hSw); (try obtain ⟨hS1, hS2, hS3⟩ := hSw); go_simp
      simp only [Act.put]
      refine wpAnyH_take (i := 21) (v := .int .i64 ((m : Int) + 1)) rfl (by kernel_rfl) (by kernel_rfl) (by kernel_rfl) (fun _ _ _ h => h) (Or.inl ⟨by kernel_rfl, fun w' hSw => ?_⟩) hHeld ?_
      · (try dsimp only at hSw); (try obtain ⟨hS1, hS2, hS3⟩ := hSw); go_simp
      simp only [Act.put]
      refine wpAnyH_take (i := 22) (v := .int .i64 (m : Int)) rfl (by kernel_rfl) (by kernel_rfl) (by kernel_rfl) (fun _ _ _ h => h) (Or.inl ⟨by kernel_rfl, fun w' hSw => ?_⟩) hHeld ?_
      · (try dsimp only at hSw); (try obtain ⟨hS1, hS2, hS3⟩ := hSw); go_simp
      simp only [Act.put]
      refine wpAnyH_take (i := 23) (v := .pointer (some ⟨b, o + m * 3, none⟩)) rfl (by kernel_rfl) (by kernel_rfl) (by kernel_rfl) (fun _ _ _ h => h) (Or.inl ⟨by kernel_rfl, fun w' hSw => ?_⟩) hHeld ?_
      · (try dsimp only at hSw); (try obtain ⟨hS1, hS2, hS3⟩ := hSw); go_simp
      simp only [Act.put]
      refine wpAnyH_take (i := 24) (v := .agg #[.int .i64 x, .int .i64 y, .int .i64 z]) rfl (by kernel_rfl) (by kernel_rfl) (by kernel_rfl) (fun _ _ _ h => h) (Or.inl ⟨by kernel_rfl, fun w' hSw => ?_⟩) hHeld ?_
      · (try dsimp only at hSw); (try obtain ⟨hS1, hS2, hS3⟩ := hSw); go_simp
      simp only [Act.put]
      refine wpAnyH_ready (rs := [16, 25]) (by kernel_rfl) (by simp) ?_
      refine AllReadyH.cons (o := _) rfl (fun K hK => ?_) ?_
      · go_simp
        refine hK.out _ _ (HKS.out _ (by repeat (first | exact Below.refl _ _ | exact hc8 | exact hs4.below | exact hs3.below | exact hc6 | refine Below.drew ?_ | refine below_drewN' ?_ _ | refine below_allocB ?_ _))) (fun hHeld => ?_)
        clear hK K
        (try simp only [Act.put, List.setIfInBounds_toArray, List.set_cons_zero, List.set_cons_succ])
        refine wpAnyH_ready (rs := [18, 25]) (by kernel_rfl) (by simp) ?_
        refine AllReadyH.cons (o := _) rfl (fun K hK => ?_) ?_
        · refine step_append_toG wb wb.heap.size _ 0 0 [] (some ⟨b, o, none⟩) (m + 1) c1 (entsC L) (m + 1) (entsC L) (by omega) (by simp) (by rfl) (.tmp 39) (.tmp 40) 30 (by rfl) (by rfl) (by rfl) Try.ulE5 Try.infoE5 rfl (by decide) (by exact HL3.out) (entsC_one _) (by unfold maxLen; omega) (by omega) (by repeat (first | exact oneEmptyB (by repeat (first | exact Below.refl _ _ | exact hc8 | exact hs4.below | exact hs3.below | exact hc6 | refine Below.drew ?_ | refine below_drewN' ?_ _ | refine below_allocB ?_ _)) _ _ | exact oneSecondB (by repeat (first | exact Below.refl _ _ | exact hc8 | exact hs4.below | exact hs3.below | exact hc6 | refine Below.drew ?_ | refine below_drewN' ?_ _ | refine below_allocB ?_ _)) _ _ _ | refine One.drew ?_ | refine One.alloc ?_ _)) (by exact HE3.out _ (by repeat (first | exact Below.refl _ _ | exact hc8 | exact hs4.below | exact hs3.below | exact hc6 | refine Below.drew ?_ | refine below_drewN' ?_ _ | refine below_allocB ?_ _))) ?_
          intro as3 cs3 ws3 hs3 gs3
          refine hK.out _ _ (HKS.out _ hs3.below) (fun hHeld => ?_)
          clear hK K
          (try simp only [Act.put, List.setIfInBounds_toArray])
          refine wpAnyH_ready (rs := [25]) (by kernel_rfl) (by simp) ?_
          refine AllReadyH.cons (o := _) rfl (fun K hK => ?_) ?_
          · go_simp
            refine hK.out _ _ (HKS.out _ (by repeat (first | exact Below.refl _ _ | exact hc8 | exact hs4.below | exact hs3.below | exact hc6 | refine Below.drew ?_ | refine below_drewN' ?_ _ | refine below_allocB ?_ _))) (fun hHeld => ?_)
            clear hK K
            (try simp only [Act.put, List.setIfInBounds_toArray, List.set_cons_zero, List.set_cons_succ])
            refine wpAnyH_ready (rs := [26]) (by kernel_rfl) (by simp) ?_
            refine AllReadyH.cons (o := _) rfl (fun K hK => ?_) ?_
            · refine step_append_toG wb wb.heap.size as3 (m + 1) cs3 (entsC L) _ 1 1 [.int .i64 x, .int .i64 y, .int .i64 z] (m + 1 + 1) (entsC L ++ [.int .i64 x, .int .i64 y, .int .i64 z]) (by omega) (by rfl) (by rfl) (.tmp 41) (.tmp 48) 30 (by rfl) (by rfl) (by rfl) Try.ulE5 Try.infoE5 rfl (by decide) (by rfl) (by simp [Value.oneCell']) (by unfold maxLen; omega) (by omega) (by repeat (first | exact hs3 | refine One.drew ?_ | refine One.alloc ?_ _)) (by repeat (first | exact cellsAt_rec3 _ _ _ _ _ _ rfl | exact cellsAt_lit _ _ _ _ (by simp) | refine CellsAt.drewW ?_ | refine CellsAt.allocW ?_ _ | (refine CellsAt.grown ?_ gs3 ?_) | (intro b o hh; simp at hh; simp [Value.ownBlock]; omega))) ?_
              intro as4 cs4 ws4 hs4 gs4
              refine hK.out _ _ (HKS.out _ hs4.below) (fun hHeld => ?_)
              clear hK K
              (try simp only [Act.put, List.setIfInBounds_toArray])
              refine wpAnyH_ready (rs := [27]) (by kernel_rfl) (by simp) ?_
              refine AllReadyH.cons (o := _) rfl (fun K hK => ?_) AllReadyH.nil
              go_simp
              refine (implOk_dec _ _ _ _ _ _ (EnAt.later (enAt_of (by rw [HS3.out]; exact hs4.own)) (by repeat (first | exact Below.refl _ _ | refine Below.drew ?_ | refine below_drewN' ?_ _ | refine below_allocB ?_ _))) HR3.out HM3.out).mono ?_
              rintro e w6 ⟨rfl, hb6⟩
              have hc6 : Below wb.heap.size wb w6 := below_goK (by repeat (first | exact Below.refl _ _ | exact hc8 | exact hs4.below | exact hs3.below | exact hc6 | refine Below.drew ?_ | refine below_drewN' ?_ _ | refine below_allocB ?_ _)) hb6 (Nat.le_refl _)
              clear hb6
              (try dsimp only)
              refine hK.out _ _ (HKS.out _ hc6) (fun hHeld => ?_)
              clear hK K
              (try simp only [Act.put, List.setIfInBounds_toArray, List.set_cons_zero, List.set_cons_succ])
              refine wpAnyH_take (i := 28) (v := .bool true) rfl (by kernel_rfl) (by kernel_rfl) (by kernel_rfl) (fun _ _ _ h => h) (Or.inl ⟨by kernel_rfl, fun w' hSw => ?_⟩) hHeld ?_
              · (try dsimp only at hSw); (try obtain ⟨hS1, hS2, hS3⟩ := hSw); go_simp
              simp only [Act.put, List.setIfInBounds_toArray]
              refine wpAnyH_take (i := 29) (v := .bool true) rfl (by kernel_rfl) (by kernel_rfl) (by kernel_rfl) (fun _ _ _ h => h) (Or.inl ⟨by kernel_rfl, fun w' hSw => ?_⟩) hHeld ?_
              · (try dsimp only at hSw); (try obtain ⟨hS1, hS2, hS3⟩ := hSw); go_simp
              simp only [Act.put]
              refine wpAnyH_take (i := 30) (v := .bool true) rfl (by kernel_rfl) (by kernel_rfl) (by kernel_rfl) (fun _ _ _ h => h) (Or.inl ⟨by kernel_rfl, fun w' hSw => ?_⟩) hHeld ?_
              · (try dsimp only at hSw); (try obtain ⟨hS1, hS2, hS3⟩ := hSw); go_simp
              simp only [Act.put]
              refine wpAnyH_ready (rs := [31]) (by kernel_rfl) (by simp) ?_
              refine AllReadyH.cons (o := _) rfl (fun K hK => ?_) AllReadyH.nil
              go_simp
              refine (alive_any _).mono ?_
              rintro e w9 ⟨rfl, rfl⟩
              (try dsimp only)
              refine hK.out _ _ (HKS.out _ hc6) (fun hHeld => ?_)
              clear hK K
              (try simp only [Act.put, List.setIfInBounds_toArray, List.set_cons_zero, List.set_cons_succ])
              refine wpAnyH_take (i := 32) (v := .bool true) rfl (by kernel_rfl) (by kernel_rfl) (by kernel_rfl) (fun _ _ _ h => h) (Or.inl ⟨by kernel_rfl, fun w' hSw => ?_⟩) hHeld ?_
              · (try dsimp only at hSw); (try obtain ⟨hS1, hS2, hS3⟩ := hSw); go_simp
              simp only [Act.put, List.getElem_toArray, List.getElem_cons_succ, List.getElem_cons_zero, List.setIfInBounds_toArray, List.set_cons_zero, List.set_cons_succ]
              refine wpAnyH_take (i := 33) (v := .bool true) rfl (by kernel_rfl) (by kernel_rfl) (by kernel_rfl) (fun _ _ _ h => h) (Or.inl ⟨by kernel_rfl, fun w' hSw => ?_⟩) hHeld ?_
              · (try dsimp only at hSw); (try obtain ⟨hS1, hS2, hS3⟩ := hSw); go_simp
              simp only [Act.put, List.getElem_toArray, List.getElem_cons_succ, List.getElem_cons_zero, List.setIfInBounds_toArray, List.set_cons_zero, List.set_cons_succ]
              refine wpAnyH_done (by kernel_rfl) ?_ _
              go_wp2
              go_ret
              exact ⟨rfl, HBB.out.trans (hc6.mono HBB.out.size)⟩
            exact AllReadyH.nil
          exact AllReadyH.nil
        refine AllReadyH.cons (o := _) rfl (fun K hK => ?_) ?_
        · go_simp
          refine hK.out _ _ (HKS.out _ (by repeat (first | exact Below.refl _ _ | exact hc8 | exact hs4.below | exact hs3.below | exact hc6 | refine Below.drew ?_ | refine below_drewN' ?_ _ | refine below_allocB ?_ _))) (fun hHeld => ?_)
          clear hK K
          (try simp only [Act.put, List.setIfInBounds_toArray, List.set_cons_zero, List.set_cons_succ])
          refine wpAnyH_ready (rs := [18]) (by kernel_rfl) (by simp) ?_
          refine AllReadyH.cons (o := _) rfl (fun K hK => ?_) ?_
          · refine step_append_toG wb wb.heap.size _ 0 0 [] (some ⟨b, o, none⟩) (m + 1) c1 (entsC L) (m + 1) (entsC L) (by omega) (by simp) (by rfl) (.tmp 39) (.tmp 40) 30 (by rfl) (by rfl) (by rfl) Try.ulE5 Try.infoE5 rfl (by decide) (by exact HL3.out) (entsC_one _) (by unfold maxLen; omega) (by omega) (by repeat (first | exact oneEmptyB (by repeat (first | exact Below.refl _ _ | exact hc8 | exact hs4.below | exact hs3.below | exact hc6 | refine Below.drew ?_ | refine below_drewN' ?_ _ | refine below_allocB ?_ _)) _ _ | exact oneSecondB (by repeat (first | exact Below.refl _ _ | exact hc8 | exact hs4.below | exact hs3.below | exact hc6 | refine Below.drew ?_ | refine below_drewN' ?_ _ | refine below_allocB ?_ _)) _ _ _ | refine One.drew ?_ | refine One.alloc ?_ _)) (by exact HE3.out _ (by repeat (first | exact Below.refl _ _ | exact hc8 | exact hs4.below | exact hs3.below | exact hc6 | refine Below.drew ?_ | refine below_drewN' ?_ _ | refine below_allocB ?_ _))) ?_
            intro as3 cs3 ws3 hs3 gs3
            refine hK.out _ _ (HKS.out _ hs3.below) (fun hHeld => ?_)
            clear hK K
            (try simp only [Act.put, List.setIfInBounds_toArray])
            refine wpAnyH_ready (rs := [26]) (by kernel_rfl) (by simp) ?_
            refine AllReadyH.cons (o := _) rfl (fun K hK => ?_) ?_
            · refine step_append_toG wb wb.heap.size as3 (m + 1) cs3 (entsC L) _ 1 1 [.int .i64 x, .int .i64 y, .int .i64 z] (m + 1 + 1) (entsC L ++ [.int .i64 x, .int .i64 y, .int .i64 z]) (by omega) (by rfl) (by rfl) (.tmp 41) (.tmp 48) 30 (by rfl) (by rfl) (by rfl) Try.ulE5 Try.infoE5 rfl (by decide) (by rfl) (by simp [Value.oneCell']) (by unfold maxLen; omega) (by omega) (by repeat (first | exact hs3 | refine One.drew ?_ | refine One.alloc ?_ _)) (by repeat (first | exact cellsAt_rec3 _ _ _ _ _ _ rfl | exact cellsAt_lit _ _ _ _ (by simp) | refine CellsAt.drewW ?_ | refine CellsAt.allocW ?_ _ | (refine CellsAt.grown ?_ gs3 ?_) | (intro b o hh; simp at hh; simp [Value.ownBlock]; omega))) ?_
              intro as4 cs4 ws4 hs4 gs4
              refine hK.out _ _ (HKS.out _ hs4.below) (fun hHeld => ?_)
              clear hK K
              (try simp only [Act.put])
              refine wpAnyH_ready (rs := [27]) (by kernel_rfl) (by simp) ?_
              refine AllReadyH.cons (o := _) rfl (fun K hK => ?_) AllReadyH.nil
              go_simp
              refine (implOk_dec _ _ _ _ _ _ (EnAt.later (enAt_of (by rw [HS3.out]; exact hs4.own)) (by repeat (first | exact Below.refl _ _ | refine Below.drew ?_ | refine below_drewN' ?_ _ | refine below_allocB ?_ _))) HR3.out HM3.out).mono ?_
              rintro e w6 ⟨rfl, hb6⟩
              have hc6 : Below wb.heap.size wb w6 := below_goK (by repeat (first | exact Below.refl _ _ | exact hc8 | exact hs4.below | exact hs3.below | exact hc6 | refine Below.drew ?_ | refine below_drewN' ?_ _ | refine below_allocB ?_ _)) hb6 (Nat.le_refl _)
              clear hb6
              (try dsimp only)
              refine hK.out _ _ (HKS.out _ hc6) (fun hHeld => ?_)
              clear hK K
              (try simp only [Act.put, List.setIfInBounds_toArray, List.set_cons_zero, List.set_cons_succ])
              refine wpAnyH_take (i := 28) (v := .bool true) rfl (by kernel_rfl) (by kernel_rfl) (by kernel_rfl) (fun _ _ _ h => h) (Or.inl ⟨by kernel_rfl, fun w' hSw => ?_⟩) hHeld ?_
              · (try dsimp only at hSw); (try obtain ⟨hS1, hS2, hS3⟩ := hSw); go_simp
              simp only [Act.put, List.setIfInBounds_toArray]
              refine wpAnyH_take (i := 29) (v := .bool true) rfl (by kernel_rfl) (by kernel_rfl) (by kernel_rfl) (fun _ _ _ h => h) (Or.inl ⟨by kernel_rfl, fun w' hSw => ?_⟩) hHeld ?_
              · (try dsimp only at hSw); (try obtain ⟨hS1, hS2, hS3⟩ := hSw); go_simp
              simp only [Act.put]
              refine wpAnyH_take (i := 30) (v := .bool true) rfl (by kernel_rfl) (by kernel_rfl) (by kernel_rfl) (fun _ _ _ h => h) (Or.inl ⟨by kernel_rfl, fun w' hSw => ?_⟩) hHeld ?_
              · (try dsimp only at hSw); (try obtain ⟨hS1, hS2, hS3⟩ := hSw); go_simp
              simp only [Act.put]
              refine wpAnyH_ready (rs := [31]) (by kernel_rfl) (by simp) ?_
              refine AllReadyH.cons (o := _) rfl (fun K hK => ?_) AllReadyH.nil
              go_simp
              refine (alive_any _).mono ?_
              rintro e w9 ⟨rfl, rfl⟩
              (try dsimp only)
              refine hK.out _ _ (HKS.out _ hc6) (fun hHeld => ?_)
              clear hK K
              (try simp only [Act.put, List.setIfInBounds_toArray, List.set_cons_zero, List.set_cons_succ])
              refine wpAnyH_take (i := 32) (v := .bool true) rfl (by kernel_rfl) (by kernel_rfl) (by kernel_rfl) (fun _ _ _ h => h) (Or.inl ⟨by kernel_rfl, fun w' hSw => ?_⟩) hHeld ?_
              · (try dsimp only at hSw); (try obtain ⟨hS1, hS2, hS3⟩ := hSw); go_simp
              simp only [Act.put, List.getElem_toArray, List.getElem_cons_succ, List.getElem_cons_zero, List.setIfInBounds_toArray, List.set_cons_zero, List.set_cons_succ]
              refine wpAnyH_take (i := 33) (v := .bool true) rfl (by kernel_rfl) (by kernel_rfl) (by kernel_rfl) (fun _ _ _ h => h) (Or.inl ⟨by kernel_rfl, fun w' hSw => ?_⟩) hHeld ?_
              · (try dsimp only at hSw); (try obtain ⟨hS1, hS2, hS3⟩ := hSw); go_simp
              simp only [Act.put, List.getElem_toArray, List.getElem_cons_succ, List.getElem_cons_zero, List.setIfInBounds_toArray, List.set_cons_zero, List.set_cons_succ]
              refine wpAnyH_done (by kernel_rfl) ?_ _
              go_wp2
              go_ret
              exact ⟨rfl, HBB.out.trans (hc6.mono HBB.out.size)⟩
            exact AllReadyH.nil
          exact AllReadyH.nil
        exact AllReadyH.nil
      refine AllReadyH.cons (o := _) rfl (fun K hK => ?_) ?_
      · go_simp
        refine hK.out _ _ (HKS.out _ (by repeat (first | exact Below.refl _ _ | exact hc8 | exact hs4.below | exact hs3.below | exact hc6 | refine Below.drew ?_ | refine below_drewN' ?_ _ | refine below_allocB ?_ _))) (fun hHeld => ?_)
        clear hK K
        (try simp only [Act.put, List.setIfInBounds_toArray, List.set_cons_zero, List.set_cons_succ])
        refine wpAnyH_ready (rs := [16]) (by kernel_rfl) (by simp) ?_
        refine AllReadyH.cons (o := _) rfl (fun K hK => ?_) ?_
        · go_simp
          refine hK.out _ _ (HKS.out _ (by repeat (first | exact Below.refl _ _ | exact hc8 | exact hs4.below | exact hs3.below | exact hc6 | refine Below.drew ?_ | refine below_drewN' ?_ _ | refine below_allocB ?_ _))) (fun hHeld => ?_)
          clear hK K
          (try simp only [Act.put, List.setIfInBounds_toArray, List.set_cons_zero, List.set_cons_succ])
          refine wpAnyH_ready (rs := [18]) (by kernel_rfl) (by simp) ?_
          refine AllReadyH.cons (o := _) rfl (fun K hK => ?_) ?_
          · refine step_append_toG wb wb.heap.size _ 0 0 [] (some ⟨b, o, none⟩) (m + 1) c1 (entsC L) (m + 1) (entsC L) (by omega) (by simp) (by rfl) (.tmp 39) (.tmp 40) 30 (by rfl) (by rfl) (by rfl) Try.ulE5 Try.infoE5 rfl (by decide) (by exact HL3.out) (entsC_one _) (by unfold maxLen; omega) (by omega) (by repeat (first | exact oneEmptyB (by repeat (first | exact Below.refl _ _ | exact hc8 | exact hs4.below | exact hs3.below | exact hc6 | refine Below.drew ?_ | refine below_drewN' ?_ _ | refine below_allocB ?_ _)) _ _ | exact oneSecondB (by repeat (first | exact Below.refl _ _ | exact hc8 | exact hs4.below | exact hs3.below | exact hc6 | refine Below.drew ?_ | refine below_drewN' ?_ _ | refine below_allocB ?_ _)) _ _ _ | refine One.drew ?_ | refine One.alloc ?_ _)) (by exact HE3.out _ (by repeat (first | exact Below.refl _ _ | exact hc8 | exact hs4.below | exact hs3.below | exact hc6 | refine Below.drew ?_ | refine below_drewN' ?_ _ | refine below_allocB ?_ _))) ?_
            intro as3 cs3 ws3 hs3 gs3
            refine hK.out _ _ (HKS.out _ hs3.below) (fun hHeld => ?_)
            clear hK K
            (try simp only [Act.put, List.setIfInBounds_toArray])
            refine wpAnyH_ready (rs := [26]) (by kernel_rfl) (by simp) ?_
            refine AllReadyH.cons (o := _) rfl (fun K hK => ?_) ?_
            · refine step_append_toG wb wb.heap.size as3 (m + 1) cs3 (entsC L) _ 1 1 [.int .i64 x, .int .i64 y, .int .i64 z] (m + 1 + 1) (entsC L ++ [.int .i64 x, .int .i64 y, .int .i64 z]) (by omega) (by rfl) (by rfl) (.tmp 41) (.tmp 48) 30 (by rfl) (by rfl) (by rfl) Try.ulE5 Try.infoE5 rfl (by decide) (by rfl) (by simp [Value.oneCell']) (by unfold maxLen; omega) (by omega) (by repeat (first | exact hs3 | refine One.drew ?_ | refine One.alloc ?_ _)) (by repeat (first | exact cellsAt_rec3 _ _ _ _ _ _ rfl | exact cellsAt_lit _ _ _ _ (by simp) | refine CellsAt.drewW ?_ | refine CellsAt.allocW ?_ _ | (refine CellsAt.grown ?_ gs3 ?_) | (intro b o hh; simp at hh; simp [Value.ownBlock]; omega))) ?_
              intro as4 cs4 ws4 hs4 gs4
              refine hK.out _ _ (HKS.out _ hs4.below) (fun hHeld => ?_)
              clear hK K
              (try simp only [Act.put])
              refine wpAnyH_ready (rs := [27]) (by kernel_rfl) (by simp) ?_
              refine AllReadyH.cons (o := _) rfl (fun K hK => ?_) AllReadyH.nil
              go_simp
              refine (implOk_dec _ _ _ _ _ _ (EnAt.later (enAt_of (by rw [HS3.out]; exact hs4.own)) (by repeat (first | exact Below.refl _ _ | refine Below.drew ?_ | refine below_drewN' ?_ _ | refine below_allocB ?_ _))) HR3.out HM3.out).mono ?_
              rintro e w6 ⟨rfl, hb6⟩
              have hc6 : Below wb.heap.size wb w6 := below_goK (by repeat (first | exact Below.refl _ _ | exact hc8 | exact hs4.below | exact hs3.below | exact hc6 | refine Below.drew ?_ | refine below_drewN' ?_ _ | refine below_allocB ?_ _)) hb6 (Nat.le_refl _)
              clear hb6
              (try dsimp only)
              refine hK.out _ _ (HKS.out _ hc6) (fun hHeld => ?_)
              clear hK K
              (try simp only [Act.put, List.setIfInBounds_toArray, List.set_cons_zero, List.set_cons_succ])
              refine wpAnyH_take (i := 28) (v := .bool true) rfl (by kernel_rfl) (by kernel_rfl) (by kernel_rfl) (fun _ _ _ h => h) (Or.inl ⟨by kernel_rfl, fun w' hSw => ?_⟩) hHeld ?_
              · (try dsimp only at hSw); (try obtain ⟨hS1, hS2, hS3⟩ := hSw); go_simp
              simp only [Act.put, List.setIfInBounds_toArray]
              refine wpAnyH_take (i := 29) (v := .bool true) rfl (by kernel_rfl) (by kernel_rfl) (by kernel_rfl) (fun _ _ _ h => h) (Or.inl ⟨by kernel_rfl, fun w' hSw => ?_⟩) hHeld ?_
              · (try dsimp only at hSw); (try obtain ⟨hS1, hS2, hS3⟩ := hSw); go_simp
              simp only [Act.put]
              refine wpAnyH_take (i := 30) (v := .bool true) rfl (by kernel_rfl) (by kernel_rfl) (by kernel_rfl) (fun _ _ _ h => h) (Or.inl ⟨by kernel_rfl, fun w' hSw => ?_⟩) hHeld ?_
              · (try dsimp only at hSw); (try obtain ⟨hS1, hS2, hS3⟩ := hSw); go_simp
              simp only [Act.put]
              refine wpAnyH_ready (rs := [31]) (by kernel_rfl) (by simp) ?_
              refine AllReadyH.cons (o := _) rfl (fun K hK => ?_) AllReadyH.nil
              go_simp
              refine (alive_any _).mono ?_
              rintro e w9 ⟨rfl, rfl⟩
              (try dsimp only)
              refine hK.out _ _ (HKS.out _ hc6) (fun hHeld => ?_)
              clear hK K
              (try simp only [Act.put, List.setIfInBounds_toArray, List.set_cons_zero, List.set_cons_succ])
              refine wpAnyH_take (i := 32) (v := .bool true) rfl (by kernel_rfl) (by kernel_rfl) (by kernel_rfl) (fun _ _ _ h => h) (Or.inl ⟨by kernel_rfl, fun w' hSw => ?_⟩) hHeld ?_
              · (try dsimp only at hSw); (try obtain ⟨hS1, hS2, hS3⟩ := hSw); go_simp
              simp only [Act.put, List.getElem_toArray, List.getElem_cons_succ, List.getElem_cons_zero, List.setIfInBounds_toArray, List.set_cons_zero, List.set_cons_succ]
              refine wpAnyH_take (i := 33) (v := .bool true) rfl (by kernel_rfl) (by kernel_rfl) (by kernel_rfl) (fun _ _ _ h => h) (Or.inl ⟨by kernel_rfl, fun w' hSw => ?_⟩) hHeld ?_
              · (try dsimp only at hSw); (try obtain ⟨hS1, hS2, hS3⟩ := hSw); go_simp
              simp only [Act.put, List.getElem_toArray, List.getElem_cons_succ, List.getElem_cons_zero, List.setIfInBounds_toArray, List.set_cons_zero, List.set_cons_succ]
              refine wpAnyH_done (by kernel_rfl) ?_ _
              go_wp2
              go_ret
              exact ⟨rfl, HBB.out.trans (hc6.mono HBB.out.size)⟩
            exact AllReadyH.nil
          exact AllReadyH.nil
        exact AllReadyH.nil
      exact AllReadyH.nil
  · obtain rfl : n1 = 0 := by omega
    go_wp2_with fail
    refine (alive_any _).mono ?_
    rintro e wq ⟨rfl, rfl⟩
    go_wp2
    go_ret
    exact ⟨rfl, HBB.out⟩

end Go.Proofs.Yteieolkpmjoohaa
