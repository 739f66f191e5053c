/-
  The contract of the model's function HowOften. Condition: texts have at most 2^20 bytes.
-/
import Derived.Test.YtehppjilnacjlaaPcsM
import Derived.Test.YtehppjilnacjlaaMathEnds
namespace Go.Proofs.Ytehppjilnacjlaa
open Go.RowKit

/-- A state is met on the way down the links, by the number of bytes at which the way stands. -/
def metS (L : List Sta) (x : Wd) (q h : Nat) : Prop := tW L q <:+ x ∧ h ≤ (tW L q).length
open Classical in
noncomputable def metN (L : List Sta) (x : Wd) (q h : Nat) : Nat := if metS L x q h then 1 else 0
theorem metN_yes {L : List Sta} {x : Wd} {q h : Nat} (e : metS L x q h) : metN L x q h = 1 := by unfold metN; exact if_pos e
theorem metN_no {L : List Sta} {x : Wd} {q h : Nat} (e : ¬ metS L x q h) : metN L x q h = 0 := by unfold metN; exact if_neg e
theorem metN_same {L : List Sta} {x : Wd} {q h k : Nat} (e : metS L x q h ↔ metS L x q k) : metN L x q h = metN L x q k := by
  by_cases hh : metS L x q h
  · rw [metN_yes hh, metN_yes (e.1 hh)]
  · rw [metN_no hh, metN_no (fun f => hh (e.2 f))]
theorem met_next {u : Wd} {L : List Sta} (hM : MInv u L) {x : Wd} {j q h : Nat} (hj : j < L.length) (hq : q < L.length) (h1 : tW L j <:+ x) (hne : j ≠ q) (hh : (j = 0 ∧ h = 0) ∨ ∃ k, h = (tW L k).length + 1 ∧ (tW L k).length < (tW L j).length ∧ ∀ e, e < L.length → tW L e <:+ tW L j → (tW L e).length < (tW L j).length → (tW L e).length ≤ (tW L k).length) :
    metN L x q h = metN L x q ((tW L j).length + 1) := by
  refine metN_same ⟨fun e => ⟨e.1, ?_⟩, fun e => ⟨e.1, ?_⟩⟩
  · rcases Nat.lt_or_ge (tW L j).length (tW L q).length with h2 | h2
    · exact h2
    · exfalso
      have hlt : (tW L q).length < (tW L j).length := by
        rcases Nat.lt_or_ge (tW L q).length (tW L j).length with h3 | h3
        · exact h3
        · exact absurd (chain_one hM hj hq h1 e.1 (by omega)) hne
      rcases hh with ⟨rfl, _⟩ | ⟨k, hk, _, h5⟩
      · rw [hM.inv.w0] at hlt
        simp at hlt
      · have := h5 q hq (path_cmp e.1 h1 (by omega)) hlt
        have := e.2
        omega
  · have := e.2
    rcases hh with ⟨_, rfl⟩ | ⟨k, rfl, h4, _⟩ <;> omega

set_option maxHeartbeats 16000000 in
theorem specHow_any (s t : ByteArray) (w : World) (hs : s.size ≤ 1048576) (ht : t.size ≤ 1048576) :
    Calls Try.prog 36 #[.string s, .string t] w fun e w' => e = .returned (.int .i64 (howN s.data.toList t.data.toList)) ∧ Below w.heap.size w w' := by
  have hsz : s.data.toList.length = s.size := rfl
  have hfew := mach_few s.data.toList
  have c1 := specMach_any s w hs
  obtain ⟨u, hu⟩ : ∃ u, s.data.toList = u := ⟨_, rfl⟩
  obtain ⟨y, hy⟩ : ∃ y, t.data.toList = y := ⟨_, rfl⟩
  have HU := Lib.hid hu
  rw [hu] at hsz c1 hfew ⊢
  have hm := mach_most u (by omega)
  have hi := machL_inv u
  obtain ⟨L, hL⟩ : ∃ L, machL u = L := ⟨_, rfl⟩
  rw [hL] at hm hi c1 hfew
  have HI := Lib.hid hi
  have HUS := Lib.hid hsz
  have h0 : 0 < L.length := hi.inv.pos
  have HT := Lib.hid (fun (a : Option Addr) (n c : Nat) (A : Nat → Sm) (w : World) hn hn9 h => specFol_any (datL L) t a n c A w hn hn9 hfew ht h)
  have HFEW := Lib.hid hfew
  rw [hy] at HT ⊢
  have hfol := mach_fol hi y
  clear hu hsz hL hfew hy
  go_enter Try.func36, Try.ntmps36
  go_wp2_with fail
  refine c1.mono ?_
  rintro e w2 ⟨g, c, A, rfl, hS⟩
  have c2 := HT.out (some ⟨g, 0, none⟩) L.length c A w2 (datL_len _).symm (by omega) hS.at_
  have HS := Lib.hid hS
  clear c1 hS HT
  go_wp2_with fail
  refine c2.mono ?_
  rintro e w3 ⟨rfl, b3⟩
  have HS3 := Lib.hid (HS.out.later b3)
  clear HS b3 c2
  by_cases hp : pcIn u y ∧ y ≠ []
  · obtain ⟨q, hq, e1, hse⟩ := hfol.1 hp.1
    have hq0 : q ≠ 0 := fun e => by
      subst e
      have h1 := hi.inv.mx 0 hq y hse
      rw [hi.inv.w0] at h1
      exact hp.2 (List.suffix_nil.1 h1)
    have t1 : decide ((q : Int) < 1) = false := decide_eq_false (by omega)
    have HHN := Lib.hid (show howN u y = howTo u y u.length by rw [howN, if_neg hp.2])
    rw [e1]
    have HSE := Lib.hid hse
    have HW0 := Lib.hid (show tW L 0 = u.take 0 by rw [List.take_zero]; exact hi.inv.w0)
    clear hfol hp e1 hse hi
    go_wp2
    go_loopw [7, 8, 9] (fun n_ at_ k_ wr => ∃ k i : Nat, k ≤ s.size ∧ i < L.length ∧ n_ = .int .i64 (howTo u y k : Nat) ∧ at_ = .int .i64 (i : Int) ∧ k_ = .int .i64 (k : Int) ∧ Hid (tW L i = u.take k) ∧ Hid (StRows w w.heap.size wr (some ⟨g, 0, none⟩) L.length c (dOf L) A (tE L))) (fun _ _ k_ _ => s.size - (intOf k_).toNat)
    case atStart => exact ⟨0, 0, Nat.zero_le _, h0, rfl, rfl, rfl, HW0, HS3⟩
    case round =>
      clear HS3 HW0
      obtain ⟨k, i, hk, hil, rfl, rfl, rfl, HW, HS⟩ := hrel
      by_cases hlt : k < s.size
      · obtain ⟨x, hx⟩ : ∃ x, s[k] = x := ⟨_, rfl⟩
        have hku : k < u.length := by have := HUS.out; omega
        have hux : u[k] = x := by
          rw [← hx]
          have h1 := HU.out
          subst h1
          rfl
        obtain ⟨j, hj, e1, e2⟩ := prefix_next HI.out hku hil HW.out
        rw [hux] at e1
        obtain ⟨ai, ni, ci, hAi⟩ : ∃ a n c, A i = (a, n, c) := ⟨_, _, _, rfl⟩
        obtain ⟨d1, hd1⟩ : ∃ d : Int, ((tW L i).length : Int) = d := ⟨_, rfl⟩
        obtain ⟨d2, hd2⟩ : ∃ d, tK L i = d := ⟨_, rfl⟩
        have hone := HS.out.one hil
        rw [hAi] at hone
        have HCS := Lib.hid (show ∀ w', Below wr.heap.size wr w' → w'.cell? ⟨g, i * 3, none⟩ = some (.int .i64 d1) ∧ w'.cell? ⟨g, i * 3 + 1, none⟩ = some (.int .i64 d2) ∧ w'.cell? ⟨g, i * 3 + 2, none⟩ = some (.slice ai ni ci) from fun w' hb' => by
          have h1 := (HS.out.later hb').cells hil
          rw [dOf, hd1, hd2, hAi] at h1
          exact h1)
        have hlen : ni = (tE L i).length := pairs_len hone.own
        have hfe := edges_few HI.out hil
        have cT := fun (w' : World) hb' => specTo_any d1 d2 (tE L i) (x.toNat : Int) ai ni ci w' hlen (by omega) (hone.at_.below (w' := w') hb')
        rw [show toE (tE L i) (x.toNat : Int) = (j : Int) from e1] at cT
        have HT := Lib.hid cT
        have HV := Lib.hid (show IntKind.i64.wrap (x.toNat : Int) = (x.toNat : Int) from IntWalk.i64_in _ (by have := x.toNat_lt; omega))
        obtain ⟨g1, g2, g3⟩ := HCS.out wr (Below.refl _ _)
        have z0 : (0 : Int) ≤ (k : Int) := by omega
        have z1 : (k : Int) < (s.size : Int) := by omega
        have z2 : (0 : Int) ≤ (i : Int) := by omega
        have z3 : (i : Int) < (L.length : Int) := by omega
        have HWJ := Lib.hid e2
        have hhl := howTo_le u y k
        obtain ⟨N, hN⟩ : ∃ N, howTo u y k = N := ⟨_, rfl⟩
        have hkl : k + 1 ≤ u.length := hku
        have HNX := Lib.hid (show howTo u y (k + 1) = N + metN L (tW L j) q 0 by
          have h1 := how_state HSE.out hkl e2
          by_cases hh : endsAt u y (k + 1)
          · rw [howTo_yes hh, hN, metN_yes ⟨h1.2 hh, Nat.zero_le _⟩]
          · rw [howTo_no hh, hN, metN_no (fun e => hh (h1.1 e.1))]; rfl)
        rw [hN] at hhl
        rw [hN]
        have HST := Lib.hid (show metN L (tW L j) q ((tW L j).length + 1) = 0 from metN_no (fun e => by have := e.1.length_le; have := e.2; omega))
        clear hux e1 e2 hAi hd1 hd2 hone hlen hfe cT hN hku hkl
        go_wp2
        go_region_held3 (fun w' => w'.cell? ⟨g, i * 3, none⟩ = some (.int .i64 d1) ∧ w'.cell? ⟨g, i * 3 + 1, none⟩ = some (.int .i64 d2) ∧ w'.cell? ⟨g, i * 3 + 2, none⟩ = some (.slice ai ni ci)) (first | go_keep | exact HCS.out _ (Below.trans (by repeat (first | exact Below.refl _ _ | refine Below.drew ?_ | refine below_drewN' ?_ _)) (hb5.mono (by simp))))
          ((go_at_call 46; rw [HV.out]; refine (HT.out _ (by repeat (first | exact Below.refl _ _ | refine Below.drew ?_ | refine below_drewN' ?_ _))).mono ?_; rintro e w5 ⟨rfl, hb5⟩))
        have HS6 := Lib.hid (HS.out.later (Below.trans (by repeat (first | exact Below.refl _ _ | refine Below.drew ?_ | refine below_drewN' ?_ _)) (hb5.mono (by simp))))
        clear hb5 HT HCS g1 g2 g3 HS HW
        go_wp2
        go_loopw [7, 10] (fun n_ p_ wr => ∃ (h : Nat) (p : Int), n_ = .int .i64 (N + metN L (tW L j) q h : Nat) ∧ p_ = .int .i64 p ∧ Hid ((p = -1 ∧ h = 0) ∨ ∃ e : Nat, e < L.length ∧ p = e ∧ tW L e <:+ tW L j ∧ h = (tW L e).length + 1) ∧ Hid (StRows w w.heap.size wr (some ⟨g, 0, none⟩) L.length c (dOf L) A (tE L))) (fun _ p_ _ => if intOf p_ < 0 then 0 else (tW L (intOf p_).toNat).length + 1)
        case atStart => exact ⟨(tW L j).length + 1, (j : Int), by rw [HST.out]; rfl, rfl, Lib.hid (.inr ⟨j, hj, rfl, List.suffix_refl _, rfl⟩), HS6⟩
        case round =>
          clear HS6 HST
          obtain ⟨h, p, rfl, rfl, HP, HS⟩ := hrel
          rcases HP.out with ⟨rfl, rfl⟩ | ⟨e, he, rfl, hsuf, rfl⟩
          · rw [← HNX.out]
            go_wp2
            go_roundw
            case rel => exact ⟨k + 1, j, by omega, hj, rfl, rfl, by go_num, HWJ, HS⟩
            case measure => simp [intOf]; omega
          · have x1 := (HS.out.cells he).2.1
            obtain ⟨kk, hkk⟩ : ∃ x, tK L e = x := ⟨_, rfl⟩
            rw [dOf, hkk] at x1
            have HCASE : ∃ h2 : Nat, ((e = 0 ∧ kk = -1 ∧ h2 = 0) ∨ ∃ r : Nat, r < L.length ∧ kk = r ∧ tW L r <:+ tW L j ∧ (tW L r).length < (tW L e).length ∧ h2 = (tW L r).length + 1) ∧ h2 ≤ (tW L e).length ∧ (e ≠ q → metN L (tW L j) q h2 = metN L (tW L j) q ((tW L e).length + 1)) := by
              rcases Nat.eq_zero_or_pos e with h1 | h1
              · subst h1
                exact ⟨0, .inl ⟨rfl, by rw [← hkk]; exact HI.out.inv.k0, rfl⟩, Nat.zero_le _, fun hne => met_next HI.out he hq hsuf hne (.inl ⟨rfl, rfl⟩)⟩
              · obtain ⟨r, hr, r1, r2, r3, r4⟩ := chain_link HI.out he h1
                exact ⟨(tW L r).length + 1, .inr ⟨r, hr, by rw [← hkk, r1], r2.trans hsuf, r3, rfl⟩, r3, fun hne => met_next HI.out he hq hsuf hne (.inr ⟨r, rfl, r3, r4⟩)⟩
            obtain ⟨h2, hc1, hc2, hc3⟩ := HCASE
            have HC1 := Lib.hid hc1
            have z4 : (0 : Int) ≤ (e : Int) := by omega
            have z5 : (e : Int) < (L.length : Int) := by omega
            by_cases heq : e = q
            · subst heq
              have t6 : ((e : Int) == (e : Int)) = true := by rw [beq_iff_eq]
              have m1 : metN L (tW L j) e ((tW L e).length + 1) = 0 := metN_no (fun x => by have := x.2; omega)
              have HM2 := Lib.hid (show metN L (tW L j) e h2 = 1 from metN_yes ⟨hsuf, hc2⟩)
              rw [m1]
              clear hc1 hc2 hc3 m1 hkk HP
              go_wp2
              go_roundw
              case rel =>
                refine ⟨h2, kk, by rw [HM2.out]; go_num, rfl, Lib.hid ?_, HS⟩
                rcases HC1.out with ⟨_, r1, r2⟩ | ⟨r, hr, r1, r2, _, r4⟩
                · exact .inl ⟨r1, r2⟩
                · exact .inr ⟨r, hr, r1, r2, r4⟩
              case measure =>
                have x2 : ¬ (e : Int) < 0 := by omega
                rcases HC1.out with ⟨_, r1, r2⟩ | ⟨r, hr, r1, r2, r3, r4⟩
                · simp [intOf, r1, x2]
                · have x3 : ¬ (r : Int) < 0 := by omega
                  simp [intOf, r1, x2, x3]
                  omega
            · have t6 : ((e : Int) == (q : Int)) = false := beq_eq_false_iff_ne.2 (by omega)
              have HM2 := Lib.hid (hc3 heq)
              clear hc1 hc2 hc3 hkk HP
              go_wp2
              go_roundw
              case rel =>
                refine ⟨h2, kk, by rw [HM2.out], rfl, Lib.hid ?_, HS⟩
                rcases HC1.out with ⟨_, r1, r2⟩ | ⟨r, hr, r1, r2, _, r4⟩
                · exact .inl ⟨r1, r2⟩
                · exact .inr ⟨r, hr, r1, r2, r4⟩
              case measure =>
                have x2 : ¬ (e : Int) < 0 := by omega
                rcases HC1.out with ⟨_, r1, r2⟩ | ⟨r, hr, r1, r2, r3, r4⟩
                · simp [intOf, r1, x2]
                · have x3 : ¬ (r : Int) < 0 := by omega
                  simp [intOf, r1, x2, x3]
                  omega
      · have HE := Lib.hid (show howN u y = howTo u y k by rw [HHN.out, show u.length = k by have := HUS.out; omega])
        go_wp2
        go_ret
        exact ⟨by rw [HE.out]; rfl, HS.out.outer.below⟩
  · have HR := Lib.hid (show howN u y = 0 ∧ folL (datL L) y < 1 by
      by_cases he : y = []
      · rw [howN, if_pos he, he, folL, List.foldl_nil]
        refine ⟨rfl, ?_⟩
        split <;> decide
      · have hnp : ¬ pcIn u y := fun e => hp ⟨e, he⟩
        rw [howN, if_neg he, howTo_none hnp, hfol.2 hnp]
        exact ⟨rfl, by decide⟩)
    obtain ⟨v, hv⟩ : ∃ v, folL (datL L) y = v := ⟨_, rfl⟩
    rw [hv] at HR ⊢
    have t1 : decide (v < 1) = true := decide_eq_true HR.out.2
    clear hfol hp hv hi
    go_wp2
    go_ret
    exact ⟨by rw [HR.out.1]; rfl, HS3.out.outer.below⟩

end Go.Proofs.Ytehppjilnacjlaa
