/-
  The contracts of the laws' own helpers over states with edges within: eqState, eqStateS, szState, szStateS. Conditions: fewer than 2^38 elements.
-/
import Derived.Test.YtnjiooljoekhmaaFollM
import Derived.Test.YtnjiooljoekhmaaHelpEdge
namespace Go.Proofs.Ytnjiooljoekhmaa
open Go.RowKit Go.ChangeShapes

theorem eqState_same (d1 d2 : Int) (F : List (Int × Int)) (a a' : Option Addr) (n c c' : Nat) (w : World) (hn : n = F.length) (hl : n < 274877906944) (h1 : CellsAt w a (pairsC F)) (h2 : CellsAt w a' (pairsC F)) :
    Calls Try.prog 36 #[.agg #[.int .i64 d1, .int .i64 d2, .slice a n c], .agg #[.int .i64 d1, .int .i64 d2, .slice a' n c']] w fun e w' => e = .returned (.bool true) ∧ Below w.heap.size w w' := by
  have HB := Lib.hid (fun o1 o2 => below_alloc2 w o1 o2)
  have HT := Lib.hid (fun (w' : World) (hb : Below w.heap.size w w') => eqEdgeS_same a a' n c c' F w' hn hl (h1.below hb) (h2.below hb))
  clear hn h1 h2
  go_enter Try.func36, Try.ntmps36
  go_wp2_with fail
  refine (HT.out _ (HB.out _ _)).mono ?_
  rintro e w2 ⟨rfl, b2⟩
  have HB2 := Lib.hid ((HB.out _ _).trans (b2.mono (HB.out _ _).size))
  clear b2
  go_wp2
  go_ret
  exact ⟨rfl, HB2.out⟩

set_option maxHeartbeats 4000000 in
theorem eqStateS_same (a a' : Option Addr) (n c d : Nat) (L : List Dt) (A A' : Nat → Sm) (w : World) (hn : n = L.length) (hl : n < 274877906944) (few : ∀ i, i < L.length → (dtA L i).2.2.length ≤ 1048576) (h1 : StAt w a L A) (h2 : StAt w a' L A') :
    Calls Try.prog 11 #[.slice a n c, .slice a' n d] w fun e w' => e = .returned (.bool true) ∧ Below w.heap.size w w' := by
  have HN := Lib.hid hn
  have HF := Lib.hid few
  clear hn few
  go_enter Try.func11, Try.ntmps11
  go_wp2
  go_loopw [5] (fun i wr => ∃ k : Nat, k ≤ n ∧ i = .int .i64 k ∧ Below w.heap.size w wr) (fun i _ => n - (intOf i).toNat)
  case atStart => exact ⟨0, Nat.zero_le _, rfl, Below.refl _ _⟩
  case round =>
    obtain ⟨k, hk, rfl, hb⟩ := hrel
    by_cases hlt : k < n
    · have hkl : k < L.length := by rw [← HN.out]; exact hlt
      obtain ⟨b1, o1, rfl, hb1, hc1⟩ := h1.spot (by omega)
      obtain ⟨b2, o2, rfl, hb2, hc2⟩ := h2.spot (by omega)
      obtain ⟨x0, hx0⟩ : ∃ x, (dtA L k).1 = x := ⟨_, rfl⟩
      obtain ⟨x1, hx1⟩ : ∃ x, (dtA L k).2.1 = x := ⟨_, rfl⟩
      obtain ⟨a1, n1, c1, hA⟩ : ∃ a n c, A k = (a, n, c) := ⟨_, _, _, rfl⟩
      obtain ⟨a2, n2, c2, hA2⟩ : ∃ a n c, A' k = (a, n, c) := ⟨_, _, _, rfl⟩
      have i1 := h1.inner k hkl
      have i2 := h2.inner k hkl
      rw [hA] at i1
      rw [hA2] at i2
      obtain rfl : n2 = n1 := i2.1.trans i1.1.symm
      have hf := HF.out k hkl
      have hn1 : n2 = (dtA L k).2.2.length := i1.1
      have HT := Lib.hid (fun (w' : World) (hb' : Below w.heap.size w w') => eqState_same x0 x1 (dtA L k).2.2 a1 a2 n2 c1 c2 w' hn1 (by omega) (i1.2.below hb') (i2.2.below hb'))
      have HC := Lib.hid (show ∀ w', Below w.heap.size w w' → (w'.cell? ⟨b1, o1 + k * 3, none⟩ = some (.int .i64 x0) ∧ w'.cell? ⟨b1, o1 + k * 3 + 1, none⟩ = some (.int .i64 x1) ∧ w'.cell? ⟨b1, o1 + k * 3 + 2, none⟩ = some (.slice a1 n2 c1)) ∧ (w'.cell? ⟨b2, o2 + k * 3, none⟩ = some (.int .i64 x0) ∧ w'.cell? ⟨b2, o2 + k * 3 + 1, none⟩ = some (.int .i64 x1) ∧ w'.cell? ⟨b2, o2 + k * 3 + 2, none⟩ = some (.slice a2 n2 c2)) from fun w' hb => ⟨by
        have h := hc1 k hkl
        rw [hx0, hx1, hA] at h
        exact ⟨(hb.cell (p := ⟨b1, o1 + k * 3, none⟩) hb1).trans h.1, (hb.cell (p := ⟨b1, o1 + k * 3 + 1, none⟩) hb1).trans h.2.1, (hb.cell (p := ⟨b1, o1 + k * 3 + 2, none⟩) hb1).trans h.2.2⟩, by
        have h := hc2 k hkl
        rw [hx0, hx1, hA2] at h
        exact ⟨(hb.cell (p := ⟨b2, o2 + k * 3, none⟩) hb2).trans h.1, (hb.cell (p := ⟨b2, o2 + k * 3 + 1, none⟩) hb2).trans h.2.1, (hb.cell (p := ⟨b2, o2 + k * 3 + 2, none⟩) hb2).trans h.2.2⟩⟩)
      clear hx0 hx1 hc1 hc2 hA hA2 i1 i2 hf hn1
      go_wp2
      go_region_held3 (fun w' => (w'.cell? ⟨b1, o1 + k * 3, none⟩ = some (.int .i64 x0) ∧ w'.cell? ⟨b1, o1 + k * 3 + 1, none⟩ = some (.int .i64 x1) ∧ w'.cell? ⟨b1, o1 + k * 3 + 2, none⟩ = some (.slice a1 n2 c1)) ∧ (w'.cell? ⟨b2, o2 + k * 3, none⟩ = some (.int .i64 x0) ∧ w'.cell? ⟨b2, o2 + k * 3 + 1, none⟩ = some (.int .i64 x1) ∧ w'.cell? ⟨b2, o2 + k * 3 + 2, none⟩ = some (.slice a2 n2 c2))) (first | exact HC.out _ hb | exact HC.out _ hb.drew | exact HC.out _ (hb.drew.trans (hbm.mono hb.size)))
        (first | (go_at_call 36; refine (HT.out _ hb.drew).mono ?_; rintro e w1 ⟨rfl, hbm⟩))
      go_wp2
      go_roundw
      case rel => exact ⟨k + 1, by omega, by go_num, hb.drew.trans (hbm.mono hb.size)⟩
      case measure => simp [intOf]; omega
    · go_wp2
      go_ret
      exact ⟨rfl, hb⟩

/-- How many edges the first states have. -/
def totE (L : List Dt) (k : Nat) : Nat := ((List.range k).map fun i => (dtA L i).2.2.length).sum
theorem totE_next (L : List Dt) (k : Nat) : totE L (k + 1) = totE L k + (dtA L k).2.2.length := by
  rw [totE, List.range_succ, List.map_append, List.sum_append]; simp [totE]

theorem szState_any (d1 d2 : Int) (a : Option Addr) (n c left : Nat) (w : World) (hl : left ≤ 1048576) (hm : n ≤ maxLen) :
    Calls Try.prog 39 #[.agg #[.int .i64 d1, .int .i64 d2, .slice a n c], .int .i64 left] w fun e w' => (∃ r : Int, e = .returned (.int .i64 r) ∧ (r < 0 ∨ (r = (left : Int) - n ∧ 0 ≤ r))) ∧ Below w.heap.size w w' := by
  have HB := Lib.hid (fun o1 => (Below.refl w.heap.size w).alloc (Nat.le_refl _) o1)
  have HT := Lib.hid (fun (w' : World) => szEdgeS_any a n c left w' hl hm)
  clear hm
  go_enter Try.func39, Try.ntmps39
  go_wp2_with fail
  refine (HT.out _).mono ?_
  rintro e w2 ⟨⟨r, rfl, hr⟩, rfl⟩
  have HR := Lib.hid hr
  by_cases h0 : r < 0
  · clear hr
    go_wp2
    go_ret
    exact ⟨⟨-1, rfl, .inl (by decide)⟩, HB.out _⟩
  · clear hr
    go_wp2
    go_ret
    exact ⟨⟨r, rfl, HR.out⟩, HB.out _⟩

set_option maxHeartbeats 4000000 in
theorem szStateS_any (a : Option Addr) (n c left : Nat) (L : List Dt) (A : Nat → Sm) (w : World) (hn : n = L.length) (hl : left ≤ 1048576) (hm : n ≤ maxLen) (hmx : ∀ i, i < L.length → (A i).2.1 ≤ maxLen) (h : StAt w a L A) :
    Calls Try.prog 14 #[.slice a n c, .int .i64 left] w fun e w' => (∃ r : Int, e = .returned (.int .i64 r) ∧ (r < 0 ∨ (r = (left : Int) - n - totE L n ∧ 0 ≤ r))) ∧ Below w.heap.size w w' := by
  unfold maxLen at hm
  have e1 : IntKind.i64.wrap ((left : Int) - n) = (left : Int) - n := IntWalk.i64_in _ (by omega)
  by_cases h0 : left < n
  · have t1 : (left : Int) - n < 0 := by omega
    go_enter Try.func14, Try.ntmps14
    go_wp2
    go_ret
    exact ⟨⟨-1, rfl, .inl (by decide)⟩, Below.refl _ _⟩
  · have t1 : ¬ (left : Int) - n < 0 := by omega
    have HN := Lib.hid hn
    have HMX := Lib.hid hmx
    obtain ⟨l0, hl0⟩ : ∃ l0 : Nat, (left : Int) - n = l0 := ⟨left - n, by omega⟩
    have HL0 := Lib.hid hl0
    rw [hl0] at e1 t1
    clear hn hmx hl0
    go_enter Try.func14, Try.ntmps14
    go_wp2
    go_loopw [1, 5] (fun left_ i wr => ∃ k r : Nat, k ≤ n ∧ r ≤ 1048576 ∧ i = .int .i64 (k : Int) ∧ left_ = .int .i64 (r : Int) ∧ Hid (r + totE L k = l0) ∧ Hid (Below w.heap.size w wr)) (fun _ i _ => n - (intOf i).toNat)
    case atStart => exact ⟨0, l0, Nat.zero_le _, by have := HL0.out; omega, rfl, by rw [HL0.out], Lib.hid rfl, Lib.hid (Below.refl _ _)⟩
    case round =>
      obtain ⟨k, r, hk, hr9, rfl, rfl, HR, HB⟩ := hrel
      by_cases hlt : k < n
      · have hkl : k < L.length := by rw [← HN.out]; exact hlt
        obtain ⟨b1, o1, rfl, hb1, hc1⟩ := h.spot (by omega)
        obtain ⟨x0, hx0⟩ : ∃ x, (dtA L k).1 = x := ⟨_, rfl⟩
        obtain ⟨x1, hx1⟩ : ∃ x, (dtA L k).2.1 = x := ⟨_, rfl⟩
        obtain ⟨a1, n1, c1, hA⟩ : ∃ a n c, A k = (a, n, c) := ⟨_, _, _, rfl⟩
        have i1 := h.inner k hkl
        have i2 := HMX.out k hkl
        rw [hA] at i1 i2
        have HI := Lib.hid (show n1 = (dtA L k).2.2.length from i1.1)
        have HT := Lib.hid (fun (w' : World) => szState_any x0 x1 a1 n1 c1 r w' hr9 i2)
        obtain ⟨g1, g2, g3⟩ := hc1 k hkl
        have hbo := HB.out
        replace g1 := (hbo.cell (p := ⟨b1, o1 + k * 3, none⟩) hb1).trans g1
        replace g2 := (hbo.cell (p := ⟨b1, o1 + k * 3 + 1, none⟩) hb1).trans g2
        replace g3 := (hbo.cell (p := ⟨b1, o1 + k * 3 + 2, none⟩) hb1).trans g3
        rw [hx0] at g1
        rw [hx1] at g2
        rw [hA] at g3
        replace g3 : wr.cell? ⟨b1, o1 + k * 3 + 2, none⟩ = some (.slice a1 n1 c1) := g3
        have HTN := totE_next L k
        clear hx0 hx1 hc1 hA i1 i2 hbo
        go_wp2_with fail
        refine (HT.out _).mono ?_
        rintro e w2 ⟨⟨r2, rfl, hr2⟩, b2⟩
        have HB2 := Lib.hid (HB.out.trans (b2.mono HB.out.size))
        have HR2 := Lib.hid hr2
        clear b2 g1 g2 g3
        by_cases h2 : r2 < 0
        · clear hr2
          go_wp2
          go_ret
          exact ⟨⟨-1, rfl, .inl (by decide)⟩, HB2.out⟩
        · obtain ⟨r3, rfl⟩ : ∃ r3 : Nat, r2 = (r3 : Int) := ⟨r2.toNat, by omega⟩
          clear hr2
          go_wp2
          go_roundw
          case rel =>
            have hq := HR2.out
            have hi := HI.out
            have hr := HR.out
            exact ⟨k + 1, r3, by omega, by omega, by go_num, rfl, Lib.hid (by omega), HB2⟩
          case measure => simp [intOf]; omega
      · obtain rfl : k = n := by omega
        go_wp2
        go_ret
        exact ⟨⟨(r : Int), rfl, .inr ⟨by have := HR.out; have := HL0.out; omega, by omega⟩⟩, HB.out⟩

end Go.Proofs.Ytnjiooljoekhmaa
