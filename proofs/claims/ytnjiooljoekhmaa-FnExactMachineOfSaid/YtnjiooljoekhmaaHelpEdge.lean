/-
  The contracts of the laws' own helpers over records of the type Edge and slices of them (written by wip/tools/gen_help.py). Conditions: fewer than 2^38 elements; what is marked is the call's own.
-/
import Derived.Test.YtnjiooljoekhmaaHelpM
import Derived.Test.YtnjiooljoekhmaaPair
import Derived.Test.YtnjiooljoekhmaaOpen
namespace Go.Proofs.Ytnjiooljoekhmaa
open Go.RowKit Go.ChangeShapes

theorem Try.ulSlEdge : Try.prog.underlying 39 = some (.slice 57) := by kernel_rfl
theorem Try.infoSlEdge : (Try.prog.info? 57).map (fun i => (i.zero, i.size, i.bytes)) = some (some (.agg #[.int .i64 0, .int .i64 0]), 2, 16) := by kernel_rfl
theorem lenEdge (x : Int × Int) : (pairC x).length = 2 := rfl

/-- The cells of a slice of such records. -/
theorem CellsAt.atEdge {w : World} {a : Option Addr} {l : List (Int × Int)} (h : CellsAt w a (pairsC l)) (hne : l ≠ []) : ∃ b o, a = some ⟨b, o, none⟩ ∧ b < w.heap.size ∧
    ∀ k (hk : k < l.length), w.cell? ⟨b, o + k * 2, none⟩ = some (.int .i64 l[k].1) ∧ w.cell? ⟨b, o + k * 2 + 1, none⟩ = some (.int .i64 l[k].2) := by
  have hne2 : pairsC l ≠ [] := by
    cases l with
    | nil => exact absurd rfl hne
    | cons x l => simp [pairsC, pairC]
  obtain ⟨b, o, ha, hb, hc⟩ := h.spot hne2
  refine ⟨b, o, ha, hb, fun k hk => ⟨?_, ?_⟩⟩
  · exact hc (k * 2) _ (by rw [pairsC, show k * 2 = k * 2 + 0 from rfl, flat_get pairC 2 lenEdge l k 0 hk (by decide)]; rfl)
  · rw [Nat.add_assoc]; exact hc (k * 2 + 1) _ (by rw [pairsC, flat_get pairC 2 lenEdge l k 1 hk (by decide)]; rfl)

theorem eqEdge_same (x0 : Int) (x1 : Int) (w : World) :
    Calls Try.prog 47 #[.agg #[.int .i64 x0, .int .i64 x1], .agg #[.int .i64 x0, .int .i64 x1]] w fun e w' => e = .returned (.bool true) ∧ Below w.heap.size w w' := by
  go_enter Try.func47, Try.ntmps47
  go_wp2
  go_ret
  exact ⟨rfl, below_alloc2 _ _ _⟩

set_option maxHeartbeats 4000000 in
theorem eqEdgeS_same (a a' : Option Addr) (n c d : Nat) (l : List (Int × Int)) (w : World) (hn : n = l.length) (hl : n < 274877906944) (h1 : CellsAt w a (pairsC l)) (h2 : CellsAt w a' (pairsC l)) :
    Calls Try.prog 43 #[.slice a n c, .slice a' n d] w fun e w' => e = .returned (.bool true) ∧ Below w.heap.size w w' := by
  have HN := Lib.hid hn
  clear hn
  go_enter Try.func43, Try.ntmps43
  go_wp2
  go_loopw [5] (fun i wr => ∃ k : Nat, k ≤ n ∧ i = .int .i64 k ∧ Below w.heap.size w wr) (fun i _ => n - (intOf i).toNat)
  case atStart => exact ⟨0, Nat.zero_le _, rfl, Below.refl _ _⟩
  case round =>
    obtain ⟨k, hk, rfl, hb⟩ := hrel
    by_cases hlt : k < n
    · have hkl : k < l.length := by rw [← HN.out]; exact hlt
      have hne : l ≠ [] := fun e => by rw [e] at hkl; simp at hkl
      obtain ⟨b1, o1, rfl, hb1, hc1⟩ := h1.atEdge hne
      obtain ⟨b2, o2, rfl, hb2, hc2⟩ := h2.atEdge hne
      obtain ⟨x0, hx0⟩ : ∃ x, l[k].1 = x := ⟨_, rfl⟩
      obtain ⟨x1, hx1⟩ : ∃ x, l[k].2 = x := ⟨_, rfl⟩
      have HC := Lib.hid (show ∀ w', Below w.heap.size w w' → (w'.cell? ⟨b1, o1 + k * 2, none⟩ = some (.int .i64 x0) ∧ w'.cell? ⟨b1, o1 + k * 2 + 1, none⟩ = some (.int .i64 x1)) ∧ (w'.cell? ⟨b2, o2 + k * 2, none⟩ = some (.int .i64 x0) ∧ w'.cell? ⟨b2, o2 + k * 2 + 1, none⟩ = some (.int .i64 x1)) from fun w' hb => ⟨by
        have h := hc1 k hkl
        rw [hx0, hx1] at h
        exact ⟨(hb.cell (p := ⟨b1, o1 + k * 2, none⟩) hb1).trans h.1, (hb.cell (p := ⟨b1, o1 + k * 2 + 1, none⟩) hb1).trans h.2⟩, by
        have h := hc2 k hkl
        rw [hx0, hx1] at h
        exact ⟨(hb.cell (p := ⟨b2, o2 + k * 2, none⟩) hb2).trans h.1, (hb.cell (p := ⟨b2, o2 + k * 2 + 1, none⟩) hb2).trans h.2⟩⟩)
      clear hx0 hx1 hc1 hc2 hne
      go_wp2
      go_region_held3 (fun w' => (w'.cell? ⟨b1, o1 + k * 2, none⟩ = some (.int .i64 x0) ∧ w'.cell? ⟨b1, o1 + k * 2 + 1, none⟩ = some (.int .i64 x1)) ∧ (w'.cell? ⟨b2, o2 + k * 2, none⟩ = some (.int .i64 x0) ∧ w'.cell? ⟨b2, o2 + k * 2 + 1, none⟩ = some (.int .i64 x1))) (first | exact HC.out _ hb | exact HC.out _ hb.drew | exact HC.out _ (hb.drew.trans (hbm.mono hb.size)))
        (first | (go_at_call 47; refine (eqEdge_same _ _ _).mono ?_; rintro e w1 ⟨rfl, hbm⟩))
      go_wp2
      go_roundw
      case rel => exact ⟨k + 1, by omega, by go_num, hb.drew.trans (hbm.mono hb.size)⟩
      case measure => simp [intOf]; omega
    · go_wp2
      go_ret
      exact ⟨rfl, hb⟩

/-- Records that bear ascending marks. -/
def markEdge (m i : Nat) : Int × Int := ⟨((m + i * 2 : Nat) : Int), ((m + i * 2 + 1 : Nat) : Int)⟩
def marksEdge (m n : Nat) : List (Int × Int) := (List.range n).map (markEdge m)
theorem marksEdge_len (m n : Nat) : (marksEdge m n).length = n := by simp [marksEdge]
theorem marksEdge_get (m n k : Nat) (h : k < n) : (marksEdge m n)[k]'(by rw [marksEdge_len]; exact h) = markEdge m k := by simp [marksEdge]
theorem marksEdge_next (m k : Nat) : pairsC (marksEdge m (k + 1)) = pairsC (marksEdge m k) ++ pairC (markEdge m k) := by
  rw [marksEdge, List.range_succ, List.map_append, pairsC, List.flatMap_append, marksEdge, pairsC]; simp
theorem marksEdge_cells (m n : Nat) : (pairsC (marksEdge m n)).length = n * 2 := by rw [pairsC, flat_len pairC 2 lenEdge, marksEdge_len]

set_option maxHeartbeats 8000000 in
theorem markEdgeS_any (B : Nat) (a : Option Addr) (n c : Nat) (l : List (Int × Int)) (m : Nat) (w : World) (hown : w.ownsRow B 57 2 (.slice a n c) n (pairsC l)) (hn : n < 68719476736) (h0 : 0 < m) (hm : m < 274877906944) :
    Calls Try.prog 37 #[.slice a n c, .int .i64 m] w fun e w' => e = .returned (.int .i64 ((m + n * 2 : Nat) : Int)) ∧ w'.ownsRow B 57 2 (.slice a n c) n (pairsC (marksEdge m n)) ∧ w.grownBy w' (Value.ownBlock (.slice a n c)) := by
  have hlen : (pairsC l).length = n * 2 := hown.1
  have HL := Lib.hid hlen
  clear hlen
  go_enter Try.func37, Try.ntmps37
  go_wp2
  go_loopw [1, 5] (fun q i wr => ∃ k : Nat, k ≤ n ∧ i = .int .i64 k ∧ (∃ z : Nat, q = .int .i64 z ∧ z = m + k * 2) ∧ wr.ownsRow B 57 2 (.slice a n c) n (pairsC (marksEdge m k) ++ (pairsC l).drop (k * 2)) ∧ w.grownBy wr (Value.ownBlock (.slice a n c))) (fun _ i _ => n - (intOf i).toNat)
  case atStart => exact ⟨0, Nat.zero_le _, rfl, ⟨m, rfl, by omega⟩, by simpa [marksEdge, pairsC] using hown, World.grownBy.refl _ _⟩
  case round =>
    clear hown
    obtain ⟨k, hk, rfl, ⟨z, rfl, hz⟩, hown0, hg0⟩ := hrel
    by_cases hlt : k < n
    · obtain ⟨g, rfl⟩ : ∃ g, a = some ⟨g, 0, none⟩ := by
        rcases hown0.2 with ⟨hv, h0⟩ | ⟨g, cap', cur, hv, _⟩
        · omega
        · exact ⟨g, (by simpa using hv : a = some ⟨g, 0, none⟩ ∧ c = cap').1⟩
      have HZ := Lib.hid hz
      have hz9 : z + 2 < 1099511627776 := by omega
      have hz0 : 0 < z := by omega
      clear hz
      have hw0 := hown0
      have hg0' := hg0
      have hf0 := hw0.frozenAt (k * 2)
      obtain ⟨y0, hy0⟩ := own_cell hw0 (k * 2) (by omega)
      obtain ⟨hown1, hg1s'⟩ := hw0.stored (k * 2) (Value.int .i64 (z : Int))
      rw [set_next (A := pairsC (marksEdge m k)) (by simp [marksEdge_cells] <;> omega) (by rw [HL.out]; omega)] at hown1
      have hg1 := grownBy_trans hg0' hg1s'

      have hw1 := hown1
      have hg1' := hg1
      have hf1 := hw1.frozenAt (k * 2 + 1)
      obtain ⟨y1, hy1⟩ := own_cell hw1 (k * 2 + 1) (by omega)
      obtain ⟨hown2, hg2s'⟩ := hw1.stored (k * 2 + 1) (Value.int .i64 ((z : Int) + 1))
      rw [set_next (A := pairsC (marksEdge m k) ++ [Value.int .i64 (z : Int)]) (by simp [marksEdge_cells] <;> omega) (by rw [HL.out]; omega)] at hown2
      have hg2 := grownBy_trans hg1' hg2s'

      have hE : pairsC (marksEdge m k) ++ [Value.int .i64 (z : Int)] ++ [Value.int .i64 ((z : Int) + 1)] = pairsC (marksEdge m (k + 1)) := by
        have hzz := HZ.out
        rw [marksEdge_next, markEdge]
        simp only [List.append_assoc, pairC, List.cons_append, List.nil_append, ← hzz]
        rfl
      rw [hE] at hown2
      clear hE hown0 hg0 hown1 hg1
      go_wp2
      go_roundw
      case rel => exact ⟨k + 1, by omega, by go_num, ⟨z + 2, by go_num, by have := HZ.out; omega⟩, by rw [show (k + 1) * 2 = k * 2 + 2 by omega]; exact hown2, hg2⟩
      case measure => simp [intOf]; omega

    · obtain rfl : k = n := by omega
      rw [show pairsC (marksEdge m k) ++ (pairsC l).drop (k * 2) = pairsC (marksEdge m k) from by rw [List.drop_of_length_le (by rw [HL.out]; exact Nat.le_refl _), List.append_nil]] at hown0
      have HZ := Lib.hid hz
      clear hz
      go_wp2
      go_ret
      exact ⟨ret_int (by rw [HZ.out]), hown0, hg0⟩

set_option maxHeartbeats 4000000 in
theorem heldEdgeS_any (a : Option Addr) (n c m : Nat) (w : World) (hat : CellsAt w a (pairsC (marksEdge m n))) (hn : n < 68719476736) (h0 : 0 < m) (hm : m < 274877906944) :
    Calls Try.prog 38 #[.slice a n c, .int .i64 m] w fun e w' => e = .returned (.int .i64 ((m + n * 2 : Nat) : Int)) ∧ Below w.heap.size w w' := by
  go_enter Try.func38, Try.ntmps38
  go_wp2
  go_loopw [1, 5] (fun q i wr => ∃ k : Nat, k ≤ n ∧ i = .int .i64 k ∧ (∃ z : Nat, q = .int .i64 z ∧ z = m + k * 2) ∧ Below w.heap.size w wr) (fun _ i _ => n - (intOf i).toNat)
  case atStart => exact ⟨0, Nat.zero_le _, rfl, ⟨m, rfl, by omega⟩, Below.refl _ _⟩
  case round =>
    obtain ⟨k, hk, rfl, ⟨z, rfl, hz⟩, hb0⟩ := hrel
    by_cases hlt : k < n
    · have hlen := marksEdge_len m n
      have hne : marksEdge m n ≠ [] := fun e => by rw [e] at hlen; simp at hlen; omega
      obtain ⟨b, o, rfl, hbl, hc⟩ := hat.atEdge hne
      have hz9 : z + 2 < 1099511627776 := by omega
      have hz0 : 0 < z := by omega
      have HC := Lib.hid (show ∀ w', Below w.heap.size w w' → (w'.cell? ⟨b, o + k * 2, none⟩ = some (Value.int .i64 (z : Int)) ∧ w'.cell? ⟨b, o + k * 2 + 1, none⟩ = some (Value.int .i64 ((z : Int) + 1))) from fun w' hb => by
        have h := hc k (by omega)
        rw [marksEdge_get m n k hlt, markEdge, ← hz] at h
        push_cast at h
        exact ⟨(hb.cell (p := ⟨b, o + k * 2, none⟩) hbl).trans h.1, (hb.cell (p := ⟨b, o + k * 2 + 1, none⟩) hbl).trans h.2⟩)
      have HZ := Lib.hid hz
      clear hz hc hne hlen
      obtain ⟨g0_0, g0_1⟩ := HC.out _ hb0
      go_wp2
      go_roundw
      case rel => exact ⟨k + 1, by omega, by go_num, ⟨z + 2, by go_num, by have := HZ.out; omega⟩, hb0⟩
      case measure => simp [intOf]; omega
    · obtain rfl : k = n := by omega
      have HZ := Lib.hid hz
      clear hz
      go_wp2
      go_ret
      exact ⟨ret_int (by rw [HZ.out]), hb0⟩

theorem Try.ulLaEdge : Try.prog.underlying 50 = some (.slice 64) := by kernel_rfl
theorem toEdge_any (x0 : Int) (x1 : Int) (w : World) :
    Calls Try.prog 48 #[.agg #[.int .i64 x0, .int .i64 x1]] w fun e w' => e = .returned (.agg #[.int .i64 x0, .int .i64 x1]) ∧ Below w.heap.size w w' := by
  go_enter Try.func48, Try.ntmps48
  go_wp2
  refine bodyPost_ret (v := .agg #[.int .i64 x0, .int .i64 x1]) (by simp [results, Try.results48, go_sem]) rfl ⟨rfl, ?_⟩
  repeat (first | exact Below.refl _ _ | apply below_drewN' | (refine Below.alloc ?_ (by simp <;> omega) _))

set_option maxHeartbeats 4000000 in
theorem toEdgeS_any (l : List (Int × Int)) (a : Option Addr) (n c : Nat) (w : World) (hn : n = l.length) (hm : n ≤ 1048576) (hat : CellsAt w a (pairsC l)) :
    Calls Try.prog 45 #[.slice a n c] w fun e w' => ∃ a', e = .returned (.slice a' n n) ∧ One w w.heap.size w' 57 2 a' n n (pairsC l) := by
  obtain ⟨zs, w1, hmk, hzl, hone⟩ := make_own (P := Try.prog) 39 57 Try.ulSlEdge Try.infoSlEdge n (by omega) (by unfold maxLen; omega) w
  have HN := Lib.hid hn
  have HZ := Lib.hid hzl
  clear hn hzl
  go_enter Try.func45, Try.ntmps45
  go_wp2
  clear hmk
  go_loopw [4] (fun i wr => ∃ k : Nat, k ≤ n ∧ i = .int .i64 k ∧ One w w.heap.size wr 57 2 (some ⟨w.heap.size, 0, none⟩) n n (pairsC (l.take k) ++ zs.drop (k * 2))) (fun i _ => n - (intOf i).toNat)
  case atStart => exact ⟨0, Nat.zero_le _, rfl, by simpa [pairsC] using hone⟩
  case round =>
    clear hone
    obtain ⟨k, hk, rfl, hone⟩ := hrel
    by_cases hlt : k < n
    · have hkl : k < l.length := by rw [← HN.out]; exact hlt
      obtain ⟨b, o, rfl, _, hc⟩ := (hat.below hone.below).atEdge (fun e => by rw [e] at hkl; simp at hkl)
      obtain ⟨g0, g1⟩ := hc k hkl
      obtain ⟨x0, hx0⟩ : ∃ x, l[k].1 = x := ⟨_, rfl⟩
      rw [hx0] at g0
      obtain ⟨x1, hx1⟩ : ∃ x, l[k].2 = x := ⟨_, rfl⟩
      rw [hx1] at g1
      have HX := Lib.hid (show pairsC (l.take (k + 1)) = pairsC (l.take k) ++ [Value.int .i64 x0] ++ [Value.int .i64 x1] by
        rw [List.take_succ_eq_append_getElem hkl, pairsC, List.flatMap_append, pairsC]
        simp [pairC, hx0, hx1])
      clear hc hx0 hx1
      go_wp2_with fail
      refine (toEdge_any _ _ _).mono ?_
      rintro e v0 ⟨rfl, hb⟩
      have h0 := hone.later hb
      have hl0 : (pairsC (l.take k)).length = k * 2 := by rw [pairsC, flat_len pairC 2 lenEdge, List.length_take]; omega
      have HL0 := Lib.hid hl0
      clear hone hb hl0 g0 g1
      have f0 := h0.frozen (k * 2)
      obtain ⟨y0, c0⟩ := h0.cell (k * 2) (by omega)
      have h1 := h0.stored (k * 2) (Value.int .i64 x0)
      rw [set_next (A := pairsC (l.take k)) (by simp [HL0.out] <;> omega) (by rw [HZ.out]; omega)] at h1
      have f1 := h0.frozen (k * 2 + 1)
      obtain ⟨y1, c1⟩ := h0.cell (k * 2 + 1) (by omega)
      have h2 := h1.stored (k * 2 + 1) (Value.int .i64 x1)
      rw [set_next (A := pairsC (l.take k) ++ [Value.int .i64 x0]) (by simp [HL0.out] <;> omega) (by rw [HZ.out]; omega)] at h2
      rw [← HX.out] at h2
      clear h0 h1
      go_wp2
      go_roundw
      case rel => exact ⟨k + 1, by omega, by go_num, by rw [show (k + 1) * 2 = k * 2 + 2 by omega]; exact h2⟩
      case measure => simp [intOf]; omega
    · obtain rfl : k = n := by omega
      have hE : pairsC (l.take k) ++ zs.drop (k * 2) = pairsC l := by
        rw [List.take_of_length_le (by rw [HN.out]; exact Nat.le_refl _), List.drop_of_length_le (by rw [HZ.out]; exact Nat.le_refl _), List.append_nil]
      rw [hE] at hone
      clear hE
      go_wp2
      go_ret
      exact ⟨_, rfl, hone⟩

theorem szEdgeS_any (a : Option Addr) (n c left : Nat) (w : World) (hl : left ≤ 1048576) (hm : n ≤ maxLen) :
    Calls Try.prog 44 #[.slice a n c, .int .i64 left] w fun e w' => (∃ r : Int, e = .returned (.int .i64 r) ∧ (r < 0 ∨ (r = (left : Int) - n ∧ 0 ≤ r))) ∧ w = w' := by
  unfold maxLen at hm
  have e1 : IntKind.i64.wrap ((left : Int) - n) = (left : Int) - n := IntWalk.i64_in _ (by omega)
  by_cases h0 : left < n
  · have t1 : (left : Int) - n < 0 := by omega
    go_enter Try.func44, Try.ntmps44
    go_wp2
    go_ret
    exact ⟨⟨-1, rfl, .inl (by decide)⟩, rfl⟩
  · have t1 : ¬ (left : Int) - n < 0 := by omega
    go_enter Try.func44, Try.ntmps44
    go_wp2
    go_ret
    exact ⟨⟨(left : Int) - n, rfl, .inr ⟨rfl, by omega⟩⟩, rfl⟩

theorem openEdges {H : Type} {enc : TypeId × Value → H} {w : World} {spare : Nat → Bool} {held : Bool} {a : Option Addr} {n c : Nat} {d : DataW H} {p : List MemPlace}
    (h : DataW.Trod enc Try.prog w 0 spare held 50 (.slice a n c) d p) : ∃ l : List (Int × Int), n = l.length ∧ n ≤ c ∧ c ≤ maxLen ∧ (∀ x ∈ l, (Lit.int .i64 x.1).wf = true ∧ (Lit.int .i64 x.2).wf = true) ∧ CellsAt w a (pairsC l) := by
  refine open_elems (α := Int × Int) pairC 2 (fun x => (Lit.int .i64 x.1).wf = true ∧ (Lit.int .i64 x.2).wf = true) (by decide) lenEdge Try.ulLaEdge (by kernel_rfl) (fun fuel cs x hcl hx => ?_) h
  match cs, hcl with
  | [c0, c1], hcl =>
    obtain ⟨v0, y0, n0, hv0, ht0⟩ := open_fields (P := Try.prog) Try.underlying64 (by kernel_rfl) hcl hx 0 _ rfl
    obtain ⟨s0, hs0, _, hw0⟩ := DataW.trod_int (k := .i64) (by kernel_rfl) ht0
    obtain ⟨v1, y1, n1, hv1, ht1⟩ := open_fields (P := Try.prog) Try.underlying64 (by kernel_rfl) hcl hx 1 _ rfl
    obtain ⟨s1, hs1, _, hw1⟩ := DataW.trod_int (k := .i64) (by kernel_rfl) ht1
    simp only [List.cons.injEq, and_true] at hs0 hs1
    simp at hv0 hv1
    subst hs0 hs1
    exact ⟨⟨s0, s1⟩, by simp [pairC, hv0, hv1], ⟨hw0, hw1⟩⟩

theorem markEdgeS_z (B : Nat) (a : Option Addr) (n c : Nat) (l : List (Int × Int)) (z : Int) (m : Nat) (w : World) (hown : w.ownsRow B 57 2 (.slice a n c) n (pairsC l)) (hz : z = m) (hn : n < 68719476736) (h0 : 0 < m) (hm : m < 274877906944) :
    Calls Try.prog 37 #[.slice a n c, .int .i64 z] w fun e w' => e = .returned (.int .i64 ((m + n * 2 : Nat) : Int)) ∧ w'.ownsRow B 57 2 (.slice a n c) n (pairsC (marksEdge m n)) ∧ w.grownBy w' (Value.ownBlock (.slice a n c)) := by
  subst hz; exact markEdgeS_any B a n c l m w hown hn h0 hm

theorem heldEdgeS_z (a : Option Addr) (n c : Nat) (z : Int) (m : Nat) (w : World) (hat : CellsAt w a (pairsC (marksEdge m n))) (hz : z = m) (hn : n < 68719476736) (h0 : 0 < m) (hm : m < 274877906944) :
    Calls Try.prog 38 #[.slice a n c, .int .i64 z] w fun e w' => e = .returned (.int .i64 ((m + n * 2 : Nat) : Int)) ∧ Below w.heap.size w w' := by
  subst hz; exact heldEdgeS_any a n c m w hat hn h0 hm

end Go.Proofs.Ytnjiooljoekhmaa
