/-
  What the draw of chapter 9's law Follow can be: states that may be spoilt, and a short text. No conditions.
-/
import Derived.Test.YtehppjilnacjlaaDraw9
import Derived.Test.YtehppjilnacjlaaFollM
import Derived.Deep.Cut
import Derived.Deep.DeepCutAuto
namespace Go.Proofs.Ytehppjilnacjlaa
open Go.RowKit

def datG (n : Nat) (D : Nat → Int × Int) (F : Nat → List (Int × Int)) : List Dt := (List.range n).map fun i => ((D i).1, (D i).2, F i)
theorem datG_len (n : Nat) (D : Nat → Int × Int) (F : Nat → List (Int × Int)) : (datG n D F).length = n := by simp [datG]
theorem datG_at {n : Nat} {D : Nat → Int × Int} {F : Nat → List (Int × Int)} {i : Nat} (h : i < n) : dtA (datG n D F) i = ((D i).1, (D i).2, F i) := by simp [dtA, datG, h]
theorem StRows.atG {W : World} {B : Nat} {w : World} {a : Option Addr} {n c : Nat} {D : Nat → Int × Int} {A : Nat → Sm} {F : Nat → List (Int × Int)} (h : StRows W B w a n c D A F) : StAt w a (datG n D F) A := by
  refine ⟨?_, fun i hi => ?_⟩
  · rw [datG_len, stC_same (D := D) (D' := fun i => ((dtA (datG n D F) i).1, (dtA (datG n D F) i).2.1)) (A' := A) (fun i hi => by simp only [datG_at hi]) (fun _ _ => rfl)]
    exact h.outer.at_
  · rw [datG_len] at hi
    rw [datG_at hi]
    exact ⟨pairs_len (h.one hi).own, (h.one hi).at_⟩
theorem StRows.self {W : World} {B : Nat} {w : World} {a : Option Addr} {n c : Nat} {D : Nat → Int × Int} {A : Nat → Sm} {F : Nat → List (Int × Int)} (h : StRows W B w a n c D A F) : StRows w B w a n c D A F :=
  ⟨⟨h.outer.own, h.outer.base, Below.refl _ _⟩, h.inner, h.apart, h.apart0⟩
/-- The reader, which is older, is written. -/
theorem StRows.picked {lo : Nat} {w w' : World} {a : Option Addr} {n c gr : Nat} {D : Nat → Int × Int} {A : Nat → Sm} {F : Nat → List (Int × Int)} (h : StRows w lo w a n c D A F) (hg : w.grownBy w' (some gr)) (hr : gr < lo) : StRows w' lo w' a n c D A F := by
  refine ⟨⟨h.outer.own.kept hg ?_, Nat.le_trans h.outer.base hg.size, Below.refl _ _⟩, fun d hd => (h.inner d hd).kept hg ?_, h.apart, h.apart0⟩
  · cases hb : (Value.slice a n c).ownBlock with
    | none => exact .inl rfl
    | some b => exact .inr (fun e => by
        have h1 := (h.outer.own.lt b hb).1
        injection e with e
        omega)
  · cases hb : (smV (A d)).ownBlock with
    | none => exact .inl rfl
    | some b => exact .inr (fun e => by
        have h1 := ((h.inner d hd).lt b hb).1
        injection e with e
        omega)
theorem four_new (t : TypeId) (q : Nat) (hq : q < 4) : ∃ v : Int, ∀ w : World, (w.alloc (.cells #[.int .i64 (-1), .int .i64 99, .int .i64 0, .int .i64 1] t)).cell? ⟨w.heap.size, q, none⟩ = some (.int .i64 v) := by
  have : q = 0 ∨ q = 1 ∨ q = 2 ∨ q = 3 := by omega
  rcases this with rfl | rfl | rfl | rfl
  all_goals exact ⟨_, fun w => by rw [cell_of_row _ w.heap.size _ _ _ _ (heap_alloc_new w _)]; rfl⟩

theorem one_lit2 (w : World) (e : TypeId) (x y : Value) : One w w.heap.size (w.alloc (.cells #[x, y] e)) e 2 (some ⟨w.heap.size, 0, none⟩) 1 1 [x, y] :=
  ⟨World.ownsRow_lit w #[x, y] 1 (Nat.le_refl _) (by decide) rfl, heap_le_alloc _ _, (Below.refl _ _).alloc (Nat.le_refl _) _⟩
theorem one_lit3 (w : World) (o : Obj) (e : TypeId) (x y : Value) : One (w.alloc o) (w.alloc o).heap.size ((w.alloc o).alloc (.cells #[x, y] e)) e 2 (some ⟨w.heap.size + 1, 0, none⟩) 1 1 [x, y] := by
  have h := one_lit2 (w.alloc o) e x y
  have hs : (w.alloc o).heap.size = w.heap.size + 1 := by simp
  rw [show (some ⟨(w.alloc o).heap.size, 0, none⟩ : Option Addr) = some ⟨w.heap.size + 1, 0, none⟩ by rw [hs]] at h
  exact h
/-- States in a world, with the reader beside them. -/
structure FoAt (w0 w : World) (lo g m c gr : Nat) (a : Option Addr) (n cap B : Nat) (D : Nat → Int × Int) (A : Nat → Sm) (F : Nat → List (Int × Int)) : Prop where
  rows : StRows w lo w (some ⟨g, 0, none⟩) m c D A F
  rd : RdAt w gr a n cap B
  below : Below w0.heap.size w0 w
theorem FoAt.alloc {w0 w : World} {lo g m c gr : Nat} {a : Option Addr} {n cap B : Nat} {D : Nat → Int × Int} {A : Nat → Sm} {F : Nat → List (Int × Int)} (h : FoAt w0 w lo g m c gr a n cap B D A F) (o : Obj) : FoAt w0 (w.alloc o) lo g m c gr a n cap B D A F :=
  ⟨(h.rows.later ((Below.refl _ _).alloc (Nat.le_refl _) o)).self, rd_alloc h.rd o, h.below.alloc h.below.size o⟩
theorem FoAt.drew {w0 w : World} {lo g m c gr : Nat} {a : Option Addr} {n cap B : Nat} {D : Nat → Int × Int} {A : Nat → Sm} {F : Nat → List (Int × Int)} (h : FoAt w0 w lo g m c gr a n cap B D A F) : FoAt w0 w.drew lo g m c gr a n cap B D A F :=
  ⟨(h.rows.later (Below.refl _ _).drew).self, h.rd.drew7, h.below.drew⟩
theorem FoAt.picked {w0 w w' : World} {lo g m c gr : Nat} {a : Option Addr} {n cap B B' : Nat} {D : Nat → Int × Int} {A : Nat → Sm} {F : Nat → List (Int × Int)} (h : FoAt w0 w lo g m c gr a n cap B D A F) (hr : RdAt w' gr a n cap B') (hg : w.grownBy w' (some gr)) (h1 : gr < lo) (h2 : w0.heap.size ≤ gr) : FoAt w0 w' lo g m c gr a n cap B' D A F :=
  ⟨h.rows.picked hg h1, hr, h.below.grown hg h.below.size (fun k hk => by simp at hk; omega)⟩
theorem FoAt.next {w0 w : World} {lo g m c gr : Nat} {a : Option Addr} {n cap B : Nat} {D : Nat → Int × Int} {A : Nat → Sm} {F : Nat → List (Int × Int)} (h : FoAt w0 w lo g m c gr a n cap B D A F) {k : Nat} (hk : k < m) {ax : Option Addr} {nx cx : Nat} (hA : A k = (ax, nx, cx)) : w.cell? ⟨g, k * 3 + 2, none⟩ = some (.slice ax nx cx) := by
  have h1 := (h.rows.cells hk).2.2
  rw [hA] at h1
  exact h1
theorem FoAt.edges {w0 w : World} {lo g m c gr : Nat} {a : Option Addr} {n cap B : Nat} {D : Nat → Int × Int} {A : Nat → Sm} {F : Nat → List (Int × Int)} (h : FoAt w0 w lo g m c gr a n cap B D A F) {k : Nat} (hk : k < m) {ax : Option Addr} {nx cx : Nat} (hA : A k = (ax, nx, cx)) : CellsAt w ax (pairsC (F k)) := by
  have h1 := (h.rows.one hk).at_
  rw [hA] at h1
  exact h1
/-- A state's edges are put in the place of the elder ones. -/
theorem FoAt.put {w0 w w' : World} {lo g m c gr : Nat} {a : Option Addr} {n cap B : Nat} {D : Nat → Int × Int} {A : Nat → Sm} {F : Nat → List (Int × Int)} (h : FoAt w0 w lo g m c gr a n cap B D A F) {k : Nat} (hk : k < m) {a' : Option Addr} {n' c' : Nat} {l : List (Int × Int)} (o : One w w.heap.size w' 31 2 a' n' c' (pairsC l)) (hgr : gr < lo) (hw0 : w0.heap.size ≤ lo) :
    ∃ A' F', FoAt w0 (w'.setCell ⟨g, k * 3 + 2, none⟩ (.slice a' n' c')) lo g m c gr a n cap B D A' F' ∧ F' k = l ∧ ∀ e, e ≠ k → F' e = F e := by
  have hl : lo ≤ g := (h.rows.outer.own.lt g (by simp [Value.ownBlock])).1
  have hp := h.rows.put (A' := fun e => if e = k then (a', n', c') else A e) (F' := fun e => if e = k then l else F e) hk (by simpa using o) (by simp) (fun e _ hne => ⟨by simp [hne], by simp [hne]⟩)
  refine ⟨_, _, ⟨hp.self, ?_, ?_⟩, by simp, fun e he => by simp [he]⟩
  · refine h.rd.kept (fun j hj => ?_)
    have h1 := o.below.block j (by have := h.rd.lt; omega)
    rw [← h1]
    exact Below.heap_setCell _ _ _ _ (fun e => by have e2 : j = g := e; omega)
  · have h2 : Below w0.heap.size w0 w' := h.below.trans (o.below.mono h.below.size)
    exact h2.setCell (p := ⟨g, k * 3 + 2, none⟩) (by show w0.heap.size ≤ g; omega) _

theorem fo_end {w0 wx : World} {lo g m c gr : Nat} {a : Option Addr} {n cap B k : Nat} {D : Nat → Int × Int} {F : Nat → List (Int × Int)} {v : Int} (h : ∃ A' F', FoAt w0 wx lo g m c gr a n cap B D A' F' ∧ F' k = (97, v) :: F k ∧ ∀ e, e ≠ k → F' e = F e) (h2 : ∀ i, i < m → (F i).length ≤ 256) :
    ∃ A' F', Hid (FoAt w0 wx lo g m c gr a n cap B D A' F' ∧ ∀ i, i < m → (F' i).length ≤ 300) := by
  obtain ⟨A', F', h3, h4, h5⟩ := h
  refine ⟨A', F', Lib.hid ⟨h3, fun i hi => ?_⟩⟩
  by_cases e : i = k
  · subst e
    rw [h4, List.length_cons]
    have := h2 i hi
    omega
  · rw [h5 i e]
    have := h2 i hi
    omega

set_option maxRecDepth 4000 in
set_option maxHeartbeats 32000000 in
theorem DrawFollow_any (w : World) (a : Option Addr) (len cap : Nat) (zs : List Int) (h : IsRowK .u8 w a len cap zs) :
    Calls Try.prog 19 #[.slice a len cap] w fun e w' => ∃ (al : Option Addr) (n c : Nat) (L : List Dt) (A : Nat → Sm) (t : ByteArray), e = .returned (.tuple #[.slice al n c, .string t]) ∧ n = L.length ∧ n ≤ 1000 ∧ (∀ i, i < L.length → (dtA L i).2.2.length ≤ 300) ∧ t.size ≤ 1000 ∧ StAt w' al L A ∧ Below w.heap.size w w' := by
  go_enter Try.func19, Try.ntmps19
  go_wp2_with fail
  refine (open_any _ _ _ _ _ h).mono ?_
  rintro e w1 ⟨n, rfl, hrd, hb, hs⟩
  go_wp2_with fail
  refine (short_any _ _ a n cap 0 9 (by omega) (by omega) hrd).mono ?_
  rintro e w2 ⟨t0, ht0, rfl, hrd2, hg⟩
  have hB2 := below_rdD hb hs hg
  have hgr2 : w.heap.size < w2.heap.size := by have := hg.size; omega
  clear hg hrd h hb hs
  have c1 := specMach_any t0 w2 (by omega)
  obtain ⟨u, hu⟩ : ∃ u, t0.data.toList = u := ⟨_, rfl⟩
  have hul : u.length ≤ 9 := by rw [← hu]; exact ht0
  rw [hu] at c1
  have hM := machL_inv u
  have hl9 : (machL u).length ≤ 21 := by
    have h := machK_len u u.length (Nat.le_refl _)
    unfold machL
    by_cases h2 : u.length ≤ 2
    · have := h.1 h2; omega
    · have := h.2 (by omega); omega
  obtain ⟨L, hL⟩ : ∃ L, machL u = L := ⟨_, rfl⟩
  rw [hL] at c1 hM hl9
  have HFE := Lib.hid (show ∀ i, i < L.length → (tE L i).length ≤ 256 from fun i h => edges_few hM h)
  have h0 : 0 < L.length := hM.inv.pos
  obtain ⟨m, hm⟩ : ∃ m, L.length = m := ⟨_, rfl⟩
  have HM := Lib.hid hm
  have hm9 : m ≤ 21 := by omega
  have hm0 : 0 < m := by omega
  clear hu hul hL hM hl9 h0 hm
  go_wp2_with fail
  refine c1.mono ?_
  rintro e w3 ⟨g, c, A, rfl, hS3⟩
  have hrd3 := hrd2.kept (w' := w3) (fun k hk => hS3.outer.below.block k (by omega))
  have hB3 := hB2.trans (hS3.outer.below.mono hB2.size)
  have hS3' := hS3.self
  rw [HM.out] at hS3'
  obtain ⟨lo, hlo⟩ : ∃ lo, w2.heap.size = lo := ⟨_, rfl⟩
  rw [hlo] at hS3' hgr2
  rw [HM.out]
  clear c1 hS3 hrd2 hB2 hlo
  obtain ⟨gr, hgr⟩ : ∃ g, w.heap.size = g := ⟨_, rfl⟩
  have HGR := Lib.hid hgr
  rw [hgr] at hrd3 hgr2 ⊢
  go_wp2_with fail
  refine (pick_pos _ _ a n cap _ 5 (by omega) hrd3 (by omega) (by omega)).mono ?_
  rintro e w4 ⟨r, hr, rfl, hrd4, hg4⟩
  have hS4 := hS3'.picked hg4 hgr2
  have hB4 : Below w.heap.size w w4 := hB3.grown hg4 hB3.size (fun k hk => by simp at hk; omega)
  clear hg4 hrd3 hS3' hB3 hgr
  by_cases hr0 : r = 0
  · subst hr0
    go_wp2_with fail
    refine (pick_pos _ _ a n cap _ (m : Int) (by omega) hrd4 (by omega) (by omega)).mono ?_
    rintro e w5 ⟨k, hk, rfl, hrd5, hg5⟩
    have hS5 := hS4.picked hg5 hgr2
    have hB5 : Below w.heap.size w w5 := hB4.grown hg5 hB4.size (fun k hk => by have := HGR.out; simp at hk; omega)
    clear hg5 hrd4 hS4 hB4
    have hfo : FoAt w w5 lo g m c gr a n cap (0 + 1 + 9 + 1 + 1) (dOf L) A (tE L) := ⟨hS5, hrd5, hB5⟩
    obtain ⟨ax, nx, cx, hA⟩ : ∃ x y z, A k = (x, y, z) := ⟨_, _, _, rfl⟩
    have hkm : k < m := by omega
    have hnx : nx = (tE L k).length := by
      have h1 := pairs_len (hS5.one hkm).own
      rw [hA] at h1
      exact h1
    have hnx9 : nx ≤ 256 := by have := HFE.out k (by have := HM.out; omega); omega
    have HFO := Lib.hid hfo
    have HFE2 := Lib.hid (show ∀ i, i < m → (tE L i).length ≤ 256 from fun i hi => HFE.out i (by have := HM.out; omega))
    have HA := Lib.hid hA
    have HLX := Lib.hid (show (pairsC (tE L k)).length = nx * 2 by rw [pairsC_len, hnx])
    have hwgr : w.heap.size ≤ gr := by have := HGR.out; omega
    have z0 : (0 : Int) ≤ (k : Int) := by omega
    have z1 : (k : Int) < (m : Int) := by omega
    clear hS5 hrd5 hB5 hfo hA hnx
    go_upto_region 5 with fail
    go_cut [] (fun wx => ∃ A' F', Hid (FoAt w wx lo g m c gr a n cap (0 + 1 + 9 + 1 + 1 + 1) (dOf L) A' F' ∧ ∀ i, i < m → (F' i).length ≤ 300))
    case first =>
      have HF0 := Lib.hid HFO.out.drew
      refine wp_region_held_drew (S := fun _ => True) (by kernel_rfl) trivial (fun hHeld => ?_)
      generalize w5.drew = wd at HF0 ⊢
      refine wpAnyH_take (i := 0) (v := .slice (some ⟨g, 0, none⟩) m c) rfl (by kernel_rfl) (by kernel_rfl) (by kernel_rfl) (fun _ _ _ h => h) (Or.inl ⟨by kernel_rfl, fun w' hSw => ?_⟩) hHeld ?_
      · clear hSw; go_simp
      (try simp only [Act.put, List.setIfInBounds_toArray])
      refine wpAnyH_take (i := 1) (v := .int .i64 (k : Int)) rfl (by kernel_rfl) (by kernel_rfl) (by kernel_rfl) (fun _ _ _ h => h) (Or.inl ⟨by kernel_rfl, fun w' hSw => ?_⟩) hHeld ?_
      · clear hSw; go_simp
      (try simp only [Act.put])
      refine wpAnyH_take (i := 3) (v := .pointer (some ⟨gr, 0, none⟩)) rfl (by kernel_rfl) (by kernel_rfl) (by kernel_rfl) (fun _ _ _ h => h) (Or.inl ⟨by kernel_rfl, fun w' hSw => ?_⟩) hHeld ?_
      · clear hSw; go_simp
      (try simp only [Act.put])
      refine wpAnyH_take (i := 9) (v := .slice (some ⟨g, 0, none⟩) m c) rfl (by kernel_rfl) (by kernel_rfl) (by kernel_rfl) (fun _ _ _ h => h) (Or.inl ⟨by kernel_rfl, fun w' hSw => ?_⟩) hHeld ?_
      · clear hSw; go_simp
      (try simp only [Act.put])
      refine wpAnyH_take (i := 10) (v := .int .i64 (k : Int)) rfl (by kernel_rfl) (by kernel_rfl) (by kernel_rfl) (fun _ _ _ h => h) (Or.inl ⟨by kernel_rfl, fun w' hSw => ?_⟩) hHeld ?_
      · clear hSw; go_simp
      (try simp only [Act.put])
      refine wpAnyH_take (i := 11) (v := .pointer (some ⟨g, k * 3, none⟩)) rfl (by kernel_rfl) (by kernel_rfl) (by kernel_rfl) (fun _ _ _ h => h) (Or.inl ⟨by kernel_rfl, fun w' hSw => ?_⟩) hHeld ?_
      · clear hSw; go_simp
      (try simp only [Act.put])
      refine wpAnyH_take (i := 12) (v := .pointer (some ⟨g, k * 3 + 2, none⟩)) rfl (by kernel_rfl) (by kernel_rfl) (by kernel_rfl) (fun _ _ _ h => h) (Or.inl ⟨by kernel_rfl, fun w' hSw => ?_⟩) hHeld ?_
      · clear hSw; go_simp
      (try simp only [Act.put])
      refine wpAnyH_ready (rs := [2, 4, 13]) (by kernel_rfl) (by simp) ?_
      refine (AllReadyH.cons (o := _) rfl (fun K hK => ?_) (AllReadyH.cons (o := _) rfl (fun K hK => ?_) (AllReadyH.cons (o := _) rfl (fun K hK => ?_) AllReadyH.nil)))
      · skip
        have HFn := Lib.hid (HF0.out.alloc (.cells #[.int .i64 (-1), .int .i64 99, .int .i64 0, .int .i64 1] 3))
        have HLn := Lib.hid (show ∀ q, q < 4 → ∃ v : Int, (wd.alloc (.cells #[.int .i64 (-1), .int .i64 99, .int .i64 0, .int .i64 1] 3)).cell? ⟨wd.heap.size, q, none⟩ = some (.int .i64 v) from fun q hq => by obtain ⟨v, hv⟩ := four_new 3 q hq; exact ⟨v, hv wd⟩)
        have HBn := Lib.hid (show wd.heap.size ≠ gr ∧ wd.heap.size < (wd.alloc (.cells #[.int .i64 (-1), .int .i64 99, .int .i64 0, .int .i64 1] 3)).heap.size from ⟨by have := HF0.out.rd.lt; omega, by simp⟩)
        go_simp
        refine hK.out _ _ trivial (fun hHeld => ?_)
        clear hK K
        (try simp only [Act.put, List.setIfInBounds_toArray, List.set_cons_zero, List.set_cons_succ])
        generalize wd.alloc (.cells #[.int .i64 (-1), .int .i64 99, .int .i64 0, .int .i64 1] 3) = wl at HFn HLn HBn ⊢
        generalize wd.heap.size = LB at HLn HBn ⊢
        have HFl := HFn
        clear HFn
        refine wpAnyH_ready (rs := [4, 13]) (by kernel_rfl) (by simp) ?_
        refine (AllReadyH.cons (o := _) rfl (fun K hK => ?_) (AllReadyH.cons (o := _) rfl (fun K hK => ?_) AllReadyH.nil))
        · skip
          go_simp
          refine (pick_pos _ gr a n cap _ 4 (by omega) HFl.out.rd (by omega) (by omega)).mono ?_
          rintro e wp ⟨q, hq, rfl, hrdn, hgn⟩
          have HFp := Lib.hid (HFl.out.picked hrdn hgn hgr2 hwgr)
          have zq0 : (0 : Int) ≤ (q : Int) := by omega
          have zq1 : (q : Int) < 4 := by omega
          obtain ⟨v, hv0⟩ := HLn.out q (by omega)
          have hlc : wp.cell? ⟨LB, q, none⟩ = some (.int .i64 v) := (World.cell?_of_block (hgn.block LB HBn.out.2 (fun e => HBn.out.1 (by simpa using e)))).trans hv0
          clear hv0
          clear hrdn hgn
          (try dsimp only)
          refine hK.out _ _ trivial (fun hHeld => ?_)
          clear hK K
          (try simp only [Act.put, List.setIfInBounds_toArray, List.set_cons_zero, List.set_cons_succ])
          refine wpAnyH_take (i := 5) (v := .pointer (some ⟨LB, q, none⟩)) rfl (by kernel_rfl) (by kernel_rfl) (by kernel_rfl) (fun _ _ _ h => h) (Or.inl ⟨by kernel_rfl, fun w' hSw => ?_⟩) hHeld ?_
          · clear hSw; go_simp
          (try simp only [Act.put, List.setIfInBounds_toArray])
          refine wpAnyH_ready (rs := [6, 13]) (by kernel_rfl) (by simp) ?_
          refine (AllReadyH.cons (o := _) rfl (fun K hK => ?_) (AllReadyH.cons (o := _) rfl (fun K hK => ?_) AllReadyH.nil))
          · skip
            go_simp
            refine hK.out _ _ trivial (fun hHeld => ?_)
            clear hK K
            (try simp only [Act.put, List.setIfInBounds_toArray, List.set_cons_zero, List.set_cons_succ])
            refine wpAnyH_take (i := 7) (v := .agg #[.int .i64 97, .int .i64 v]) rfl (by kernel_rfl) (by kernel_rfl) (by kernel_rfl) (fun _ _ _ h => h) (Or.inl ⟨by kernel_rfl, fun w' hSw => ?_⟩) hHeld ?_
            · clear hSw; go_simp
            (try simp only [Act.put, List.setIfInBounds_toArray])
            refine wpAnyH_ready (rs := [8, 13]) (by kernel_rfl) (by simp) ?_
            refine (AllReadyH.cons (o := _) rfl (fun K hK => ?_) (AllReadyH.cons (o := _) rfl (fun K hK => ?_) AllReadyH.nil))
            · skip
              have HFe := Lib.hid (HFp.out.alloc (.cells #[.int .i64 97, .int .i64 v] 31))
              have HOe := Lib.hid (one_lit2 wp 31 (.int .i64 97) (.int .i64 v))
              go_simp
              refine hK.out _ _ trivial (fun hHeld => ?_)
              clear hK K
              (try simp only [Act.put, List.setIfInBounds_toArray, List.set_cons_zero, List.set_cons_succ])
              generalize wp.alloc (.cells #[.int .i64 97, .int .i64 v] 31) = we at HFe HOe ⊢
              obtain ⟨BE, hBE⟩ : ∃ B, wp.heap.size = B := ⟨_, rfl⟩
              have HOf := HOe.out
              rw [hBE] at HOf ⊢
              have HOg := Lib.hid HOf
              have HBE := Lib.hid hBE
              clear hBE HOf HOe
              refine wpAnyH_ready (rs := [13]) (by kernel_rfl) (by simp) ?_
              refine (AllReadyH.cons (o := _) rfl (fun K hK => ?_) AllReadyH.nil)
              have k4 := HFe.out.next hkm HA.out
              go_simp
              refine hK.out _ _ trivial (fun hHeld => ?_)
              clear hK K k4
              (try simp only [Act.put, List.setIfInBounds_toArray, List.set_cons_zero, List.set_cons_succ])
              refine wpAnyH_ready (rs := [14]) (by kernel_rfl) (by simp) ?_
              refine (AllReadyH.cons (o := _) rfl (fun K hK => ?_) AllReadyH.nil)
              refine step_append_to wp BE (some ⟨BE, 0, none⟩) 1 1 [.int .i64 97, .int .i64 v] ax nx cx (pairsC (tE L k)) (1 + nx) ([.int .i64 97, .int .i64 v] ++ pairsC (tE L k)) (by omega) (by simp) rfl (.tmp 27) (.tmp 32) 27 (by rfl) (by rfl) (by rfl) Try.ulG9 Try.infoG9 rfl (by decide) HLX.out (pairsC_one _) (by unfold maxLen; omega) (by omega) HOg.out (HFe.out.edges hkm HA.out) ?_
              intro a4 c4 w7 h7 g7
              rw [← HBE.out] at h7
              have m9 := ((HFp.out.rows.later h7.below).cells hkm).2.2
              have f9 := (HFp.out.rows.later h7.below).frozen (k * 3 + 2)
              have HP := Lib.hid (HFp.out.put hkm (l := ((97 : Int), v) :: tE L k) h7 hgr2 (by omega))
              clear h7 g7
              (try dsimp only)
              refine hK.out _ _ trivial (fun hHeld => ?_)
              clear hK K
              (try simp only [Act.put, List.setIfInBounds_toArray])
              refine wpAnyH_take (i := 15) (v := .pointer (some ⟨g, k * 3, none⟩)) rfl (by kernel_rfl) (by kernel_rfl) (by kernel_rfl) (fun _ _ _ h => h) (Or.inl ⟨by kernel_rfl, fun w' hSw => ?_⟩) hHeld ?_
              · clear hSw; go_simp
              (try simp only [Act.put])
              refine wpAnyH_take (i := 16) (v := .pointer (some ⟨g, k * 3 + 2, none⟩)) rfl (by kernel_rfl) (by kernel_rfl) (by kernel_rfl) (fun _ _ _ h => h) (Or.inl ⟨by kernel_rfl, fun w' hSw => ?_⟩) hHeld ?_
              · clear hSw; go_simp
              (try simp only [Act.put])
              refine wpAnyH_ready (rs := [17]) (by kernel_rfl) (by simp) ?_
              refine (AllReadyH.cons (o := _) rfl (fun K hK => ?_) AllReadyH.nil)
              go_simp
              refine hK.out _ _ trivial (fun hHeld => ?_)
              clear hK K m9 f9
              (try simp only [Act.put, List.setIfInBounds_toArray, List.set_cons_zero, List.set_cons_succ])
              refine wpAnyH_done (by kernel_rfl) ?_ _
              have HEND := Lib.hid (fo_end HP.out HFE2.out)
              clear HP
              go_wp2
              go_meet
              exact HEND.out
            · skip
              have k4 := HFp.out.next hkm HA.out
              go_simp
              refine hK.out _ _ trivial (fun hHeld => ?_)
              clear hK K k4
              (try simp only [Act.put, List.setIfInBounds_toArray, List.set_cons_zero, List.set_cons_succ])
              refine wpAnyH_ready (rs := [8]) (by kernel_rfl) (by simp) ?_
              refine (AllReadyH.cons (o := _) rfl (fun K hK => ?_) AllReadyH.nil)
              have HFe := Lib.hid (HFp.out.alloc (.cells #[.int .i64 97, .int .i64 v] 31))
              have HOe := Lib.hid (one_lit2 wp 31 (.int .i64 97) (.int .i64 v))
              go_simp
              refine hK.out _ _ trivial (fun hHeld => ?_)
              clear hK K
              (try simp only [Act.put, List.setIfInBounds_toArray, List.set_cons_zero, List.set_cons_succ])
              generalize wp.alloc (.cells #[.int .i64 97, .int .i64 v] 31) = we at HFe HOe ⊢
              obtain ⟨BE, hBE⟩ : ∃ B, wp.heap.size = B := ⟨_, rfl⟩
              have HOf := HOe.out
              rw [hBE] at HOf ⊢
              have HOg := Lib.hid HOf
              have HBE := Lib.hid hBE
              clear hBE HOf HOe
              refine wpAnyH_ready (rs := [14]) (by kernel_rfl) (by simp) ?_
              refine (AllReadyH.cons (o := _) rfl (fun K hK => ?_) AllReadyH.nil)
              refine step_append_to wp BE (some ⟨BE, 0, none⟩) 1 1 [.int .i64 97, .int .i64 v] ax nx cx (pairsC (tE L k)) (1 + nx) ([.int .i64 97, .int .i64 v] ++ pairsC (tE L k)) (by omega) (by simp) rfl (.tmp 27) (.tmp 32) 27 (by rfl) (by rfl) (by rfl) Try.ulG9 Try.infoG9 rfl (by decide) HLX.out (pairsC_one _) (by unfold maxLen; omega) (by omega) HOg.out (HFe.out.edges hkm HA.out) ?_
              intro a4 c4 w7 h7 g7
              rw [← HBE.out] at h7
              have m9 := ((HFp.out.rows.later h7.below).cells hkm).2.2
              have f9 := (HFp.out.rows.later h7.below).frozen (k * 3 + 2)
              have HP := Lib.hid (HFp.out.put hkm (l := ((97 : Int), v) :: tE L k) h7 hgr2 (by omega))
              clear h7 g7
              (try dsimp only)
              refine hK.out _ _ trivial (fun hHeld => ?_)
              clear hK K
              (try simp only [Act.put, List.setIfInBounds_toArray])
              refine wpAnyH_take (i := 15) (v := .pointer (some ⟨g, k * 3, none⟩)) rfl (by kernel_rfl) (by kernel_rfl) (by kernel_rfl) (fun _ _ _ h => h) (Or.inl ⟨by kernel_rfl, fun w' hSw => ?_⟩) hHeld ?_
              · clear hSw; go_simp
              (try simp only [Act.put])
              refine wpAnyH_take (i := 16) (v := .pointer (some ⟨g, k * 3 + 2, none⟩)) rfl (by kernel_rfl) (by kernel_rfl) (by kernel_rfl) (fun _ _ _ h => h) (Or.inl ⟨by kernel_rfl, fun w' hSw => ?_⟩) hHeld ?_
              · clear hSw; go_simp
              (try simp only [Act.put])
              refine wpAnyH_ready (rs := [17]) (by kernel_rfl) (by simp) ?_
              refine (AllReadyH.cons (o := _) rfl (fun K hK => ?_) AllReadyH.nil)
              go_simp
              refine hK.out _ _ trivial (fun hHeld => ?_)
              clear hK K m9 f9
              (try simp only [Act.put, List.setIfInBounds_toArray, List.set_cons_zero, List.set_cons_succ])
              refine wpAnyH_done (by kernel_rfl) ?_ _
              have HEND := Lib.hid (fo_end HP.out HFE2.out)
              clear HP
              go_wp2
              go_meet
              exact HEND.out
          · skip
            have k4 := HFp.out.next hkm HA.out
            go_simp
            refine hK.out _ _ trivial (fun hHeld => ?_)
            clear hK K k4
            (try simp only [Act.put, List.setIfInBounds_toArray, List.set_cons_zero, List.set_cons_succ])
            refine wpAnyH_ready (rs := [6]) (by kernel_rfl) (by simp) ?_
            refine (AllReadyH.cons (o := _) rfl (fun K hK => ?_) AllReadyH.nil)
            go_simp
            refine hK.out _ _ trivial (fun hHeld => ?_)
            clear hK K
            (try simp only [Act.put, List.setIfInBounds_toArray, List.set_cons_zero, List.set_cons_succ])
            refine wpAnyH_take (i := 7) (v := .agg #[.int .i64 97, .int .i64 v]) rfl (by kernel_rfl) (by kernel_rfl) (by kernel_rfl) (fun _ _ _ h => h) (Or.inl ⟨by kernel_rfl, fun w' hSw => ?_⟩) hHeld ?_
            · clear hSw; go_simp
            (try simp only [Act.put, List.setIfInBounds_toArray])
            refine wpAnyH_ready (rs := [8]) (by kernel_rfl) (by simp) ?_
            refine (AllReadyH.cons (o := _) rfl (fun K hK => ?_) AllReadyH.nil)
            have HFe := Lib.hid (HFp.out.alloc (.cells #[.int .i64 97, .int .i64 v] 31))
            have HOe := Lib.hid (one_lit2 wp 31 (.int .i64 97) (.int .i64 v))
            go_simp
            refine hK.out _ _ trivial (fun hHeld => ?_)
            clear hK K
            (try simp only [Act.put, List.setIfInBounds_toArray, List.set_cons_zero, List.set_cons_succ])
            generalize wp.alloc (.cells #[.int .i64 97, .int .i64 v] 31) = we at HFe HOe ⊢
            obtain ⟨BE, hBE⟩ : ∃ B, wp.heap.size = B := ⟨_, rfl⟩
            have HOf := HOe.out
            rw [hBE] at HOf ⊢
            have HOg := Lib.hid HOf
            have HBE := Lib.hid hBE
            clear hBE HOf HOe
            refine wpAnyH_ready (rs := [14]) (by kernel_rfl) (by simp) ?_
            refine (AllReadyH.cons (o := _) rfl (fun K hK => ?_) AllReadyH.nil)
            refine step_append_to wp BE (some ⟨BE, 0, none⟩) 1 1 [.int .i64 97, .int .i64 v] ax nx cx (pairsC (tE L k)) (1 + nx) ([.int .i64 97, .int .i64 v] ++ pairsC (tE L k)) (by omega) (by simp) rfl (.tmp 27) (.tmp 32) 27 (by rfl) (by rfl) (by rfl) Try.ulG9 Try.infoG9 rfl (by decide) HLX.out (pairsC_one _) (by unfold maxLen; omega) (by omega) HOg.out (HFe.out.edges hkm HA.out) ?_
            intro a4 c4 w7 h7 g7
            rw [← HBE.out] at h7
            have m9 := ((HFp.out.rows.later h7.below).cells hkm).2.2
            have f9 := (HFp.out.rows.later h7.below).frozen (k * 3 + 2)
            have HP := Lib.hid (HFp.out.put hkm (l := ((97 : Int), v) :: tE L k) h7 hgr2 (by omega))
            clear h7 g7
            (try dsimp only)
            refine hK.out _ _ trivial (fun hHeld => ?_)
            clear hK K
            (try simp only [Act.put, List.setIfInBounds_toArray])
            refine wpAnyH_take (i := 15) (v := .pointer (some ⟨g, k * 3, none⟩)) rfl (by kernel_rfl) (by kernel_rfl) (by kernel_rfl) (fun _ _ _ h => h) (Or.inl ⟨by kernel_rfl, fun w' hSw => ?_⟩) hHeld ?_
            · clear hSw; go_simp
            (try simp only [Act.put])
            refine wpAnyH_take (i := 16) (v := .pointer (some ⟨g, k * 3 + 2, none⟩)) rfl (by kernel_rfl) (by kernel_rfl) (by kernel_rfl) (fun _ _ _ h => h) (Or.inl ⟨by kernel_rfl, fun w' hSw => ?_⟩) hHeld ?_
            · clear hSw; go_simp
            (try simp only [Act.put])
            refine wpAnyH_ready (rs := [17]) (by kernel_rfl) (by simp) ?_
            refine (AllReadyH.cons (o := _) rfl (fun K hK => ?_) AllReadyH.nil)
            go_simp
            refine hK.out _ _ trivial (fun hHeld => ?_)
            clear hK K m9 f9
            (try simp only [Act.put, List.setIfInBounds_toArray, List.set_cons_zero, List.set_cons_succ])
            refine wpAnyH_done (by kernel_rfl) ?_ _
            have HEND := Lib.hid (fo_end HP.out HFE2.out)
            clear HP
            go_wp2
            go_meet
            exact HEND.out
        · skip
          have k4 := HFl.out.next hkm HA.out
          go_simp
          refine hK.out _ _ trivial (fun hHeld => ?_)
          clear hK K k4
          (try simp only [Act.put, List.setIfInBounds_toArray, List.set_cons_zero, List.set_cons_succ])
          refine wpAnyH_ready (rs := [4]) (by kernel_rfl) (by simp) ?_
          refine (AllReadyH.cons (o := _) rfl (fun K hK => ?_) AllReadyH.nil)
          go_simp
          refine (pick_pos _ gr a n cap _ 4 (by omega) HFl.out.rd (by omega) (by omega)).mono ?_
          rintro e wp ⟨q, hq, rfl, hrdn, hgn⟩
          have HFp := Lib.hid (HFl.out.picked hrdn hgn hgr2 hwgr)
          have zq0 : (0 : Int) ≤ (q : Int) := by omega
          have zq1 : (q : Int) < 4 := by omega
          obtain ⟨v, hv0⟩ := HLn.out q (by omega)
          have hlc : wp.cell? ⟨LB, q, none⟩ = some (.int .i64 v) := (World.cell?_of_block (hgn.block LB HBn.out.2 (fun e => HBn.out.1 (by simpa using e)))).trans hv0
          clear hv0
          clear hrdn hgn
          (try dsimp only)
          refine hK.out _ _ trivial (fun hHeld => ?_)
          clear hK K
          (try simp only [Act.put, List.setIfInBounds_toArray, List.set_cons_zero, List.set_cons_succ])
          refine wpAnyH_take (i := 5) (v := .pointer (some ⟨LB, q, none⟩)) rfl (by kernel_rfl) (by kernel_rfl) (by kernel_rfl) (fun _ _ _ h => h) (Or.inl ⟨by kernel_rfl, fun w' hSw => ?_⟩) hHeld ?_
          · clear hSw; go_simp
          (try simp only [Act.put, List.setIfInBounds_toArray])
          refine wpAnyH_ready (rs := [6]) (by kernel_rfl) (by simp) ?_
          refine (AllReadyH.cons (o := _) rfl (fun K hK => ?_) AllReadyH.nil)
          go_simp
          refine hK.out _ _ trivial (fun hHeld => ?_)
          clear hK K
          (try simp only [Act.put, List.setIfInBounds_toArray, List.set_cons_zero, List.set_cons_succ])
          refine wpAnyH_take (i := 7) (v := .agg #[.int .i64 97, .int .i64 v]) rfl (by kernel_rfl) (by kernel_rfl) (by kernel_rfl) (fun _ _ _ h => h) (Or.inl ⟨by kernel_rfl, fun w' hSw => ?_⟩) hHeld ?_
          · clear hSw; go_simp
          (try simp only [Act.put, List.setIfInBounds_toArray])
          refine wpAnyH_ready (rs := [8]) (by kernel_rfl) (by simp) ?_
          refine (AllReadyH.cons (o := _) rfl (fun K hK => ?_) AllReadyH.nil)
          have HFe := Lib.hid (HFp.out.alloc (.cells #[.int .i64 97, .int .i64 v] 31))
          have HOe := Lib.hid (one_lit2 wp 31 (.int .i64 97) (.int .i64 v))
          go_simp
          refine hK.out _ _ trivial (fun hHeld => ?_)
          clear hK K
          (try simp only [Act.put, List.setIfInBounds_toArray, List.set_cons_zero, List.set_cons_succ])
          generalize wp.alloc (.cells #[.int .i64 97, .int .i64 v] 31) = we at HFe HOe ⊢
          obtain ⟨BE, hBE⟩ : ∃ B, wp.heap.size = B := ⟨_, rfl⟩
          have HOf := HOe.out
          rw [hBE] at HOf ⊢
          have HOg := Lib.hid HOf
          have HBE := Lib.hid hBE
          clear hBE HOf HOe
          refine wpAnyH_ready (rs := [14]) (by kernel_rfl) (by simp) ?_
          refine (AllReadyH.cons (o := _) rfl (fun K hK => ?_) AllReadyH.nil)
          refine step_append_to wp BE (some ⟨BE, 0, none⟩) 1 1 [.int .i64 97, .int .i64 v] ax nx cx (pairsC (tE L k)) (1 + nx) ([.int .i64 97, .int .i64 v] ++ pairsC (tE L k)) (by omega) (by simp) rfl (.tmp 27) (.tmp 32) 27 (by rfl) (by rfl) (by rfl) Try.ulG9 Try.infoG9 rfl (by decide) HLX.out (pairsC_one _) (by unfold maxLen; omega) (by omega) HOg.out (HFe.out.edges hkm HA.out) ?_
          intro a4 c4 w7 h7 g7
          rw [← HBE.out] at h7
          have m9 := ((HFp.out.rows.later h7.below).cells hkm).2.2
          have f9 := (HFp.out.rows.later h7.below).frozen (k * 3 + 2)
          have HP := Lib.hid (HFp.out.put hkm (l := ((97 : Int), v) :: tE L k) h7 hgr2 (by omega))
          clear h7 g7
          (try dsimp only)
          refine hK.out _ _ trivial (fun hHeld => ?_)
          clear hK K
          (try simp only [Act.put, List.setIfInBounds_toArray])
          refine wpAnyH_take (i := 15) (v := .pointer (some ⟨g, k * 3, none⟩)) rfl (by kernel_rfl) (by kernel_rfl) (by kernel_rfl) (fun _ _ _ h => h) (Or.inl ⟨by kernel_rfl, fun w' hSw => ?_⟩) hHeld ?_
          · clear hSw; go_simp
          (try simp only [Act.put])
          refine wpAnyH_take (i := 16) (v := .pointer (some ⟨g, k * 3 + 2, none⟩)) rfl (by kernel_rfl) (by kernel_rfl) (by kernel_rfl) (fun _ _ _ h => h) (Or.inl ⟨by kernel_rfl, fun w' hSw => ?_⟩) hHeld ?_
          · clear hSw; go_simp
          (try simp only [Act.put])
          refine wpAnyH_ready (rs := [17]) (by kernel_rfl) (by simp) ?_
          refine (AllReadyH.cons (o := _) rfl (fun K hK => ?_) AllReadyH.nil)
          go_simp
          refine hK.out _ _ trivial (fun hHeld => ?_)
          clear hK K m9 f9
          (try simp only [Act.put, List.setIfInBounds_toArray, List.set_cons_zero, List.set_cons_succ])
          refine wpAnyH_done (by kernel_rfl) ?_ _
          have HEND := Lib.hid (fo_end HP.out HFE2.out)
          clear HP
          go_wp2
          go_meet
          exact HEND.out
      · skip
        go_simp
        refine (pick_pos _ gr a n cap _ 4 (by omega) HF0.out.rd (by omega) (by omega)).mono ?_
        rintro e wp ⟨q, hq, rfl, hrdn, hgn⟩
        have HFp := Lib.hid (HF0.out.picked hrdn hgn hgr2 hwgr)
        have zq0 : (0 : Int) ≤ (q : Int) := by omega
        have zq1 : (q : Int) < 4 := by omega
        clear hrdn hgn
        (try dsimp only)
        refine hK.out _ _ trivial (fun hHeld => ?_)
        clear hK K
        (try simp only [Act.put, List.setIfInBounds_toArray, List.set_cons_zero, List.set_cons_succ])
        refine wpAnyH_ready (rs := [2, 13]) (by kernel_rfl) (by simp) ?_
        refine (AllReadyH.cons (o := _) rfl (fun K hK => ?_) (AllReadyH.cons (o := _) rfl (fun K hK => ?_) AllReadyH.nil))
        · skip
          have HFn := Lib.hid (HFp.out.alloc (.cells #[.int .i64 (-1), .int .i64 99, .int .i64 0, .int .i64 1] 3))
          have HLn := Lib.hid (show ∀ q, q < 4 → ∃ v : Int, (wp.alloc (.cells #[.int .i64 (-1), .int .i64 99, .int .i64 0, .int .i64 1] 3)).cell? ⟨wp.heap.size, q, none⟩ = some (.int .i64 v) from fun q hq => by obtain ⟨v, hv⟩ := four_new 3 q hq; exact ⟨v, hv wp⟩)
          have HBn := Lib.hid (show wp.heap.size ≠ gr ∧ wp.heap.size < (wp.alloc (.cells #[.int .i64 (-1), .int .i64 99, .int .i64 0, .int .i64 1] 3)).heap.size from ⟨by have := HFp.out.rd.lt; omega, by simp⟩)
          go_simp
          refine hK.out _ _ trivial (fun hHeld => ?_)
          clear hK K
          (try simp only [Act.put, List.setIfInBounds_toArray, List.set_cons_zero, List.set_cons_succ])
          generalize wp.alloc (.cells #[.int .i64 (-1), .int .i64 99, .int .i64 0, .int .i64 1] 3) = wl at HFn HLn HBn ⊢
          generalize wp.heap.size = LB at HLn HBn ⊢
          obtain ⟨v, hlc⟩ := HLn.out q (by omega)
          have HFl := HFn
          clear HFn
          refine wpAnyH_take (i := 5) (v := .pointer (some ⟨LB, q, none⟩)) rfl (by kernel_rfl) (by kernel_rfl) (by kernel_rfl) (fun _ _ _ h => h) (Or.inl ⟨by kernel_rfl, fun w' hSw => ?_⟩) hHeld ?_
          · clear hSw; go_simp
          (try simp only [Act.put, List.setIfInBounds_toArray])
          refine wpAnyH_ready (rs := [6, 13]) (by kernel_rfl) (by simp) ?_
          refine (AllReadyH.cons (o := _) rfl (fun K hK => ?_) (AllReadyH.cons (o := _) rfl (fun K hK => ?_) AllReadyH.nil))
          · skip
            go_simp
            refine hK.out _ _ trivial (fun hHeld => ?_)
            clear hK K
            (try simp only [Act.put, List.setIfInBounds_toArray, List.set_cons_zero, List.set_cons_succ])
            refine wpAnyH_take (i := 7) (v := .agg #[.int .i64 97, .int .i64 v]) rfl (by kernel_rfl) (by kernel_rfl) (by kernel_rfl) (fun _ _ _ h => h) (Or.inl ⟨by kernel_rfl, fun w' hSw => ?_⟩) hHeld ?_
            · clear hSw; go_simp
            (try simp only [Act.put, List.setIfInBounds_toArray])
            refine wpAnyH_ready (rs := [8, 13]) (by kernel_rfl) (by simp) ?_
            refine (AllReadyH.cons (o := _) rfl (fun K hK => ?_) (AllReadyH.cons (o := _) rfl (fun K hK => ?_) AllReadyH.nil))
            · skip
              have HFe := Lib.hid (HFl.out.alloc (.cells #[.int .i64 97, .int .i64 v] 31))
              have HOe := Lib.hid (one_lit2 wl 31 (.int .i64 97) (.int .i64 v))
              go_simp
              refine hK.out _ _ trivial (fun hHeld => ?_)
              clear hK K
              (try simp only [Act.put, List.setIfInBounds_toArray, List.set_cons_zero, List.set_cons_succ])
              generalize wl.alloc (.cells #[.int .i64 97, .int .i64 v] 31) = we at HFe HOe ⊢
              obtain ⟨BE, hBE⟩ : ∃ B, wl.heap.size = B := ⟨_, rfl⟩
              have HOf := HOe.out
              rw [hBE] at HOf ⊢
              have HOg := Lib.hid HOf
              have HBE := Lib.hid hBE
              clear hBE HOf HOe
              refine wpAnyH_ready (rs := [13]) (by kernel_rfl) (by simp) ?_
              refine (AllReadyH.cons (o := _) rfl (fun K hK => ?_) AllReadyH.nil)
              have k4 := HFe.out.next hkm HA.out
              go_simp
              refine hK.out _ _ trivial (fun hHeld => ?_)
              clear hK K k4
              (try simp only [Act.put, List.setIfInBounds_toArray, List.set_cons_zero, List.set_cons_succ])
              refine wpAnyH_ready (rs := [14]) (by kernel_rfl) (by simp) ?_
              refine (AllReadyH.cons (o := _) rfl (fun K hK => ?_) AllReadyH.nil)
              refine step_append_to wl BE (some ⟨BE, 0, none⟩) 1 1 [.int .i64 97, .int .i64 v] ax nx cx (pairsC (tE L k)) (1 + nx) ([.int .i64 97, .int .i64 v] ++ pairsC (tE L k)) (by omega) (by simp) rfl (.tmp 27) (.tmp 32) 27 (by rfl) (by rfl) (by rfl) Try.ulG9 Try.infoG9 rfl (by decide) HLX.out (pairsC_one _) (by unfold maxLen; omega) (by omega) HOg.out (HFe.out.edges hkm HA.out) ?_
              intro a4 c4 w7 h7 g7
              rw [← HBE.out] at h7
              have m9 := ((HFl.out.rows.later h7.below).cells hkm).2.2
              have f9 := (HFl.out.rows.later h7.below).frozen (k * 3 + 2)
              have HP := Lib.hid (HFl.out.put hkm (l := ((97 : Int), v) :: tE L k) h7 hgr2 (by omega))
              clear h7 g7
              (try dsimp only)
              refine hK.out _ _ trivial (fun hHeld => ?_)
              clear hK K
              (try simp only [Act.put, List.setIfInBounds_toArray])
              refine wpAnyH_take (i := 15) (v := .pointer (some ⟨g, k * 3, none⟩)) rfl (by kernel_rfl) (by kernel_rfl) (by kernel_rfl) (fun _ _ _ h => h) (Or.inl ⟨by kernel_rfl, fun w' hSw => ?_⟩) hHeld ?_
              · clear hSw; go_simp
              (try simp only [Act.put])
              refine wpAnyH_take (i := 16) (v := .pointer (some ⟨g, k * 3 + 2, none⟩)) rfl (by kernel_rfl) (by kernel_rfl) (by kernel_rfl) (fun _ _ _ h => h) (Or.inl ⟨by kernel_rfl, fun w' hSw => ?_⟩) hHeld ?_
              · clear hSw; go_simp
              (try simp only [Act.put])
              refine wpAnyH_ready (rs := [17]) (by kernel_rfl) (by simp) ?_
              refine (AllReadyH.cons (o := _) rfl (fun K hK => ?_) AllReadyH.nil)
              go_simp
              refine hK.out _ _ trivial (fun hHeld => ?_)
              clear hK K m9 f9
              (try simp only [Act.put, List.setIfInBounds_toArray, List.set_cons_zero, List.set_cons_succ])
              refine wpAnyH_done (by kernel_rfl) ?_ _
              have HEND := Lib.hid (fo_end HP.out HFE2.out)
              clear HP
              go_wp2
              go_meet
              exact HEND.out
            · skip
              have k4 := HFl.out.next hkm HA.out
              go_simp
              refine hK.out _ _ trivial (fun hHeld => ?_)
              clear hK K k4
              (try simp only [Act.put, List.setIfInBounds_toArray, List.set_cons_zero, List.set_cons_succ])
              refine wpAnyH_ready (rs := [8]) (by kernel_rfl) (by simp) ?_
              refine (AllReadyH.cons (o := _) rfl (fun K hK => ?_) AllReadyH.nil)
              have HFe := Lib.hid (HFl.out.alloc (.cells #[.int .i64 97, .int .i64 v] 31))
              have HOe := Lib.hid (one_lit2 wl 31 (.int .i64 97) (.int .i64 v))
              go_simp
              refine hK.out _ _ trivial (fun hHeld => ?_)
              clear hK K
              (try simp only [Act.put, List.setIfInBounds_toArray, List.set_cons_zero, List.set_cons_succ])
              generalize wl.alloc (.cells #[.int .i64 97, .int .i64 v] 31) = we at HFe HOe ⊢
              obtain ⟨BE, hBE⟩ : ∃ B, wl.heap.size = B := ⟨_, rfl⟩
              have HOf := HOe.out
              rw [hBE] at HOf ⊢
              have HOg := Lib.hid HOf
              have HBE := Lib.hid hBE
              clear hBE HOf HOe
              refine wpAnyH_ready (rs := [14]) (by kernel_rfl) (by simp) ?_
              refine (AllReadyH.cons (o := _) rfl (fun K hK => ?_) AllReadyH.nil)
              refine step_append_to wl BE (some ⟨BE, 0, none⟩) 1 1 [.int .i64 97, .int .i64 v] ax nx cx (pairsC (tE L k)) (1 + nx) ([.int .i64 97, .int .i64 v] ++ pairsC (tE L k)) (by omega) (by simp) rfl (.tmp 27) (.tmp 32) 27 (by rfl) (by rfl) (by rfl) Try.ulG9 Try.infoG9 rfl (by decide) HLX.out (pairsC_one _) (by unfold maxLen; omega) (by omega) HOg.out (HFe.out.edges hkm HA.out) ?_
              intro a4 c4 w7 h7 g7
              rw [← HBE.out] at h7
              have m9 := ((HFl.out.rows.later h7.below).cells hkm).2.2
              have f9 := (HFl.out.rows.later h7.below).frozen (k * 3 + 2)
              have HP := Lib.hid (HFl.out.put hkm (l := ((97 : Int), v) :: tE L k) h7 hgr2 (by omega))
              clear h7 g7
              (try dsimp only)
              refine hK.out _ _ trivial (fun hHeld => ?_)
              clear hK K
              (try simp only [Act.put, List.setIfInBounds_toArray])
              refine wpAnyH_take (i := 15) (v := .pointer (some ⟨g, k * 3, none⟩)) rfl (by kernel_rfl) (by kernel_rfl) (by kernel_rfl) (fun _ _ _ h => h) (Or.inl ⟨by kernel_rfl, fun w' hSw => ?_⟩) hHeld ?_
              · clear hSw; go_simp
              (try simp only [Act.put])
              refine wpAnyH_take (i := 16) (v := .pointer (some ⟨g, k * 3 + 2, none⟩)) rfl (by kernel_rfl) (by kernel_rfl) (by kernel_rfl) (fun _ _ _ h => h) (Or.inl ⟨by kernel_rfl, fun w' hSw => ?_⟩) hHeld ?_
              · clear hSw; go_simp
              (try simp only [Act.put])
              refine wpAnyH_ready (rs := [17]) (by kernel_rfl) (by simp) ?_
              refine (AllReadyH.cons (o := _) rfl (fun K hK => ?_) AllReadyH.nil)
              go_simp
              refine hK.out _ _ trivial (fun hHeld => ?_)
              clear hK K m9 f9
              (try simp only [Act.put, List.setIfInBounds_toArray, List.set_cons_zero, List.set_cons_succ])
              refine wpAnyH_done (by kernel_rfl) ?_ _
              have HEND := Lib.hid (fo_end HP.out HFE2.out)
              clear HP
              go_wp2
              go_meet
              exact HEND.out
          · skip
            have k4 := HFl.out.next hkm HA.out
            go_simp
            refine hK.out _ _ trivial (fun hHeld => ?_)
            clear hK K k4
            (try simp only [Act.put, List.setIfInBounds_toArray, List.set_cons_zero, List.set_cons_succ])
            refine wpAnyH_ready (rs := [6]) (by kernel_rfl) (by simp) ?_
            refine (AllReadyH.cons (o := _) rfl (fun K hK => ?_) AllReadyH.nil)
            go_simp
            refine hK.out _ _ trivial (fun hHeld => ?_)
            clear hK K
            (try simp only [Act.put, List.setIfInBounds_toArray, List.set_cons_zero, List.set_cons_succ])
            refine wpAnyH_take (i := 7) (v := .agg #[.int .i64 97, .int .i64 v]) rfl (by kernel_rfl) (by kernel_rfl) (by kernel_rfl) (fun _ _ _ h => h) (Or.inl ⟨by kernel_rfl, fun w' hSw => ?_⟩) hHeld ?_
            · clear hSw; go_simp
            (try simp only [Act.put, List.setIfInBounds_toArray])
            refine wpAnyH_ready (rs := [8]) (by kernel_rfl) (by simp) ?_
            refine (AllReadyH.cons (o := _) rfl (fun K hK => ?_) AllReadyH.nil)
            have HFe := Lib.hid (HFl.out.alloc (.cells #[.int .i64 97, .int .i64 v] 31))
            have HOe := Lib.hid (one_lit2 wl 31 (.int .i64 97) (.int .i64 v))
            go_simp
            refine hK.out _ _ trivial (fun hHeld => ?_)
            clear hK K
            (try simp only [Act.put, List.setIfInBounds_toArray, List.set_cons_zero, List.set_cons_succ])
            generalize wl.alloc (.cells #[.int .i64 97, .int .i64 v] 31) = we at HFe HOe ⊢
            obtain ⟨BE, hBE⟩ : ∃ B, wl.heap.size = B := ⟨_, rfl⟩
            have HOf := HOe.out
            rw [hBE] at HOf ⊢
            have HOg := Lib.hid HOf
            have HBE := Lib.hid hBE
            clear hBE HOf HOe
            refine wpAnyH_ready (rs := [14]) (by kernel_rfl) (by simp) ?_
            refine (AllReadyH.cons (o := _) rfl (fun K hK => ?_) AllReadyH.nil)
            refine step_append_to wl BE (some ⟨BE, 0, none⟩) 1 1 [.int .i64 97, .int .i64 v] ax nx cx (pairsC (tE L k)) (1 + nx) ([.int .i64 97, .int .i64 v] ++ pairsC (tE L k)) (by omega) (by simp) rfl (.tmp 27) (.tmp 32) 27 (by rfl) (by rfl) (by rfl) Try.ulG9 Try.infoG9 rfl (by decide) HLX.out (pairsC_one _) (by unfold maxLen; omega) (by omega) HOg.out (HFe.out.edges hkm HA.out) ?_
            intro a4 c4 w7 h7 g7
            rw [← HBE.out] at h7
            have m9 := ((HFl.out.rows.later h7.below).cells hkm).2.2
            have f9 := (HFl.out.rows.later h7.below).frozen (k * 3 + 2)
            have HP := Lib.hid (HFl.out.put hkm (l := ((97 : Int), v) :: tE L k) h7 hgr2 (by omega))
            clear h7 g7
            (try dsimp only)
            refine hK.out _ _ trivial (fun hHeld => ?_)
            clear hK K
            (try simp only [Act.put, List.setIfInBounds_toArray])
            refine wpAnyH_take (i := 15) (v := .pointer (some ⟨g, k * 3, none⟩)) rfl (by kernel_rfl) (by kernel_rfl) (by kernel_rfl) (fun _ _ _ h => h) (Or.inl ⟨by kernel_rfl, fun w' hSw => ?_⟩) hHeld ?_
            · clear hSw; go_simp
            (try simp only [Act.put])
            refine wpAnyH_take (i := 16) (v := .pointer (some ⟨g, k * 3 + 2, none⟩)) rfl (by kernel_rfl) (by kernel_rfl) (by kernel_rfl) (fun _ _ _ h => h) (Or.inl ⟨by kernel_rfl, fun w' hSw => ?_⟩) hHeld ?_
            · clear hSw; go_simp
            (try simp only [Act.put])
            refine wpAnyH_ready (rs := [17]) (by kernel_rfl) (by simp) ?_
            refine (AllReadyH.cons (o := _) rfl (fun K hK => ?_) AllReadyH.nil)
            go_simp
            refine hK.out _ _ trivial (fun hHeld => ?_)
            clear hK K m9 f9
            (try simp only [Act.put, List.setIfInBounds_toArray, List.set_cons_zero, List.set_cons_succ])
            refine wpAnyH_done (by kernel_rfl) ?_ _
            have HEND := Lib.hid (fo_end HP.out HFE2.out)
            clear HP
            go_wp2
            go_meet
            exact HEND.out
        · skip
          have k4 := HFp.out.next hkm HA.out
          go_simp
          refine hK.out _ _ trivial (fun hHeld => ?_)
          clear hK K k4
          (try simp only [Act.put, List.setIfInBounds_toArray, List.set_cons_zero, List.set_cons_succ])
          refine wpAnyH_ready (rs := [2]) (by kernel_rfl) (by simp) ?_
          refine (AllReadyH.cons (o := _) rfl (fun K hK => ?_) AllReadyH.nil)
          have HFn := Lib.hid (HFp.out.alloc (.cells #[.int .i64 (-1), .int .i64 99, .int .i64 0, .int .i64 1] 3))
          have HLn := Lib.hid (show ∀ q, q < 4 → ∃ v : Int, (wp.alloc (.cells #[.int .i64 (-1), .int .i64 99, .int .i64 0, .int .i64 1] 3)).cell? ⟨wp.heap.size, q, none⟩ = some (.int .i64 v) from fun q hq => by obtain ⟨v, hv⟩ := four_new 3 q hq; exact ⟨v, hv wp⟩)
          have HBn := Lib.hid (show wp.heap.size ≠ gr ∧ wp.heap.size < (wp.alloc (.cells #[.int .i64 (-1), .int .i64 99, .int .i64 0, .int .i64 1] 3)).heap.size from ⟨by have := HFp.out.rd.lt; omega, by simp⟩)
          go_simp
          refine hK.out _ _ trivial (fun hHeld => ?_)
          clear hK K
          (try simp only [Act.put, List.setIfInBounds_toArray, List.set_cons_zero, List.set_cons_succ])
          generalize wp.alloc (.cells #[.int .i64 (-1), .int .i64 99, .int .i64 0, .int .i64 1] 3) = wl at HFn HLn HBn ⊢
          generalize wp.heap.size = LB at HLn HBn ⊢
          obtain ⟨v, hlc⟩ := HLn.out q (by omega)
          have HFl := HFn
          clear HFn
          refine wpAnyH_take (i := 5) (v := .pointer (some ⟨LB, q, none⟩)) rfl (by kernel_rfl) (by kernel_rfl) (by kernel_rfl) (fun _ _ _ h => h) (Or.inl ⟨by kernel_rfl, fun w' hSw => ?_⟩) hHeld ?_
          · clear hSw; go_simp
          (try simp only [Act.put, List.setIfInBounds_toArray])
          refine wpAnyH_ready (rs := [6]) (by kernel_rfl) (by simp) ?_
          refine (AllReadyH.cons (o := _) rfl (fun K hK => ?_) AllReadyH.nil)
          go_simp
          refine hK.out _ _ trivial (fun hHeld => ?_)
          clear hK K
          (try simp only [Act.put, List.setIfInBounds_toArray, List.set_cons_zero, List.set_cons_succ])
          refine wpAnyH_take (i := 7) (v := .agg #[.int .i64 97, .int .i64 v]) rfl (by kernel_rfl) (by kernel_rfl) (by kernel_rfl) (fun _ _ _ h => h) (Or.inl ⟨by kernel_rfl, fun w' hSw => ?_⟩) hHeld ?_
          · clear hSw; go_simp
          (try simp only [Act.put, List.setIfInBounds_toArray])
          refine wpAnyH_ready (rs := [8]) (by kernel_rfl) (by simp) ?_
          refine (AllReadyH.cons (o := _) rfl (fun K hK => ?_) AllReadyH.nil)
          have HFe := Lib.hid (HFl.out.alloc (.cells #[.int .i64 97, .int .i64 v] 31))
          have HOe := Lib.hid (one_lit2 wl 31 (.int .i64 97) (.int .i64 v))
          go_simp
          refine hK.out _ _ trivial (fun hHeld => ?_)
          clear hK K
          (try simp only [Act.put, List.setIfInBounds_toArray, List.set_cons_zero, List.set_cons_succ])
          generalize wl.alloc (.cells #[.int .i64 97, .int .i64 v] 31) = we at HFe HOe ⊢
          obtain ⟨BE, hBE⟩ : ∃ B, wl.heap.size = B := ⟨_, rfl⟩
          have HOf := HOe.out
          rw [hBE] at HOf ⊢
          have HOg := Lib.hid HOf
          have HBE := Lib.hid hBE
          clear hBE HOf HOe
          refine wpAnyH_ready (rs := [14]) (by kernel_rfl) (by simp) ?_
          refine (AllReadyH.cons (o := _) rfl (fun K hK => ?_) AllReadyH.nil)
          refine step_append_to wl BE (some ⟨BE, 0, none⟩) 1 1 [.int .i64 97, .int .i64 v] ax nx cx (pairsC (tE L k)) (1 + nx) ([.int .i64 97, .int .i64 v] ++ pairsC (tE L k)) (by omega) (by simp) rfl (.tmp 27) (.tmp 32) 27 (by rfl) (by rfl) (by rfl) Try.ulG9 Try.infoG9 rfl (by decide) HLX.out (pairsC_one _) (by unfold maxLen; omega) (by omega) HOg.out (HFe.out.edges hkm HA.out) ?_
          intro a4 c4 w7 h7 g7
          rw [← HBE.out] at h7
          have m9 := ((HFl.out.rows.later h7.below).cells hkm).2.2
          have f9 := (HFl.out.rows.later h7.below).frozen (k * 3 + 2)
          have HP := Lib.hid (HFl.out.put hkm (l := ((97 : Int), v) :: tE L k) h7 hgr2 (by omega))
          clear h7 g7
          (try dsimp only)
          refine hK.out _ _ trivial (fun hHeld => ?_)
          clear hK K
          (try simp only [Act.put, List.setIfInBounds_toArray])
          refine wpAnyH_take (i := 15) (v := .pointer (some ⟨g, k * 3, none⟩)) rfl (by kernel_rfl) (by kernel_rfl) (by kernel_rfl) (fun _ _ _ h => h) (Or.inl ⟨by kernel_rfl, fun w' hSw => ?_⟩) hHeld ?_
          · clear hSw; go_simp
          (try simp only [Act.put])
          refine wpAnyH_take (i := 16) (v := .pointer (some ⟨g, k * 3 + 2, none⟩)) rfl (by kernel_rfl) (by kernel_rfl) (by kernel_rfl) (fun _ _ _ h => h) (Or.inl ⟨by kernel_rfl, fun w' hSw => ?_⟩) hHeld ?_
          · clear hSw; go_simp
          (try simp only [Act.put])
          refine wpAnyH_ready (rs := [17]) (by kernel_rfl) (by simp) ?_
          refine (AllReadyH.cons (o := _) rfl (fun K hK => ?_) AllReadyH.nil)
          go_simp
          refine hK.out _ _ trivial (fun hHeld => ?_)
          clear hK K m9 f9
          (try simp only [Act.put, List.setIfInBounds_toArray, List.set_cons_zero, List.set_cons_succ])
          refine wpAnyH_done (by kernel_rfl) ?_ _
          have HEND := Lib.hid (fo_end HP.out HFE2.out)
          clear HP
          go_wp2
          go_meet
          exact HEND.out
      · skip
        have k4 := HF0.out.next hkm HA.out
        go_simp
        refine hK.out _ _ trivial (fun hHeld => ?_)
        clear hK K k4
        (try simp only [Act.put, List.setIfInBounds_toArray, List.set_cons_zero, List.set_cons_succ])
        refine wpAnyH_ready (rs := [2, 4]) (by kernel_rfl) (by simp) ?_
        refine (AllReadyH.cons (o := _) rfl (fun K hK => ?_) (AllReadyH.cons (o := _) rfl (fun K hK => ?_) AllReadyH.nil))
        · skip
          have HFn := Lib.hid (HF0.out.alloc (.cells #[.int .i64 (-1), .int .i64 99, .int .i64 0, .int .i64 1] 3))
          have HLn := Lib.hid (show ∀ q, q < 4 → ∃ v : Int, (wd.alloc (.cells #[.int .i64 (-1), .int .i64 99, .int .i64 0, .int .i64 1] 3)).cell? ⟨wd.heap.size, q, none⟩ = some (.int .i64 v) from fun q hq => by obtain ⟨v, hv⟩ := four_new 3 q hq; exact ⟨v, hv wd⟩)
          have HBn := Lib.hid (show wd.heap.size ≠ gr ∧ wd.heap.size < (wd.alloc (.cells #[.int .i64 (-1), .int .i64 99, .int .i64 0, .int .i64 1] 3)).heap.size from ⟨by have := HF0.out.rd.lt; omega, by simp⟩)
          go_simp
          refine hK.out _ _ trivial (fun hHeld => ?_)
          clear hK K
          (try simp only [Act.put, List.setIfInBounds_toArray, List.set_cons_zero, List.set_cons_succ])
          generalize wd.alloc (.cells #[.int .i64 (-1), .int .i64 99, .int .i64 0, .int .i64 1] 3) = wl at HFn HLn HBn ⊢
          generalize wd.heap.size = LB at HLn HBn ⊢
          have HFl := HFn
          clear HFn
          refine wpAnyH_ready (rs := [4]) (by kernel_rfl) (by simp) ?_
          refine (AllReadyH.cons (o := _) rfl (fun K hK => ?_) AllReadyH.nil)
          go_simp
          refine (pick_pos _ gr a n cap _ 4 (by omega) HFl.out.rd (by omega) (by omega)).mono ?_
          rintro e wp ⟨q, hq, rfl, hrdn, hgn⟩
          have HFp := Lib.hid (HFl.out.picked hrdn hgn hgr2 hwgr)
          have zq0 : (0 : Int) ≤ (q : Int) := by omega
          have zq1 : (q : Int) < 4 := by omega
          obtain ⟨v, hv0⟩ := HLn.out q (by omega)
          have hlc : wp.cell? ⟨LB, q, none⟩ = some (.int .i64 v) := (World.cell?_of_block (hgn.block LB HBn.out.2 (fun e => HBn.out.1 (by simpa using e)))).trans hv0
          clear hv0
          clear hrdn hgn
          (try dsimp only)
          refine hK.out _ _ trivial (fun hHeld => ?_)
          clear hK K
          (try simp only [Act.put, List.setIfInBounds_toArray, List.set_cons_zero, List.set_cons_succ])
          refine wpAnyH_take (i := 5) (v := .pointer (some ⟨LB, q, none⟩)) rfl (by kernel_rfl) (by kernel_rfl) (by kernel_rfl) (fun _ _ _ h => h) (Or.inl ⟨by kernel_rfl, fun w' hSw => ?_⟩) hHeld ?_
          · clear hSw; go_simp
          (try simp only [Act.put, List.setIfInBounds_toArray])
          refine wpAnyH_ready (rs := [6]) (by kernel_rfl) (by simp) ?_
          refine (AllReadyH.cons (o := _) rfl (fun K hK => ?_) AllReadyH.nil)
          go_simp
          refine hK.out _ _ trivial (fun hHeld => ?_)
          clear hK K
          (try simp only [Act.put, List.setIfInBounds_toArray, List.set_cons_zero, List.set_cons_succ])
          refine wpAnyH_take (i := 7) (v := .agg #[.int .i64 97, .int .i64 v]) rfl (by kernel_rfl) (by kernel_rfl) (by kernel_rfl) (fun _ _ _ h => h) (Or.inl ⟨by kernel_rfl, fun w' hSw => ?_⟩) hHeld ?_
          · clear hSw; go_simp
          (try simp only [Act.put, List.setIfInBounds_toArray])
          refine wpAnyH_ready (rs := [8]) (by kernel_rfl) (by simp) ?_
          refine (AllReadyH.cons (o := _) rfl (fun K hK => ?_) AllReadyH.nil)
          have HFe := Lib.hid (HFp.out.alloc (.cells #[.int .i64 97, .int .i64 v] 31))
          have HOe := Lib.hid (one_lit2 wp 31 (.int .i64 97) (.int .i64 v))
          go_simp
          refine hK.out _ _ trivial (fun hHeld => ?_)
          clear hK K
          (try simp only [Act.put, List.setIfInBounds_toArray, List.set_cons_zero, List.set_cons_succ])
          generalize wp.alloc (.cells #[.int .i64 97, .int .i64 v] 31) = we at HFe HOe ⊢
          obtain ⟨BE, hBE⟩ : ∃ B, wp.heap.size = B := ⟨_, rfl⟩
          have HOf := HOe.out
          rw [hBE] at HOf ⊢
          have HOg := Lib.hid HOf
          have HBE := Lib.hid hBE
          clear hBE HOf HOe
          refine wpAnyH_ready (rs := [14]) (by kernel_rfl) (by simp) ?_
          refine (AllReadyH.cons (o := _) rfl (fun K hK => ?_) AllReadyH.nil)
          refine step_append_to wp BE (some ⟨BE, 0, none⟩) 1 1 [.int .i64 97, .int .i64 v] ax nx cx (pairsC (tE L k)) (1 + nx) ([.int .i64 97, .int .i64 v] ++ pairsC (tE L k)) (by omega) (by simp) rfl (.tmp 27) (.tmp 32) 27 (by rfl) (by rfl) (by rfl) Try.ulG9 Try.infoG9 rfl (by decide) HLX.out (pairsC_one _) (by unfold maxLen; omega) (by omega) HOg.out (HFe.out.edges hkm HA.out) ?_
          intro a4 c4 w7 h7 g7
          rw [← HBE.out] at h7
          have m9 := ((HFp.out.rows.later h7.below).cells hkm).2.2
          have f9 := (HFp.out.rows.later h7.below).frozen (k * 3 + 2)
          have HP := Lib.hid (HFp.out.put hkm (l := ((97 : Int), v) :: tE L k) h7 hgr2 (by omega))
          clear h7 g7
          (try dsimp only)
          refine hK.out _ _ trivial (fun hHeld => ?_)
          clear hK K
          (try simp only [Act.put, List.setIfInBounds_toArray])
          refine wpAnyH_take (i := 15) (v := .pointer (some ⟨g, k * 3, none⟩)) rfl (by kernel_rfl) (by kernel_rfl) (by kernel_rfl) (fun _ _ _ h => h) (Or.inl ⟨by kernel_rfl, fun w' hSw => ?_⟩) hHeld ?_
          · clear hSw; go_simp
          (try simp only [Act.put])
          refine wpAnyH_take (i := 16) (v := .pointer (some ⟨g, k * 3 + 2, none⟩)) rfl (by kernel_rfl) (by kernel_rfl) (by kernel_rfl) (fun _ _ _ h => h) (Or.inl ⟨by kernel_rfl, fun w' hSw => ?_⟩) hHeld ?_
          · clear hSw; go_simp
          (try simp only [Act.put])
          refine wpAnyH_ready (rs := [17]) (by kernel_rfl) (by simp) ?_
          refine (AllReadyH.cons (o := _) rfl (fun K hK => ?_) AllReadyH.nil)
          go_simp
          refine hK.out _ _ trivial (fun hHeld => ?_)
          clear hK K m9 f9
          (try simp only [Act.put, List.setIfInBounds_toArray, List.set_cons_zero, List.set_cons_succ])
          refine wpAnyH_done (by kernel_rfl) ?_ _
          have HEND := Lib.hid (fo_end HP.out HFE2.out)
          clear HP
          go_wp2
          go_meet
          exact HEND.out
        · skip
          go_simp
          refine (pick_pos _ gr a n cap _ 4 (by omega) HF0.out.rd (by omega) (by omega)).mono ?_
          rintro e wp ⟨q, hq, rfl, hrdn, hgn⟩
          have HFp := Lib.hid (HF0.out.picked hrdn hgn hgr2 hwgr)
          have zq0 : (0 : Int) ≤ (q : Int) := by omega
          have zq1 : (q : Int) < 4 := by omega
          clear hrdn hgn
          (try dsimp only)
          refine hK.out _ _ trivial (fun hHeld => ?_)
          clear hK K
          (try simp only [Act.put, List.setIfInBounds_toArray, List.set_cons_zero, List.set_cons_succ])
          refine wpAnyH_ready (rs := [2]) (by kernel_rfl) (by simp) ?_
          refine (AllReadyH.cons (o := _) rfl (fun K hK => ?_) AllReadyH.nil)
          have HFn := Lib.hid (HFp.out.alloc (.cells #[.int .i64 (-1), .int .i64 99, .int .i64 0, .int .i64 1] 3))
          have HLn := Lib.hid (show ∀ q, q < 4 → ∃ v : Int, (wp.alloc (.cells #[.int .i64 (-1), .int .i64 99, .int .i64 0, .int .i64 1] 3)).cell? ⟨wp.heap.size, q, none⟩ = some (.int .i64 v) from fun q hq => by obtain ⟨v, hv⟩ := four_new 3 q hq; exact ⟨v, hv wp⟩)
          have HBn := Lib.hid (show wp.heap.size ≠ gr ∧ wp.heap.size < (wp.alloc (.cells #[.int .i64 (-1), .int .i64 99, .int .i64 0, .int .i64 1] 3)).heap.size from ⟨by have := HFp.out.rd.lt; omega, by simp⟩)
          go_simp
          refine hK.out _ _ trivial (fun hHeld => ?_)
          clear hK K
          (try simp only [Act.put, List.setIfInBounds_toArray, List.set_cons_zero, List.set_cons_succ])
          generalize wp.alloc (.cells #[.int .i64 (-1), .int .i64 99, .int .i64 0, .int .i64 1] 3) = wl at HFn HLn HBn ⊢
          generalize wp.heap.size = LB at HLn HBn ⊢
          obtain ⟨v, hlc⟩ := HLn.out q (by omega)
          have HFl := HFn
          clear HFn
          refine wpAnyH_take (i := 5) (v := .pointer (some ⟨LB, q, none⟩)) rfl (by kernel_rfl) (by kernel_rfl) (by kernel_rfl) (fun _ _ _ h => h) (Or.inl ⟨by kernel_rfl, fun w' hSw => ?_⟩) hHeld ?_
          · clear hSw; go_simp
          (try simp only [Act.put, List.setIfInBounds_toArray])
          refine wpAnyH_ready (rs := [6]) (by kernel_rfl) (by simp) ?_
          refine (AllReadyH.cons (o := _) rfl (fun K hK => ?_) AllReadyH.nil)
          go_simp
          refine hK.out _ _ trivial (fun hHeld => ?_)
          clear hK K
          (try simp only [Act.put, List.setIfInBounds_toArray, List.set_cons_zero, List.set_cons_succ])
          refine wpAnyH_take (i := 7) (v := .agg #[.int .i64 97, .int .i64 v]) rfl (by kernel_rfl) (by kernel_rfl) (by kernel_rfl) (fun _ _ _ h => h) (Or.inl ⟨by kernel_rfl, fun w' hSw => ?_⟩) hHeld ?_
          · clear hSw; go_simp
          (try simp only [Act.put, List.setIfInBounds_toArray])
          refine wpAnyH_ready (rs := [8]) (by kernel_rfl) (by simp) ?_
          refine (AllReadyH.cons (o := _) rfl (fun K hK => ?_) AllReadyH.nil)
          have HFe := Lib.hid (HFl.out.alloc (.cells #[.int .i64 97, .int .i64 v] 31))
          have HOe := Lib.hid (one_lit2 wl 31 (.int .i64 97) (.int .i64 v))
          go_simp
          refine hK.out _ _ trivial (fun hHeld => ?_)
          clear hK K
          (try simp only [Act.put, List.setIfInBounds_toArray, List.set_cons_zero, List.set_cons_succ])
          generalize wl.alloc (.cells #[.int .i64 97, .int .i64 v] 31) = we at HFe HOe ⊢
          obtain ⟨BE, hBE⟩ : ∃ B, wl.heap.size = B := ⟨_, rfl⟩
          have HOf := HOe.out
          rw [hBE] at HOf ⊢
          have HOg := Lib.hid HOf
          have HBE := Lib.hid hBE
          clear hBE HOf HOe
          refine wpAnyH_ready (rs := [14]) (by kernel_rfl) (by simp) ?_
          refine (AllReadyH.cons (o := _) rfl (fun K hK => ?_) AllReadyH.nil)
          refine step_append_to wl BE (some ⟨BE, 0, none⟩) 1 1 [.int .i64 97, .int .i64 v] ax nx cx (pairsC (tE L k)) (1 + nx) ([.int .i64 97, .int .i64 v] ++ pairsC (tE L k)) (by omega) (by simp) rfl (.tmp 27) (.tmp 32) 27 (by rfl) (by rfl) (by rfl) Try.ulG9 Try.infoG9 rfl (by decide) HLX.out (pairsC_one _) (by unfold maxLen; omega) (by omega) HOg.out (HFe.out.edges hkm HA.out) ?_
          intro a4 c4 w7 h7 g7
          rw [← HBE.out] at h7
          have m9 := ((HFl.out.rows.later h7.below).cells hkm).2.2
          have f9 := (HFl.out.rows.later h7.below).frozen (k * 3 + 2)
          have HP := Lib.hid (HFl.out.put hkm (l := ((97 : Int), v) :: tE L k) h7 hgr2 (by omega))
          clear h7 g7
          (try dsimp only)
          refine hK.out _ _ trivial (fun hHeld => ?_)
          clear hK K
          (try simp only [Act.put, List.setIfInBounds_toArray])
          refine wpAnyH_take (i := 15) (v := .pointer (some ⟨g, k * 3, none⟩)) rfl (by kernel_rfl) (by kernel_rfl) (by kernel_rfl) (fun _ _ _ h => h) (Or.inl ⟨by kernel_rfl, fun w' hSw => ?_⟩) hHeld ?_
          · clear hSw; go_simp
          (try simp only [Act.put])
          refine wpAnyH_take (i := 16) (v := .pointer (some ⟨g, k * 3 + 2, none⟩)) rfl (by kernel_rfl) (by kernel_rfl) (by kernel_rfl) (fun _ _ _ h => h) (Or.inl ⟨by kernel_rfl, fun w' hSw => ?_⟩) hHeld ?_
          · clear hSw; go_simp
          (try simp only [Act.put])
          refine wpAnyH_ready (rs := [17]) (by kernel_rfl) (by simp) ?_
          refine (AllReadyH.cons (o := _) rfl (fun K hK => ?_) AllReadyH.nil)
          go_simp
          refine hK.out _ _ trivial (fun hHeld => ?_)
          clear hK K m9 f9
          (try simp only [Act.put, List.setIfInBounds_toArray, List.set_cons_zero, List.set_cons_succ])
          refine wpAnyH_done (by kernel_rfl) ?_ _
          have HEND := Lib.hid (fo_end HP.out HFE2.out)
          clear HP
          go_wp2
          go_meet
          exact HEND.out
    case rest =>
      clear HFO HLX HA
      obtain ⟨A6, F6, HF6⟩ := hcut
      obtain ⟨w6, rfl⟩ : ∃ w9, w9 = wc := ⟨_, rfl⟩
      go_wp2_with fail
      refine (pick_pos _ _ a n cap _ 20 (by omega) HF6.out.1.rd (by omega) (by omega)).mono ?_
      rintro e wa ⟨x, hx, rfl, hrda, hga⟩
      have HFa := Lib.hid (HF6.out.1.picked hrda hga hgr2 hwgr)
      clear hrda hga
      by_cases hx0 : x = 0
      · subst hx0
        have HFb := Lib.hid (HFa.out.alloc (.cells #[] 29))
        clear HFa
        go_wp2_with fail
        refine (short_any _ _ a n cap _ 4 (by omega) (by omega) HFb.out.rd).mono ?_
        rintro e wb ⟨t, ht, rfl, hrdb, hgb⟩
        have HFc := Lib.hid (HFb.out.picked hrdb hgb hgr2 hwgr)
        clear hrdb hgb HFb
        go_wp2
        (try simp only [Exit.inBlock, Exit.then]); refine bodyPost_ret (results_two7 rfl _ _ _) rfl ?_
        exact ⟨_, 0, 0, [], fun _ => (none, 0, 0), t, rfl, rfl, by omega, fun i hi => absurd hi (by simp), by omega, ⟨by simpa [stC] using cellsAt_nil _ _, fun i hi => absurd hi (by simp)⟩, HFc.out.below⟩
      · have tx : ((x : Int) == 0) = false := beq_eq_false_iff_ne.2 (by omega)
        go_wp2_with fail
        refine (short_any _ _ a n cap _ 4 (by omega) (by omega) HFa.out.rd).mono ?_
        rintro e wb ⟨t, ht, rfl, hrdb, hgb⟩
        have HFc := Lib.hid (HFa.out.picked hrdb hgb hgr2 hwgr)
        have HLE := Lib.hid (show ∀ i, i < (datG m (dOf L) F6).length → (dtA (datG m (dOf L) F6) i).2.2.length ≤ 300 from fun i hi => by
          rw [datG_len] at hi
          rw [datG_at hi]
          exact HF6.out.2 i hi)
        clear hrdb hgb HFa HF6
        go_wp2
        (try simp only [Exit.inBlock, Exit.then]); refine bodyPost_ret (results_two7 rfl _ _ _) rfl ?_
        exact ⟨_, m, c, datG m (dOf L) F6, A6, t, rfl, (datG_len _ _ _).symm, by omega, HLE.out, by omega, HFc.out.rows.atG, HFc.out.below⟩
  · have t0 : ((r : Int) == 0) = false := beq_eq_false_iff_ne.2 (by omega)
    have HF6 := Lib.hid (show FoAt w w4 lo g m c gr a n cap (0 + 1 + 9 + 1 + 1 + 1) (dOf L) A (tE L) ∧ ∀ i, i < m → (tE L i).length ≤ 300 from ⟨⟨hS4, hrd4.more (by omega), hB4⟩, fun i hi => Nat.le_trans (HFE.out i (by have := HM.out; omega)) (by decide)⟩)
    have hwgr : w.heap.size ≤ gr := by have := HGR.out; omega
    clear hS4 hrd4 hB4
    go_wp2_with fail
    refine (pick_pos _ _ a n cap _ 20 (by omega) HF6.out.1.rd (by omega) (by omega)).mono ?_
    rintro e wa ⟨x, hx, rfl, hrda, hga⟩
    have HFa := Lib.hid (HF6.out.1.picked hrda hga hgr2 hwgr)
    clear hrda hga
    by_cases hx0 : x = 0
    · subst hx0
      have HFb := Lib.hid (HFa.out.alloc (.cells #[] 29))
      clear HFa
      go_wp2_with fail
      refine (short_any _ _ a n cap _ 4 (by omega) (by omega) HFb.out.rd).mono ?_
      rintro e wb ⟨t, ht, rfl, hrdb, hgb⟩
      have HFc := Lib.hid (HFb.out.picked hrdb hgb hgr2 hwgr)
      clear hrdb hgb HFb
      go_wp2
      (try simp only [Exit.inBlock, Exit.then]); refine bodyPost_ret (results_two7 rfl _ _ _) rfl ?_
      exact ⟨_, 0, 0, [], fun _ => (none, 0, 0), t, rfl, rfl, by omega, fun i hi => absurd hi (by simp), by omega, ⟨by simpa [stC] using cellsAt_nil _ _, fun i hi => absurd hi (by simp)⟩, HFc.out.below⟩
    · have tx : ((x : Int) == 0) = false := beq_eq_false_iff_ne.2 (by omega)
      go_wp2_with fail
      refine (short_any _ _ a n cap _ 4 (by omega) (by omega) HFa.out.rd).mono ?_
      rintro e wb ⟨t, ht, rfl, hrdb, hgb⟩
      have HFc := Lib.hid (HFa.out.picked hrdb hgb hgr2 hwgr)
      have HLE := Lib.hid (show ∀ i, i < (datG m (dOf L) (tE L)).length → (dtA (datG m (dOf L) (tE L)) i).2.2.length ≤ 300 from fun i hi => by
        rw [datG_len] at hi
        rw [datG_at hi]
        exact HF6.out.2 i hi)
      clear hrdb hgb HFa HF6
      go_wp2
      (try simp only [Exit.inBlock, Exit.then]); refine bodyPost_ret (results_two7 rfl _ _ _) rfl ?_
      exact ⟨_, m, c, datG m (dOf L) (tE L), A, t, rfl, (datG_len _ _ _).symm, by omega, HLE.out, by omega, HFc.out.rows.atG, HFc.out.below⟩

end Go.Proofs.Ytehppjilnacjlaa
