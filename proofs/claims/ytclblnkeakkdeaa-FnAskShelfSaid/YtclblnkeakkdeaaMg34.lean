/-
  The contracts of the program's functions twinsByText and AskShelf. Conditions: texts have at most 2^20 bytes together, a shelf has at most 2^20 entries.
-/
import Derived.Test.YtclblnkeakkdeaaMg23
import Derived.Test.YtclblnkeakkdeaaMg30
import Derived.Test.YtclblnkeakkdeaaMg33
import Derived.Deep.RegionHeld3
namespace Go.Proofs.Ytclblnkeakkdeaa
open Go.RowKit

theorem Try.ulTT : Try.prog.underlying 119 = some (.slice 47) := by kernel_rfl
theorem Try.infoTT : (Try.prog.info? 47).map (fun i => (i.zero, i.size, i.bytes)) = some (some (.slice none 0 0), 1, 24) := by kernel_rfl
theorem Try.ulT8 : Try.prog.underlying 47 = some (.slice 101) := by kernel_rfl
theorem Try.infoT8 : (Try.prog.info? 101).map (fun i => (i.zero, i.size, i.bytes)) = some (some (.agg #[.int .i64 0, .int .i64 0]), 2, 16) := by kernel_rfl

theorem make_tw (w : World) (n : Nat) (hn : n ≤ 1048576) :
    ∃ w', (Instr.makeSlice 119 (.int .i64 (n : Int)) (.int .i64 (n : Int))).run Try.prog w = .ok (.slice (some ⟨w.heap.size, 0, none⟩) n n) w' ∧
      TwRows w w.heap.size w' w.heap.size n (fun _ => (none, 0, 0)) (fun _ => []) := by
  obtain ⟨i, hi, hz, hsi, hby⟩ := info_parts Try.infoTT
  obtain ⟨w', h1, h2, h3⟩ := run_make_full (P := Try.prog) w w.heap.size 119 47 i (.slice none 0 0) 1 Try.ulTT hi hz hsi .i64 .i64 n (by rw [hby]; omega) (by unfold maxLen; omega) (Nat.le_refl _)
  have hb : Below w.heap.size w w' := ⟨h3.os, h3.tape, h3.output, h3.size, fun k hk => h3.block k hk (by simp)⟩
  have h4 := One.whole (W := w) ⟨h2, h3.size, hb⟩
  refine ⟨w', h1, ?_, Nat.le_refl _, fun d _ => World.ownsRow_nil _ _ _ _, fun d e _ _ _ b hb => by simp [slV, Value.ownBlock] at hb, fun d _ => by simp [slV, Value.ownBlock], h3.size, hb⟩
  rw [h4]
  have e : (madeCells (Value.cells (.slice none 0 0)) (n * 1)).toList = rowsV n (fun _ => ((none, 0, 0) : Sl)) := by
    rw [Nat.mul_one]
    apply List.ext_getElem
    · simp [madeCells, rowsV]
    · intro k h1 h2
      have hk : k < n := by simpa [madeCells] using h1
      have hc : (Value.cells (.slice none 0 0)) = #[.slice none 0 0] := rfl
      simp [madeCells, rowsV, slV, hc, Nat.mod_one]
  rw [e]

/-- A block of the call's own beside rows of rows. -/
structure TwSide (w : World) (n : Nat) (A : Nat → Sl) (g : Nat) (e : TypeId) (b : Nat) (xs : List Value) : Prop where
  at_ : w.heap[b]? = some (.cells xs.toArray e (0, 0))
  ne : b ≠ g
  apart : ∀ d, d < n → (slV (A d)).ownBlock ≠ some b
theorem TwSide.lt {w : World} {n g b : Nat} {A : Nat → Sl} {e : TypeId} {xs : List Value} (h : TwSide w n A g e b xs) : b < w.heap.size := (Array.getElem?_eq_some_iff.1 h.at_).1
theorem TwSide.later {w w' : World} {n g b : Nat} {A : Nat → Sl} {e : TypeId} {xs : List Value} (h : TwSide w n A g e b xs) (hb : Below w.heap.size w w') : TwSide w' n A g e b xs := ⟨(hb.block b h.lt).trans h.at_, h.ne, h.apart⟩
theorem TwSide.cell {w : World} {n g b : Nat} {A : Nat → Sl} {e : TypeId} {xs : List Value} (h : TwSide w n A g e b xs) (j : Nat) (u : Value) (hj : xs[j]? = some u) : w.cell? ⟨b, j, none⟩ = some u := by
  rw [cell_of_row w b j _ e (0, 0) h.at_]
  simpa using hj
theorem TwSide.fresh {W : World} {B : Nat} {w : World} {g n : Nat} {A : Nat → Sl} {F : Nat → List (Int × Int)} (h : TwRows W B w g n A F) (e : TypeId) (xs : List Value) : TwSide (w.alloc (.cells xs.toArray e)) n A g e w.heap.size xs :=
  ⟨heap_alloc_new w _, fun e2 => by have := h.lt; omega, fun d hd hb => by have := ((h.inner d hd).lt _ hb).2; omega⟩
theorem TwSide.grown {w w' : World} {n g b d : Nat} {A : Nat → Sl} {e : TypeId} {xs : List Value} (h : TwSide w n A g e b xs) (hd : d < n) (hg : w.grownBy w' (slV (A d)).ownBlock) : w'.heap[b]? = some (.cells xs.toArray e (0, 0)) :=
  (hg.block b h.lt (fun e2 => h.apart d hd e2.symm)).trans h.at_
theorem TwSide.step {w w' : World} {n g b d : Nat} {A A' : Nat → Sl} {e : TypeId} {xs : List Value} (h : TwSide w n A g e b xs) (hd : d < n) (hg : w.grownBy w' (slV (A d)).ownBlock) (hs : Spared w (slV (A d)) (slV (A' d))) (hA : ∀ e, e < n → e ≠ d → A' e = A e) (v : Value) :
    TwSide (w'.setCell ⟨g, d, none⟩ v) n A' g e b xs := by
  refine ⟨(Below.heap_setCell _ _ _ _ h.ne).trans (h.grown hd hg), h.ne, fun f hf => ?_⟩
  by_cases hfd : f = d
  · subst hfd
    exact hs b h.lt (h.apart f hf)
  · rw [hA f hf hfd]
    exact h.apart f hf

set_option maxRecDepth 4000 in
set_option maxHeartbeats 16000000 in
theorem implTwins8_any (L : List En) (nD : Nat) (M : List (Int × Int)) (a : Option Addr) (nL cL : Nat) (b : Option Addr) (nM cM : Nat) (w : World) (hnL : nL = L.length) (hL9 : nL ≤ 1048576) (hcap : nL ≤ cL) (hu : UpI (prL L)) (h0 : ∀ x ∈ L, 0 ≤ x.2.1) (hnM : nM = M.length) (hM9 : nM ≤ 1048576) (hD9 : nD ≤ 1048576) (hatL : CellsAt w a (entsC L)) (hatM : CellsAt w b (pairsC M)) :
    Calls Try.prog 96 #[.slice a nL cL, .int .i64 (nD : Int), .slice b nM cM] w fun e w' => ∃ g A, e = .returned (.slice (some ⟨g, 0, none⟩) nD nD) ∧ TwRows w w.heap.size w' g nD A (fun d => twOf L M (d : Int)) := by
  have c1 := fun p w h => implEntries_any L p a nL cL w hnL (by omega) hcap hu h
  have HNL := Lib.hid hnL
  have HNM := Lib.hid hnM
  have HL := Lib.hid hatL
  have HM := Lib.hid hatM
  have H0 := Lib.hid h0
  obtain ⟨w1, hmk, hrows⟩ := make_tw w nD hD9
  obtain ⟨g, hg⟩ : ∃ g, w.heap.size = g := ⟨_, rfl⟩
  have HG := Lib.hid hg
  rw [hg] at hmk
  have HR := Lib.hid (show TwRows w w.heap.size w1 g nD (fun _ => (none, 0, 0)) (fun d => twOf L (M.take 0) (d : Int)) by
    rw [← hg]
    exact hrows.congr (fun d _ => by simp [twOf]))
  clear hnL hnM hatL hatM h0 hu hg hrows
  go_enter Try.func96, Try.ntmps96
  go_wp2
  clear hmk
  go_loopw [16] (fun q_ wr => ∃ (q : Nat) (A : Nat → Sl), q ≤ nM ∧ q_ = .int .i64 (q : Int) ∧ Hid (TwRows w w.heap.size wr g nD A (fun d => twOf L (M.take q) (d : Int)))) (fun q_ _ => nM - (intOf q_).toNat)
  case atStart => exact ⟨0, _, Nat.zero_le _, rfl, HR⟩
  case round =>
    clear HR
    obtain ⟨q, A, hq, rfl, HR⟩ := hrel
    by_cases hlt : q < nM
    · have hqM : q < M.length := by have := HNM.out; omega
      obtain ⟨p, hp⟩ : ∃ x, M[q].1 = x := ⟨_, rfl⟩
      obtain ⟨y, hy⟩ : ∃ x, M[q].2 = x := ⟨_, rfl⟩
      have hm : M[q] = (p, y) := by rw [← hp, ← hy]
      obtain ⟨mb, mo, rfl, hmb, hc⟩ := (HM.out.below HR.out.below).pair (fun e => by rw [e] at hqM; simp at hqM)
      obtain ⟨e1, e2⟩ := hc q hqM
      rw [hp] at e1
      rw [hy] at e2
      have z1 : (q : Int) < (nM : Int) := by omega
      have z0 : (0 : Int) ≤ (q : Int) := by omega
      obtain ⟨E, hE⟩ : ∃ E, withP L p = E := ⟨_, rfl⟩
      have HEND := Lib.hid (fun d => twF_end (L := L) hqM hm hE d)
      have HEL := Lib.hid (show E.length ≤ L.length by rw [← hE]; exact withP_len L p)
      have HE0 := Lib.hid (show ∀ x ∈ E, 0 ≤ x.2.1 from fun x hx => by rw [← hE, withP, List.mem_filter] at hx; exact H0.out x hx.1)
      have HQM := Lib.hid hqM
      have d1 := c1 p
      rw [show (L.filter fun x => x.1 == p) = E from hE] at d1
      have ha := (Below.refl wr.heap.size wr).alloc (Nat.le_refl _) (.cells #[.int .i64 p, .int .i64 y] 46)
      have HS5 := Lib.hid (TwSide.fresh HR.out 46 [.int .i64 p, .int .i64 y])
      have HR5 := Lib.hid ((HR.out.later ha).congr (F' := fun d => twF L M q E y 0 d) (fun d _ => twF_start L M q E y d))
      have HLA := Lib.hid (HL.out.below HR5.out.below)
      clear hp hy hm hc hE HR ha
      go_wp2_with fail
      refine (d1 _ HLA.out).mono ?_
      rintro e w6 ⟨a2, qn, f, rfl, hqn, hqnL, hqf, hc2, rfl⟩
      have HQN := Lib.hid hqn
      have HC2 := Lib.hid hc2
      clear hqn hc2 d1 hqf
      obtain ⟨w5, hw5⟩ : ∃ w9, wr.alloc (.cells #[.int .i64 p, .int .i64 y] 46) = w9 := ⟨_, rfl⟩
      obtain ⟨gt, hgt⟩ : ∃ g, wr.heap.size = g := ⟨_, rfl⟩
      rw [show (wr.alloc (.cells [Value.int .i64 p, .int .i64 y].toArray 46)) = w5 from hw5, hgt] at HS5
      rw [hw5] at HR5
      rw [hw5, hgt]
      clear HLA hw5 hgt
      go_wp2
      go_loopw [25] (fun e_ wr => ∃ (e : Nat) (A : Nat → Sl), e ≤ qn ∧ e_ = .int .i64 (e : Int) ∧ Hid (TwRows w w.heap.size wr g nD A (fun d => twF L M q E y e d)) ∧ Hid (TwSide wr nD A g 46 gt [.int .i64 p, .int .i64 y])) (fun e_ _ => qn - (intOf e_).toNat)
      case atStart => exact ⟨0, A, Nat.zero_le _, rfl, HR5, HS5⟩
      case round =>
        clear HR5 HS5
        obtain ⟨e, A, he, rfl, HR, HS⟩ := hrel
        by_cases hle : e < qn
        · have heE : e < E.length := by have := HQN.out; omega
          obtain ⟨x1, hx1⟩ : ∃ x, E[e].1 = x := ⟨_, rfl⟩
          obtain ⟨x2, hx2⟩ : ∃ x, E[e].2.1 = x := ⟨_, rfl⟩
          obtain ⟨x3, hx3⟩ : ∃ x, E[e].2.2 = x := ⟨_, rfl⟩
          have hx : E[e] = (x1, x2, x3) := by rw [← hx1, ← hx2, ← hx3]
          obtain ⟨eb, eo, rfl, heb, k1, k2, k3⟩ := ent_cells (HC2.out _ (HL.out.below HR.out.below)) heE hx
          have h20 : 0 ≤ x2 := by rw [← hx2]; exact HE0.out _ (List.getElem_mem heE)
          have u1 : (e : Int) < (qn : Int) := by omega
          have u0 : (0 : Int) ≤ (e : Int) := by omega
          have ha := (Below.refl wr.heap.size wr).alloc (Nat.le_refl _) (.cells #[.int .i64 x1, .int .i64 x2, .int .i64 x3] 31)
          have hno := fun (d : Nat) (hd : x2 ≠ (d : Int)) => twF_no (L := L) (M := M) (q := q) (y := y) heE hx hd
          have hyes := fun (d : Nat) (hd : x2 = (d : Int)) => twF_yes (L := L) (M := M) (q := q) (y := y) heE hx hd
          have HFL := Lib.hid (fun d => twF_len (L := L) (y := y) (e := e) (d := d) HQM.out HEL.out)
          have HR6 := Lib.hid (HR.out.later ha)
          have HS6 := Lib.hid (HS.out.later ha)
          have HT6 := Lib.hid (TwSide.fresh HR.out 31 [.int .i64 x1, .int .i64 x2, .int .i64 x3])
          clear hx1 hx2 hx3 hx HR HS
          by_cases hxd : x2 < (nD : Int)
          · obtain ⟨d, rfl⟩ : ∃ d : Nat, x2 = (d : Int) := ⟨x2.toNat, by omega⟩
            have hdn : d < nD := by omega
            have t1 : decide ((d : Int) < (nD : Int)) = true := decide_eq_true hxd
            have t2 : decide (d < nD) = true := decide_eq_true hdn
            have HYES := Lib.hid (hyes d rfl)
            have HNO := Lib.hid (fun f (hf : f ≠ d) => hno f (by omega))
            clear hyes hno
            obtain ⟨ad, nd, cd, hAd⟩ : ∃ a n c, A d = (a, n, c) := ⟨_, _, _, rfl⟩
            have hsl : slV (A d) = .slice ad nd cd := by rw [hAd]; rfl
            obtain ⟨w6, hw6⟩ : ∃ w9, wr.alloc (.cells #[.int .i64 x1, .int .i64 (d : Int), .int .i64 x3] 31) = w9 := ⟨_, rfl⟩
            obtain ⟨ge, hge⟩ : ∃ g, wr.heap.size = g := ⟨_, rfl⟩
            rw [show (wr.alloc (.cells [Value.int .i64 x1, Value.int .i64 (d : Int), Value.int .i64 x3].toArray 31)) = w6 from hw6, hge] at HT6
            rw [hw6] at HR6 HS6
            have k0 := HT6.out.cell 1 (.int .i64 (d : Int)) rfl
            have k9 := HT6.out.cell 2 (.int .i64 x3) rfl
            have ky := HS6.out.cell 1 (.int .i64 y) rfl
            have kd := HR6.out.cell hdn
            rw [hsl] at kd
            have hbz := ((Below.refl w6.heap.size w6).alloc (Nat.le_refl _) (.cells #[.int .i64 x3, .int .i64 y] 101)).drew
            have HRZ := Lib.hid (HR6.out.later hbz)
            have HSZ := Lib.hid (HS6.out.later hbz)
            have HTZ := Lib.hid (HT6.out.later hbz)
            have hnd : nd + 1 ≤ 1099511627777 := by
              have h1 := pairs_len (HR6.out.one hdn).own
              rw [hAd] at h1
              have h2 := HFL.out d
              have h3 : M.length * L.length ≤ 1048576 * 1048576 := Nat.mul_le_mul (by have := HNM.out; omega) (by have := HNL.out; omega)
              simp only at h1
              omega
            have kd2 : ((w6.alloc (.cells #[.int .i64 x3, .int .i64 y] 101)).drew).cell? ⟨g, d, none⟩ = some (.slice ad nd cd) := by
              have h := HRZ.out.cell hdn
              rw [hsl] at h
              exact h
            have kd3 : (w6.alloc (.cells #[.int .i64 x3, .int .i64 y] 101)).cell? ⟨g, d, none⟩ = some (.slice ad nd cd) := kd2
            have HOZ := Lib.hid (show One w w.heap.size ((w6.alloc (.cells #[.int .i64 x3, .int .i64 y] 101)).drew) 101 2 ad nd cd (pairsC (twF L M q E y e d)) by
              have h := HRZ.out.one hdn
              rw [hAd] at h
              exact h)
            have HSA := Lib.hid (show ((w6.alloc (.cells #[.int .i64 x3, .int .i64 y] 101)).drew).cell? ⟨ge, 1, none⟩ = some (.int .i64 (d : Int)) ∧ ((w6.alloc (.cells #[.int .i64 x3, .int .i64 y] 101)).drew).cell? ⟨ge, 2, none⟩ = some (.int .i64 x3) ∧ ((w6.alloc (.cells #[.int .i64 x3, .int .i64 y] 101)).drew).cell? ⟨gt, 1, none⟩ = some (.int .i64 y) from
              ⟨HTZ.out.cell 1 _ rfl, HTZ.out.cell 2 _ rfl, HSZ.out.cell 1 _ rfl⟩)
            have HS3 := Lib.hid (show ∀ w', ((w6.alloc (.cells #[.int .i64 x3, .int .i64 y] 101)).drew).grownBy w' (Value.ownBlock (.slice ad nd cd)) → w'.cell? ⟨ge, 1, none⟩ = some (.int .i64 (d : Int)) ∧ w'.cell? ⟨ge, 2, none⟩ = some (.int .i64 x3) ∧ w'.cell? ⟨gt, 1, none⟩ = some (.int .i64 y) from fun w' hg => by
              rw [← hsl] at hg
              refine ⟨?_, ?_, ?_⟩
              · rw [cell_of_row w' ge 1 _ _ (0, 0) (HTZ.out.grown hdn hg)]; rfl
              · rw [cell_of_row w' ge 2 _ _ (0, 0) (HTZ.out.grown hdn hg)]; rfl
              · rw [cell_of_row w' gt 1 _ _ (0, 0) (HSZ.out.grown hdn hg)]; rfl)
            have HS4 := Lib.hid (show ∀ w' v, ((w6.alloc (.cells #[.int .i64 x3, .int .i64 y] 101)).drew).grownBy w' (Value.ownBlock (.slice ad nd cd)) → (w'.setCell ⟨g, d, none⟩ v).cell? ⟨ge, 1, none⟩ = some (.int .i64 (d : Int)) ∧ (w'.setCell ⟨g, d, none⟩ v).cell? ⟨ge, 2, none⟩ = some (.int .i64 x3) ∧ (w'.setCell ⟨g, d, none⟩ v).cell? ⟨gt, 1, none⟩ = some (.int .i64 y) from fun w' v hg => by
              rw [← hsl] at hg
              refine ⟨?_, ?_, ?_⟩
              · rw [cell_of_row _ ge 1 _ _ (0, 0) ((Below.heap_setCell _ _ _ _ HTZ.out.ne).trans (HTZ.out.grown hdn hg))]; rfl
              · rw [cell_of_row _ ge 2 _ _ (0, 0) ((Below.heap_setCell _ _ _ _ HTZ.out.ne).trans (HTZ.out.grown hdn hg))]; rfl
              · rw [cell_of_row _ gt 1 _ _ (0, 0) ((Below.heap_setCell _ _ _ _ HSZ.out.ne).trans (HSZ.out.grown hdn hg))]; rfl)
            have HFZ := Lib.hid (show ∀ w', ((w6.alloc (.cells #[.int .i64 x3, .int .i64 y] 101)).drew).grownBy w' (Value.ownBlock (.slice ad nd cd)) → w'.frozen? ⟨g, d, none⟩ = false ∧ w'.cell? ⟨g, d, none⟩ = some (.slice ad nd cd) from fun w' hg => by
              rw [← hsl] at hg
              have h0 := (hg.block g HRZ.out.lt (fun e2 => HRZ.out.apart0 d hdn e2.symm)).trans HRZ.out.outer
              refine ⟨by simp [World.frozen?, h0], ?_⟩
              rw [cell_of_row w' g d _ _ (0, 0) h0]
              have h1 := rowsV_get (A := A) hdn
              rw [hsl] at h1
              simpa using h1)
            have HFIN := Lib.hid (show ∀ a3 c3 w3, One w w.heap.size w3 101 2 a3 (nd + 1) c3 (pairsC (twF L M q E y e d) ++ [.int .i64 x3, .int .i64 y]) → ((w6.alloc (.cells #[.int .i64 x3, .int .i64 y] 101)).drew).grownBy w3 (Value.ownBlock (.slice ad nd cd)) → Spared ((w6.alloc (.cells #[.int .i64 x3, .int .i64 y] 101)).drew) (.slice ad nd cd) (.slice a3 (nd + 1) c3) →
                ∃ A', Hid (TwRows w w.heap.size (w3.setCell ⟨g, d, none⟩ (.slice a3 (nd + 1) c3)) g nD A' (fun f => twF L M q E y (e + 1) f)) ∧ Hid (TwSide (w3.setCell ⟨g, d, none⟩ (.slice a3 (nd + 1) c3)) nD A' g 46 gt [.int .i64 p, .int .i64 y]) from fun a3 c3 w3 h3 g3 s3 => by
              obtain ⟨A', h1, h2⟩ : ∃ A' : Nat → Sl, A' d = (a3, nd + 1, c3) ∧ ∀ f, f ≠ d → A' f = A f := ⟨fun f => if f = d then (a3, nd + 1, c3) else A f, by simp, fun f hf => by simp [hf]⟩
              have hs2 : slV (A' d) = .slice a3 (nd + 1) c3 := by rw [h1]; rfl
              rw [← hsl] at g3 s3
              rw [← hs2] at s3
              refine ⟨A', Lib.hid ?_, Lib.hid ?_⟩
              · have h := HRZ.out.step (A' := A') (F' := fun f => twF L M q E y (e + 1) f) hdn (by
                  rw [hs2, h1]
                  simp only [HYES.out, pairsC_append]
                  exact h3.own) g3 s3 (fun f _ hf => h2 f hf) (fun f _ hf => HNO.out f hf)
                rwa [hs2] at h
              · exact HSZ.out.step hdn g3 s3 (fun f _ hf => h2 f hf) _)
            clear ha hbz HTZ HSZ HRZ HR6 HS6 HT6 HYES HNO HFL hxd hAd hsl
            go_wp2
            clear hw6 hge
            refine wp_region_held_drew (S := fun w' => w'.cell? ⟨ge, 1, none⟩ = some (.int .i64 (d : Int)) ∧ w'.cell? ⟨ge, 2, none⟩ = some (.int .i64 x3) ∧ w'.cell? ⟨gt, 1, none⟩ = some (.int .i64 y)) (by kernel_rfl) ⟨k0, k9, ky⟩ (fun hHeld => ?_)
            have kd1 : w6.drew.cell? ⟨g, d, none⟩ = some (.slice ad nd cd) := kd
            refine wpAnyH_take (i := 0) (oi := { dst := some 33, op := Op.move (Operand.tmp 7), type := 119, pos := "l8_found.go:90", after := #[], guard := none }) (v := ?_) rfl (by kernel_rfl) (by kernel_rfl) (by kernel_rfl) (fun _ _ _ h => h) (Or.inl ⟨by rfl, ?_⟩) (by assumption) ?_
            rotate_left
            · (intro w' hSw; (try dsimp only at hSw); first | (go_simp; done) | (go_simp; with_reducible rfl) | (with_reducible rfl))
            try simp only [Act.put, List.setIfInBounds_toArray, List.set_cons_zero, List.set_cons_succ]
            refine wpAnyH_take (i := 1) (oi := { dst := some 34, op := Op.fieldAddr 31 (Operand.tmp 11) 1, type := 0, pos := "l8_found.go:90", after := #[], guard := none }) (v := ?_) rfl (by kernel_rfl) (by kernel_rfl) (by kernel_rfl) (fun _ _ _ h => h) (Or.inl ⟨by rfl, ?_⟩) (by assumption) ?_
            rotate_left
            · (intro w' hSw; (try dsimp only at hSw); first | (go_simp; done) | (go_simp; with_reducible rfl) | (with_reducible rfl))
            try simp only [Act.put, List.setIfInBounds_toArray, List.set_cons_zero, List.set_cons_succ]
            refine wpAnyH_take (i := 2) (oi := { dst := some 35, op := Op.load 3 (Operand.tmp 34), type := 3, pos := "l8_found.go:90", after := #[{ on := 1, ground := Ground.data }], guard := none }) (v := ?_) rfl (by kernel_rfl) (by kernel_rfl) (by kernel_rfl) (fun _ _ _ h => h) (Or.inl ⟨by rfl, ?_⟩) (by assumption) ?_
            rotate_left
            · (intro w' hSw; (try dsimp only at hSw); first | (go_simp; done) | (go_simp; with_reducible rfl) | (with_reducible rfl))
            try simp only [Act.put, List.setIfInBounds_toArray, List.set_cons_zero, List.set_cons_succ]
            refine wpAnyH_take (i := 3) (oi := { dst := some 36, op := Op.move (Operand.tmp 7), type := 119, pos := "l8_found.go:90", after := #[], guard := none }) (v := ?_) rfl (by kernel_rfl) (by kernel_rfl) (by kernel_rfl) (fun _ _ _ h => h) (Or.inl ⟨by rfl, ?_⟩) (by assumption) ?_
            rotate_left
            · (intro w' hSw; (try dsimp only at hSw); first | (go_simp; done) | (go_simp; with_reducible rfl) | (with_reducible rfl))
            try simp only [Act.put, List.setIfInBounds_toArray, List.set_cons_zero, List.set_cons_succ]
            refine wpAnyH_take (i := 4) (oi := { dst := some 37, op := Op.fieldAddr 31 (Operand.tmp 11) 1, type := 0, pos := "l8_found.go:90", after := #[], guard := none }) (v := ?_) rfl (by kernel_rfl) (by kernel_rfl) (by kernel_rfl) (fun _ _ _ h => h) (Or.inl ⟨by rfl, ?_⟩) (by assumption) ?_
            rotate_left
            · (intro w' hSw; (try dsimp only at hSw); first | (go_simp; done) | (go_simp; with_reducible rfl) | (with_reducible rfl))
            try simp only [Act.put, List.setIfInBounds_toArray, List.set_cons_zero, List.set_cons_succ]
            refine wpAnyH_take (i := 5) (oi := { dst := some 38, op := Op.load 3 (Operand.tmp 37), type := 3, pos := "l8_found.go:90", after := #[{ on := 4, ground := Ground.data }], guard := none }) (v := ?_) rfl (by kernel_rfl) (by kernel_rfl) (by kernel_rfl) (fun _ _ _ h => h) (Or.inl ⟨by rfl, ?_⟩) (by assumption) ?_
            rotate_left
            · (intro w' hSw; (try dsimp only at hSw); first | (go_simp; done) | (go_simp; with_reducible rfl) | (with_reducible rfl))
            try simp only [Act.put, List.setIfInBounds_toArray, List.set_cons_zero, List.set_cons_succ]
            refine wpAnyH_take (i := 6) (oi := { dst := some 39, op := Op.indexAddr 119 (Operand.tmp 36) (Operand.tmp 38), type := 0, pos := "l8_found.go:90", after := #[{ on := 3, ground := Ground.data }, { on := 5, ground := Ground.data }], guard := none }) (v := ?_) rfl (by kernel_rfl) (by kernel_rfl) (by kernel_rfl) (fun _ _ _ h => h) (Or.inl ⟨by rfl, ?_⟩) (by assumption) ?_
            rotate_left
            · (intro w' hSw; (try dsimp only at hSw); first | (go_simp; done) | (go_simp; with_reducible rfl) | (with_reducible rfl))
            try simp only [Act.put, List.setIfInBounds_toArray, List.set_cons_zero, List.set_cons_succ]
            refine wpAnyH_take (i := 8) (oi := { dst := some 41, op := Op.fieldAddr 31 (Operand.tmp 11) 2, type := 0, pos := "l8_found.go:90", after := #[], guard := none }) (v := ?_) rfl (by kernel_rfl) (by kernel_rfl) (by kernel_rfl) (fun _ _ _ h => h) (Or.inl ⟨by rfl, ?_⟩) (by assumption) ?_
            rotate_left
            · (intro w' hSw; (try dsimp only at hSw); first | (go_simp; done) | (go_simp; with_reducible rfl) | (with_reducible rfl))
            try simp only [Act.put, List.setIfInBounds_toArray, List.set_cons_zero, List.set_cons_succ]
            refine wpAnyH_take (i := 9) (oi := { dst := some 42, op := Op.load 3 (Operand.tmp 41), type := 3, pos := "l8_found.go:90", after := #[{ on := 8, ground := Ground.data }], guard := none }) (v := ?_) rfl (by kernel_rfl) (by kernel_rfl) (by kernel_rfl) (fun _ _ _ h => h) (Or.inl ⟨by rfl, ?_⟩) (by assumption) ?_
            rotate_left
            · (intro w' hSw; (try dsimp only at hSw); first | (go_simp; done) | (go_simp; with_reducible rfl) | (with_reducible rfl))
            try simp only [Act.put, List.setIfInBounds_toArray, List.set_cons_zero, List.set_cons_succ]
            refine wpAnyH_take (i := 10) (oi := { dst := some 43, op := Op.fieldAddr 46 (Operand.tmp 9) 1, type := 0, pos := "l8_found.go:90", after := #[], guard := none }) (v := ?_) rfl (by kernel_rfl) (by kernel_rfl) (by kernel_rfl) (fun _ _ _ h => h) (Or.inl ⟨by rfl, ?_⟩) (by assumption) ?_
            rotate_left
            · (intro w' hSw; (try dsimp only at hSw); first | (go_simp; done) | (go_simp; with_reducible rfl) | (with_reducible rfl))
            try simp only [Act.put, List.setIfInBounds_toArray, List.set_cons_zero, List.set_cons_succ]
            refine wpAnyH_take (i := 11) (oi := { dst := some 44, op := Op.load 3 (Operand.tmp 43), type := 3, pos := "l8_found.go:90", after := #[{ on := 10, ground := Ground.data }], guard := none }) (v := ?_) rfl (by kernel_rfl) (by kernel_rfl) (by kernel_rfl) (fun _ _ _ h => h) (Or.inl ⟨by rfl, ?_⟩) (by assumption) ?_
            rotate_left
            · (intro w' hSw; (try dsimp only at hSw); first | (go_simp; done) | (go_simp; with_reducible rfl) | (with_reducible rfl))
            try simp only [Act.put, List.setIfInBounds_toArray, List.set_cons_zero, List.set_cons_succ]
            refine wpAnyH_take (i := 12) (oi := { dst := some 45, op := Op.build 101 #[(0, Operand.tmp 42), (1, Operand.tmp 44)], type := 101, pos := "l8_found.go:90", after := #[{ on := 9, ground := Ground.data }, { on := 11, ground := Ground.data }], guard := none }) (v := ?_) rfl (by kernel_rfl) (by kernel_rfl) (by kernel_rfl) (fun _ _ _ h => h) (Or.inl ⟨by rfl, ?_⟩) (by assumption) ?_
            rotate_left
            · (intro w' hSw; (try dsimp only at hSw); first | (go_simp; done) | (go_simp; with_reducible rfl) | (with_reducible rfl))
            try simp only [Act.put, List.setIfInBounds_toArray, List.set_cons_zero, List.set_cons_succ]
            refine wpAnyH_ready (rs := [7, 13]) (by kernel_rfl) (by simp) (AllReadyH.cons (o := { dst := some 40, op := Op.load 47 (Operand.tmp 39), type := 47, pos := "l8_found.go:90", after := #[{ on := 6, ground := Ground.data }], guard := none }) rfl (fun K hK => ?_) (AllReadyH.cons (o := { dst := some 46, op := Op.buildSlice 47 1 #[(0, Operand.tmp 45)], type := 47, pos := "l8_found.go:90", after := #[{ on := 12, ground := Ground.data }], guard := none }) rfl (fun K hK => ?_) AllReadyH.nil))
            · go_simp
              refine hK.out _ _ ⟨k0, k9, ky⟩ (fun hHeld => ?_)
              clear hK K
              try simp only [Act.put, List.setIfInBounds_toArray, List.set_cons_zero, List.set_cons_succ]
              refine wpAnyH_ready (rs := [13]) (by kernel_rfl) (by simp) (AllReadyH.cons (o := { dst := some 46, op := Op.buildSlice 47 1 #[(0, Operand.tmp 45)], type := 47, pos := "l8_found.go:90", after := #[{ on := 12, ground := Ground.data }], guard := none }) rfl (fun K hK => ?_) AllReadyH.nil)
              go_simp
              refine hK.out _ _ HSA.out (fun hHeld => ?_)
              clear hK K
              try simp only [Act.put, List.setIfInBounds_toArray, List.set_cons_zero, List.set_cons_succ]
              refine wpAnyH_ready (rs := [14]) (by kernel_rfl) (by simp) (AllReadyH.cons (o := { dst := some 47, op := Op.call { callee := Callee.builtin Builtin.append, args := #[Operand.tmp 40, Operand.tmp 46], argTypes := #[47, 47] }, type := 47, pos := "l8_found.go:90", after := #[{ on := 7, ground := Ground.data }, { on := 13, ground := Ground.data }], guard := none }) rfl (fun K hK => ?_) AllReadyH.nil)
              (refine step_append_sp w w.heap.size ad nd cd (pairsC (twF L M q E y e d)) (some ⟨w6.heap.size, 0, none⟩) 1 1 [.int .i64 x3, .int .i64 y] (by rfl) (.tmp 40) (.tmp 46) 47 (by rfl) (by rfl) (by rfl) Try.ulT8 Try.infoT8 rfl (by decide) (by rfl) (by simp [Value.oneCell']) (by decide) (by unfold maxLen; omega) (by omega) HOZ.out (cellsAt_lit w6 101 #[.int .i64 x3, .int .i64 y] w6.heap.size rfl).drewW ?_; intro a3 c3 w3 h3 g3 s3; obtain ⟨r1, r2⟩ := HFZ.out w3 g3)
              refine hK.out _ _ (HS3.out _ g3) (fun hHeld => ?_)
              clear hK K
              try simp only [Act.put, List.setIfInBounds_toArray, List.set_cons_zero, List.set_cons_succ]
              refine wpAnyH_take (i := 15) (oi := { dst := some 48, op := Op.indexAddr 119 (Operand.tmp 33) (Operand.tmp 35), type := 0, pos := "l8_found.go:90", after := #[{ on := 0, ground := Ground.data }, { on := 2, ground := Ground.data }, { on := 0, ground := Ground.phase }, { on := 1, ground := Ground.phase }, { on := 2, ground := Ground.phase }, { on := 3, ground := Ground.phase }, { on := 4, ground := Ground.phase }, { on := 5, ground := Ground.phase }, { on := 6, ground := Ground.phase }, { on := 7, ground := Ground.phase }, { on := 8, ground := Ground.phase }, { on := 9, ground := Ground.phase }, { on := 10, ground := Ground.phase }, { on := 11, ground := Ground.phase }, { on := 12, ground := Ground.phase }, { on := 13, ground := Ground.phase }, { on := 14, ground := Ground.phase }], guard := none }) (v := ?_) rfl (by kernel_rfl) (by kernel_rfl) (by kernel_rfl) (fun _ _ _ h => h) (Or.inl ⟨by rfl, ?_⟩) (by assumption) ?_
              rotate_left
              · (intro w' hSw; (try dsimp only at hSw); first | (go_simp; done) | (go_simp; with_reducible rfl) | (with_reducible rfl))
              try simp only [Act.put, List.setIfInBounds_toArray, List.set_cons_zero, List.set_cons_succ]
              refine wpAnyH_ready (rs := [16]) (by kernel_rfl) (by simp) (AllReadyH.cons (o := { dst := none, op := Op.store 47 (Operand.tmp 48) (Operand.tmp 47), type := 0, pos := "l8_found.go:90", after := #[{ on := 15, ground := Ground.data }, { on := 14, ground := Ground.data }, { on := 14, ground := Ground.chain }, { on := 0, ground := Ground.phase }, { on := 1, ground := Ground.phase }, { on := 2, ground := Ground.phase }, { on := 3, ground := Ground.phase }, { on := 4, ground := Ground.phase }, { on := 5, ground := Ground.phase }, { on := 6, ground := Ground.phase }, { on := 7, ground := Ground.phase }, { on := 8, ground := Ground.phase }, { on := 9, ground := Ground.phase }, { on := 10, ground := Ground.phase }, { on := 11, ground := Ground.phase }, { on := 12, ground := Ground.phase }, { on := 13, ground := Ground.phase }, { on := 14, ground := Ground.phase }], guard := none }) rfl (fun K hK => ?_) AllReadyH.nil)
              go_simp
              refine hK.out _ _ (HS4.out _ _ g3) (fun hHeld => ?_)
              clear hK K
              try simp only [Act.put, List.setIfInBounds_toArray, List.set_cons_zero, List.set_cons_succ]
              refine wpAnyH_done (by kernel_rfl) ?_ _
              go_wp2
              go_roundw
              case rel =>
                obtain ⟨A', h1, h2⟩ := HFIN.out a3 c3 w3 h3 g3 s3
                exact ⟨e + 1, A', by omega, by go_num, h1, h2⟩
              case measure => simp [intOf]; omega
            · go_simp
              refine hK.out _ _ HSA.out (fun hHeld => ?_)
              clear hK K
              try simp only [Act.put, List.setIfInBounds_toArray, List.set_cons_zero, List.set_cons_succ]
              refine wpAnyH_ready (rs := [7]) (by kernel_rfl) (by simp) (AllReadyH.cons (o := { dst := some 40, op := Op.load 47 (Operand.tmp 39), type := 47, pos := "l8_found.go:90", after := #[{ on := 6, ground := Ground.data }], guard := none }) rfl (fun K hK => ?_) AllReadyH.nil)
              go_simp
              refine hK.out _ _ HSA.out (fun hHeld => ?_)
              clear hK K
              try simp only [Act.put, List.setIfInBounds_toArray, List.set_cons_zero, List.set_cons_succ]
              refine wpAnyH_ready (rs := [14]) (by kernel_rfl) (by simp) (AllReadyH.cons (o := { dst := some 47, op := Op.call { callee := Callee.builtin Builtin.append, args := #[Operand.tmp 40, Operand.tmp 46], argTypes := #[47, 47] }, type := 47, pos := "l8_found.go:90", after := #[{ on := 7, ground := Ground.data }, { on := 13, ground := Ground.data }], guard := none }) rfl (fun K hK => ?_) AllReadyH.nil)
              (refine step_append_sp w w.heap.size ad nd cd (pairsC (twF L M q E y e d)) (some ⟨w6.heap.size, 0, none⟩) 1 1 [.int .i64 x3, .int .i64 y] (by rfl) (.tmp 40) (.tmp 46) 47 (by rfl) (by rfl) (by rfl) Try.ulT8 Try.infoT8 rfl (by decide) (by rfl) (by simp [Value.oneCell']) (by decide) (by unfold maxLen; omega) (by omega) HOZ.out (cellsAt_lit w6 101 #[.int .i64 x3, .int .i64 y] w6.heap.size rfl).drewW ?_; intro a3 c3 w3 h3 g3 s3; obtain ⟨r1, r2⟩ := HFZ.out w3 g3)
              refine hK.out _ _ (HS3.out _ g3) (fun hHeld => ?_)
              clear hK K
              try simp only [Act.put, List.setIfInBounds_toArray, List.set_cons_zero, List.set_cons_succ]
              refine wpAnyH_take (i := 15) (oi := { dst := some 48, op := Op.indexAddr 119 (Operand.tmp 33) (Operand.tmp 35), type := 0, pos := "l8_found.go:90", after := #[{ on := 0, ground := Ground.data }, { on := 2, ground := Ground.data }, { on := 0, ground := Ground.phase }, { on := 1, ground := Ground.phase }, { on := 2, ground := Ground.phase }, { on := 3, ground := Ground.phase }, { on := 4, ground := Ground.phase }, { on := 5, ground := Ground.phase }, { on := 6, ground := Ground.phase }, { on := 7, ground := Ground.phase }, { on := 8, ground := Ground.phase }, { on := 9, ground := Ground.phase }, { on := 10, ground := Ground.phase }, { on := 11, ground := Ground.phase }, { on := 12, ground := Ground.phase }, { on := 13, ground := Ground.phase }, { on := 14, ground := Ground.phase }], guard := none }) (v := ?_) rfl (by kernel_rfl) (by kernel_rfl) (by kernel_rfl) (fun _ _ _ h => h) (Or.inl ⟨by rfl, ?_⟩) (by assumption) ?_
              rotate_left
              · (intro w' hSw; (try dsimp only at hSw); first | (go_simp; done) | (go_simp; with_reducible rfl) | (with_reducible rfl))
              try simp only [Act.put, List.setIfInBounds_toArray, List.set_cons_zero, List.set_cons_succ]
              refine wpAnyH_ready (rs := [16]) (by kernel_rfl) (by simp) (AllReadyH.cons (o := { dst := none, op := Op.store 47 (Operand.tmp 48) (Operand.tmp 47), type := 0, pos := "l8_found.go:90", after := #[{ on := 15, ground := Ground.data }, { on := 14, ground := Ground.data }, { on := 14, ground := Ground.chain }, { on := 0, ground := Ground.phase }, { on := 1, ground := Ground.phase }, { on := 2, ground := Ground.phase }, { on := 3, ground := Ground.phase }, { on := 4, ground := Ground.phase }, { on := 5, ground := Ground.phase }, { on := 6, ground := Ground.phase }, { on := 7, ground := Ground.phase }, { on := 8, ground := Ground.phase }, { on := 9, ground := Ground.phase }, { on := 10, ground := Ground.phase }, { on := 11, ground := Ground.phase }, { on := 12, ground := Ground.phase }, { on := 13, ground := Ground.phase }, { on := 14, ground := Ground.phase }], guard := none }) rfl (fun K hK => ?_) AllReadyH.nil)
              go_simp
              refine hK.out _ _ (HS4.out _ _ g3) (fun hHeld => ?_)
              clear hK K
              try simp only [Act.put, List.setIfInBounds_toArray, List.set_cons_zero, List.set_cons_succ]
              refine wpAnyH_done (by kernel_rfl) ?_ _
              go_wp2
              go_roundw
              case rel =>
                obtain ⟨A', h1, h2⟩ := HFIN.out a3 c3 w3 h3 g3 s3
                exact ⟨e + 1, A', by omega, by go_num, h1, h2⟩
              case measure => simp [intOf]; omega
          · have t1 : decide (x2 < (nD : Int)) = false := decide_eq_false hxd
            have HR7 := Lib.hid (HR6.out.congr (F' := fun d => twF L M q E y (e + 1) d) (fun d hd => hno d (by omega)))
            clear hno hyes HR6 ha HT6 hxd
            go_wp2
            go_roundw
            case rel => exact ⟨e + 1, A, by omega, by go_num, HR7, HS6⟩
            case measure => simp [intOf]; omega
        · have heq : e = E.length := by have := HQN.out; omega
          have HR8 := Lib.hid (show TwRows w w.heap.size wr g nD A (fun d => twOf L (M.take (q + 1)) (d : Int)) by
            have h := HR.out
            rw [heq] at h
            exact h.congr (fun d _ => (HEND.out d).symm))
          clear heq HR
          go_wp2
          go_roundw
          case rel => exact ⟨q + 1, A, by omega, by go_num, HR8⟩
          case measure => simp [intOf]; omega
    · have HE := Lib.hid (show M.take q = M from List.take_of_length_le (by have := HNM.out; omega))
      have HR8 := Lib.hid (show TwRows w w.heap.size wr g nD A (fun d => twOf L M (d : Int)) by
        have h := HR.out
        rw [HE.out] at h
        exact h)
      clear HR
      go_wp2
      go_ret
      exact ⟨g, A, rfl, HR8.out⟩

theorem byDocs_mono (F : Nat → List En) {m n : Nat} (h : m ≤ n) : (byDocs F m).length ≤ (byDocs F n).length := by
  induction n with
  | zero =>
    obtain rfl : m = 0 := by omega
    exact Nat.le_refl _
  | succ n ih =>
    by_cases e : m = n + 1
    · rw [e]; exact Nat.le_refl _
    · rw [byDocs_next, List.length_append]
      have := ih (by omega)
      omega

set_option maxHeartbeats 8000000 in
theorem implAsk8_any (S : List En) (D : List ByteArray) (s : ByteArray) (k v n : Int) (a : Option Addr) (nS cS : Nat) (b : Option Addr) (nD cD : Nat) (R : List Fd) (w : World) (hR : ask8 S D s k v n = R) (hnS : nS = S.length) (hnD : nD = D.length) (hS9 : nS ≤ 1048576) (hD9 : nD ≤ 1048576) (hScap : nS ≤ cS)
    (h63 : ∀ x ∈ S, x.2.2 ≤ 9223372036854775807) (hT : totalS D ≤ 1048576) (hs : s.size ≤ 1048576) (hv9 : v ≤ 9223372036854775807) (hatS : CellsAt w a (entsC S)) (hatD : CellsAt w b (strsC D)) :
    Calls Try.prog 55 #[.slice a nS cS, .slice b nD cD, .string s, .int .i64 k, .int .i64 v, .int .i64 n] w fun e w' => ∃ a' m c, e = .returned (.slice a' m c) ∧ One w w.heap.size w' 79 4 a' m c (fdsC R) := by
  subst hR
  by_cases hsh : shOk S
  · have c0 := fun w h => implShelfOk_is true S a nS cS w ⟨fun _ => hsh, fun _ => rfl⟩ hnS (by omega) h
    by_cases hno : k < 1 ∨ v < 1 ∨ n < 1
    · have HE := Lib.hid (ask8_not (L := S) (D := D) (s := s) (k := k) (w := v) (n := n) (fun h => by omega))
      have hc : decide (k < 1) = true ∨ (decide (k < 1) = false ∧ decide (v < 1) = true) ∨ (decide (k < 1) = false ∧ decide (v < 1) = false ∧ decide (n < 1) = true) := by
        by_cases h1 : k < 1
        · exact .inl (decide_eq_true h1)
        · by_cases h2 : v < 1
          · exact .inr (.inl ⟨decide_eq_false h1, decide_eq_true h2⟩)
          · exact .inr (.inr ⟨decide_eq_false h1, decide_eq_false h2, decide_eq_true (by omega)⟩)
      have HATS := Lib.hid hatS
      clear hno hsh hnS hnD h63 hatS hatD
      rcases hc with t1 | ⟨t1, t2⟩ | ⟨t1, t2, t3⟩
      all_goals (
        go_enter Try.func55, Try.ntmps55
        go_wp2_with fail
        refine (c0 _ HATS.out).mono ?_
        rintro e w1 ⟨rfl, b1⟩
        clear c0
        go_wp2
        go_ret
        exact ⟨_, _, _, rfl, by rw [HE.out]; exact (One.nil w1 79 4).under b1 b1.size⟩)
    · have hk1 : 1 ≤ k := by omega
      obtain ⟨M, hM⟩ : ∃ M, mkL s k v = M := ⟨_, rfl⟩
      obtain ⟨F, hF⟩ : ∃ F : Nat → List En, F = fun i => rowE (foundTo (docAt D i) s k n (twOf S M (i : Int))) := ⟨_, rfl⟩
      have hR := (ask8_ok (L := S) (D := D) (s := s) (k := k) (w := v) (n := n) ⟨hsh, by omega, by omega, by omega⟩).trans (ask_byDocs hsh.1 D s hk1 v n).symm
      rw [hM, ← hF] at hR
      have HR := Lib.hid hR
      have hMl : M.length ≤ 1048576 := by rw [← hM]; exact Nat.le_trans (mkL_len s k v) hs
      have HRM := Lib.hid (show ∀ i, i ≤ D.length → (byDocs F i).length ≤ 1099511627776 from fun i hi => by
        have h1 := byDocs_mono F hi
        rw [← hR, ask8_ok ⟨hsh, by omega, by omega, by omega⟩, askR, hM] at h1
        have h2 := rowF_len (askTo S D s k n M)
        have h3 := askTo_len S D s k n M
        have h4 : M.length * S.length ≤ 1048576 * 1048576 := Nat.mul_le_mul hMl (by omega)
        omega)
      have HF := Lib.hid (fun i => congrFun hF i)
      have HOT := Lib.hid (show ∀ d : Int, OrdT (twOf S M d) from fun d => by rw [← hM]; exact twOf_ord S s k v d)
      have HPT := Lib.hid (show ∀ d : Int, PosT (twOf S M d) from fun d => by rw [← hM]; exact twOf_pos hsh.1 h63 hs d)
      have HTL := Lib.hid (show ∀ d : Int, (twOf S M d).length ≤ 1099511627776 from fun d => by
        have h1 := twOf_len S M d
        have h4 : M.length * S.length ≤ 1048576 * 1048576 := Nat.mul_le_mul hMl (by omega)
        omega)
      have cM := fun w => implMarks_any s k v M w hM (by omega) hv9
      have cT := fun b nM cM w hnM h1 h2 h3 => implTwins8_any S nD M a nS cS b nM cM w hnS hS9 hScap (shOk_upI hsh) (fun x hx => by have := hsh.1 x hx; unfold enOk at this; omega) hnM h1 hD9 h2 h3
      have t1 : decide (k < 1) = false := decide_eq_false (by omega)
      have t2 : decide (v < 1) = false := decide_eq_false (by omega)
      have t3 : decide (n < 1) = false := decide_eq_false (by omega)
      have HND := Lib.hid hnD
      have HATS := Lib.hid hatS
      have HATD := Lib.hid hatD
      clear hF hR hM hno hsh hnS hnD h63 hatS hatD
      go_enter Try.func55, Try.ntmps55
      go_wp2_with fail
      refine (c0 _ HATS.out).mono ?_
      rintro e w1 ⟨rfl, b1⟩
      clear c0
      go_wp2_with fail
      refine (cM _).mono ?_
      rintro e w2 ⟨aM, nM, dM, rfl, oM⟩
      have hb2 : Below w.heap.size w w2 := b1.trans (oM.below.mono b1.size)
      have d2 := cT aM nM dM w2 (pairs_len oM.own) (by have := pairs_len oM.own; omega) (HATS.out.below hb2) oM.at_
      have HB2 := Lib.hid hb2
      clear cM cT b1 oM hb2
      go_wp2_with fail
      refine d2.mono ?_
      rintro e w3 ⟨g, A, rfl, hTW⟩
      have HTW := Lib.hid hTW
      have HB3 := Lib.hid (HB2.out.trans (hTW.below.mono HB2.out.size))
      clear d2 hTW
      go_wp2
      go_loopw [13, 40] (fun u i_ wr => ∃ (i m d : Nat) (a' : Option Addr), i ≤ nD ∧ i_ = .int .i64 (i : Int) ∧ u = .slice a' m d ∧ Hid (One w3 w3.heap.size wr 79 4 a' m d (fdsC (byDocs F i)))) (fun _ i_ _ => nD - (intOf i_).toNat)
      case atStart => exact ⟨0, 0, 0, none, Nat.zero_le _, rfl, rfl, Lib.hid (One.nil w3 79 4)⟩
      case round =>
        obtain ⟨i, m, d, a', hi, rfl, rfl, HO⟩ := hrel
        by_cases hlt : i < nD
        · have hil : i < D.length := by have := HND.out; omega
          obtain ⟨b2, o2, rfl, hb9, hc⟩ := (HATD.out.below (HB3.out.trans (HO.out.below.mono HB3.out.size))).str (fun e => by rw [e] at hil; simp at hil)
          obtain ⟨t, ht⟩ : ∃ s, D[i] = s := ⟨_, rfl⟩
          have e1 := hc i hil
          rw [ht] at e1
          have hsz : t.size ≤ 1048576 := by have h1 := totalS_get D i hil; rw [ht] at h1; omega
          have z1 : (i : Int) < (nD : Int) := by omega
          have z0 : (0 : Int) ≤ (i : Int) := by omega
          have hTW := HTW.out.later HO.out.below
          obtain ⟨ad, nd, cd, hAd⟩ : ∃ a n c, A i = (a, n, c) := ⟨_, _, _, rfl⟩
          have kd := hTW.cell hlt
          have hone := hTW.one hlt
          rw [show slV (A i) = .slice ad nd cd by rw [hAd]; rfl] at kd
          rw [hAd] at hone
          have hnd := pairs_len hone.own
          obtain ⟨T, hTT⟩ : ∃ T, twOf S M (i : Int) = T := ⟨_, rfl⟩
          have hOT := HOT.out (i : Int)
          have hPT := HPT.out (i : Int)
          have hTL := HTL.out (i : Int)
          have hFi := HF.out i
          rw [docAt_get hil, ht] at hFi
          simp only [hTT] at hone hnd hOT hPT hTL hFi
          obtain ⟨P, hP⟩ : ∃ P, F i = P := ⟨_, rfl⟩
          rw [hP] at hFi
          have c5 := implGrown_any t s T k n ad nd cd P wr hFi.symm hk1 hnd (by omega) hOT hPT hsz hs hone.at_
          have HFI := Lib.hid hP
          have HRM2 := Lib.hid (HRM.out (i + 1) (by have := HND.out; omega))
          clear hc ht hTW hAd hone hnd hTT hOT hPT hTL hFi hP
          go_wp2_with fail
          refine c5.mono ?_
          rintro e w5 ⟨a5, n5, d5, rfl, o5⟩
          have hB := show Beside w5 a5 (entsC P) (.slice a' m d) from ⟨o5.at_, fun hne b o hb hk => by
            have h2 := HO.out.block_lt b hk
            have h3 := (o5.own.lt b (by rw [hb]; rfl)).1
            omega⟩
          have c6 := implWithF_any w3 w3.heap.size (byDocs F i) P (i : Int) a' m d a5 n5 d5 w5 (HO.out.later o5.below) (ents_len7 o5.own) hB (by
            have h1 := HRM2.out
            rw [byDocs_next, List.length_append, List.length_map, HFI.out] at h1
            have h2 := ents_len7 o5.own
            have h3 := fds_len HO.out.own
            omega)
          clear o5 c5 hB
          go_wp2_with fail
          refine c6.mono ?_
          rintro e w6 ⟨a6, n6, d6, rfl, o6⟩
          have HO6 := Lib.hid (show One w3 w3.heap.size w6 79 4 a6 n6 d6 (fdsC (byDocs F (i + 1))) by
            rw [byDocs_next, HFI.out]
            exact o6)
          clear o6 c6 HO
          go_wp2
          go_roundw
          case rel => exact ⟨i + 1, n6, d6, a6, by omega, by go_num, rfl, HO6⟩
          case measure => simp [intOf]; omega
        · have hin : i = D.length := by have := HND.out; omega
          have HE := Lib.hid hin
          clear hin
          go_wp2
          go_ret
          exact ⟨_, _, _, rfl, by rw [HR.out, ← HE.out]; exact HO.out.under HB3.out HB3.out.size⟩
  · have HE := Lib.hid (ask8_not (L := S) (D := D) (s := s) (k := k) (w := v) (n := n) (fun h => hsh h.1))
    have c0 := fun w h => implShelfOk_is false S a nS cS w ⟨(fun h => absurd h (by decide)), (fun h => absurd h hsh)⟩ hnS (by omega) h
    have HATS := Lib.hid hatS
    clear hsh hnS hnD h63 hatS hatD
    go_enter Try.func55, Try.ntmps55
    go_wp2_with fail
    refine (c0 _ HATS.out).mono ?_
    rintro e w1 ⟨rfl, b1⟩
    clear c0
    go_wp2
    go_ret
    exact ⟨_, _, _, rfl, by rw [HE.out]; exact (One.nil w1 79 4).under b1 b1.size⟩

end Go.Proofs.Ytclblnkeakkdeaa
