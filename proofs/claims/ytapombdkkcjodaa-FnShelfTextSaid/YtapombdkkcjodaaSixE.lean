/-
  The contract of the program's function ShelfText. Conditions: the row has at most 2^21 entries, and their numbers are numbers of the program.
-/
import Derived.Test.YtapombdkkcjodaaSixD
import Derived.Test.YtapombdkkcjodaaShelfI
import Derived.Test.YtapombdkkcjodaaTail
namespace Go.Proofs.Ytapombdkkcjodaa
open Go.RowKit

theorem putB_back (d : Int) : (⟨(putB d).data.toList.toArray⟩ : ByteArray) = putB d := by simp
theorem textTo_room {l : List En} (h : shOk l) (hf : ∀ x ∈ l, fits x) (hl : l.length ≤ 2097152) (k n : Nat) (hn : (textTo l k).data.toList.length = n) : n ≤ 60000000 := by
  have h1 := textTo_size h hf hl k
  rw [Array.length_toList] at hn
  have : (textTo l k).size = n := hn
  omega
theorem textTo_bytes {l : List En} {k : Nat} {d1 d2 d3 : Int} (h : textTo l (k + 1) = textTo l k ++ putB d1 ++ (putB d2 ++ putB d3)) :
    (textTo l (k + 1)).data.toList = (textTo l k).data.toList ++ (putB d1).data.toList ++ (putB d2).data.toList ++ (putB d3).data.toList := by
  rw [h]
  simp [ByteArray.data_append]

theorem below_set {B : Nat} {a w : World} (h : Below B a w) {b : Nat} (hb : B ≤ b) (j : Nat) (v : Value) : Below B a (w.setCell ⟨b, j, none⟩ v) :=
  ⟨h.os, h.tape, h.output, by simpa [World.setCell] using h.size, fun k hk => (Below.heap_setCell _ _ _ _ (fun e => by simp only at e; omega)).trans (h.block k hk)⟩
theorem cell_own6_drew {w w' : World} {xs : Array Value} {e : TypeId} (hb : Below (w.alloc (.cells xs e)).drew.heap.size (w.alloc (.cells xs e)).drew w') (i : Nat) (v : Value) (h : xs[i]? = some v) :
    w'.cell? ⟨w.heap.size, i, none⟩ = some v := cell_own6 (w := w) (xs := xs) (e := e) ⟨hb.os, hb.tape, hb.output, hb.size, hb.block⟩ i v h
theorem frozen_own_drew {w w' : World} {xs : Array Value} {e : TypeId} (hb : Below (w.alloc (.cells xs e)).drew.heap.size (w.alloc (.cells xs e)).drew w') (i : Nat) : w'.frozen? ⟨w.heap.size, i, none⟩ = false := by
  have h1 := hb.block w.heap.size (by show w.heap.size < (w.alloc (.cells xs e)).heap.size; simp)
  have h2 : (w.alloc (.cells xs e)).drew.heap[w.heap.size]? = some (.cells xs e (0, 0)) := heap_alloc_new w _
  rw [h2] at h1
  simp [World.frozen?, h1]

set_option maxRecDepth 4000 in
set_option maxHeartbeats 4000000 in
theorem implText_any (l : List En) (a : Option Addr) (n c : Nat) (w : World) (hn : n = l.length) (hl : n ≤ 2097152) (hf : ∀ x ∈ l, fits x) (hat : CellsAt w a (entsC l)) :
    Calls Try.prog 18 #[.slice a n c] w fun e w' => e = .returned (.string (textB l)) ∧ Below w.heap.size w w' := by
  have HN := Lib.hid hn
  have HAT := Lib.hid hat
  have HF := Lib.hid hf
  clear hn hat hf
  by_cases hok : shOk l
  · have HOK := Lib.hid hok
    have c0 := fun (w : World) (hat : CellsAt w a (entsC l)) => implShelfOk_is true l a n c w ⟨fun _ => hok, fun _ => rfl⟩ HN.out (by omega) hat
    clear hok
    go_enter Try.func18, Try.ntmps18
    go_wp2_with fail
    refine (c0 _ HAT.out).mono ?_
    rintro e w1 ⟨rfl, b1⟩
    clear c0
    go_wp2_with fail
    refine (implPut_any _ _ (by omega)).mono ?_
    rintro e w2 ⟨rfl, b2⟩
    have B2 : Below w.heap.size w w2 := b1.trans (b2.mono b1.size)
    clear b1 b2
    have hput := putB_nine (d := (n : Int)) (by omega)
    obtain ⟨a3, c3, w3, hcv, HT3, b3⟩ := bytes_tail (P := Try.prog) w2 9 22 5 (putB (n : Int)) Try.uls6 Try.ulB6 Try.ulb6 w.heap.size B2.size (by unfold maxLen; omega)
    have HT3 := Lib.hid HT3
    have B3 := B2.trans (b3.mono B2.size)
    clear B2 b3
    go_wp2_with fail
    refine (implAhead_any _).mono ?_
    rintro e w4 ⟨rfl, b4⟩
    have HT4 := Lib.hid (HT3.out.later b4)
    have B4 := B3.trans (b4.mono B3.size)
    clear B3 b4 hcv HT3
    go_wp2
    have o0 : One w w.heap.size (w4.alloc (.cells #[.int .i64 0, .int .i64 0, .int .i64 (-1)] 48)) 48 3 (some ⟨w4.heap.size, 0, none⟩) 1 1 [.int .i64 0, .int .i64 0, .int .i64 (-1)] :=
      ⟨World.ownsRow_lit w4 #[.int .i64 0, .int .i64 0, .int .i64 (-1)] 1 B4.size (by unfold maxLen; omega) (by simp), Nat.le_trans B4.size (heap_le_alloc _ _), B4.alloc B4.size _⟩
    have HT5 := HT4.out.later ((Below.refl _ _).alloc (Nat.le_refl _) (.cells #[.int .i64 0, .int .i64 0, .int .i64 (-1)] 48))
    obtain ⟨w5, hw5⟩ : ∃ w3, w4.alloc (.cells #[.int .i64 0, .int .i64 0, .int .i64 (-1)] 48) = w3 := ⟨_, rfl⟩
    obtain ⟨g, hg⟩ : ∃ g, w4.heap.size = g := ⟨_, rfl⟩
    rw [hw5, hg] at o0
    rw [hw5] at HT5
    rw [hw5, hg]
    have o1 : TextRec w w.heap.size w5 5 a3 (putB (n : Int)).size c3 (putB (n : Int)).data.toList 48 g [.int .i64 0, .int .i64 0, .int .i64 (-1)] := ⟨HT5, o0, by decide⟩
    clear hw5 hg B4 HT4 HT5 o0
    go_loopw [3, 17] (fun v i wr => ∃ (k : Nat) (p d z : Int) (at_ : Option Addr) (nt ct : Nat), k ≤ n ∧ i = .int .i64 (k : Int) ∧ v = .slice at_ nt ct ∧ Hid (lzI (lastE none (l.take k)) = (p, d, z)) ∧ Hid (TextRec w w.heap.size wr 5 at_ nt ct (textTo l k).data.toList 48 g [.int .i64 p, .int .i64 d, .int .i64 z])) (fun _ i _ => n - (intOf i).toNat)
    case atStart => exact ⟨0, 0, 0, -1, a3, _, c3, Nat.zero_le _, rfl, rfl, Lib.hid rfl, Lib.hid (by rw [textTo_zero, ← HN.out]; exact o1)⟩
    case round =>
      obtain ⟨k, p, d, a0, at_, nt, ct, hk, rfl, rfl, HL, HO⟩ := hrel
      have hnt := textTo_room HOK.out HF.out (by have := HN.out; omega) k nt HO.out.text.len
      by_cases hlt : k < n
      · have hkl : k < l.length := by have := HN.out; omega
        obtain ⟨x, hx⟩ : ∃ x, l[k].1 = x := ⟨_, rfl⟩
        obtain ⟨y, hy⟩ : ∃ y, l[k].2.1 = y := ⟨_, rfl⟩
        obtain ⟨z, hz⟩ : ∃ z, l[k].2.2 = z := ⟨_, rfl⟩
        have hm : l[k] = (x, y, z) := by rw [← hx, ← hy, ← hz]
        obtain ⟨b, o, rfl, hb9, g1, g2, g3⟩ := ent_cells (HAT.out.below HO.out.below) hkl hm
        have hfx := HF.out _ (List.getElem_mem hkl)
        rw [hm] at hfx
        obtain ⟨htok, hdif⟩ := told_is HOK.out hkl hm hfx HL.out
        obtain ⟨u1, hu1⟩ : ∃ u, (toldI p d a0 x y z).1 = u := ⟨_, rfl⟩
        obtain ⟨u2, hu2⟩ : ∃ u, (toldI p d a0 x y z).2.1 = u := ⟨_, rfl⟩
        obtain ⟨u3, hu3⟩ : ∃ u, (toldI p d a0 x y z).2.2 = u := ⟨_, rfl⟩
        rw [hu1, hu2, hu3] at hdif
        have htold : toldI p d a0 x y z = (u1, u2, u3) := by rw [← hu1, ← hu2, ← hu3]
        obtain ⟨q1, q1', q2, q2', q3, q3'⟩ := toldI_bounds htok htold
        have c1 := fun w => implTold_any p d a0 x y z u1 u2 u3 w htold htok
        have HNX := Lib.hid (textTo_bytes (textTo_next hkl q1 q2 q3 hdif))
        have HLN := Lib.hid (show lzI (lastE none (l.take (k + 1))) = (x, y, z) by rw [lastE_take hkl, hm]; rfl)
        have T1 := putB_nine (d := u1) (by omega)
        have T2 := putB_nine (d := u2) (by omega)
        have T3 := putB_nine (d := u3) (by omega)
        have hz0 : (0 : Int) ≤ (k : Int) := by omega
        have hz1 : (k : Int) < (n : Int) := by omega
        have HM := Lib.hid hm
        clear hx hy hz hm hfx htok hdif hu1 hu2 hu3 htold
        have m1 := rec_cell HO.out.rec_ 0 _ rfl
        have m2 := rec_cell HO.out.rec_ 1 _ rfl
        have m3 := rec_cell HO.out.rec_ 2 _ rfl
        have HKS := Lib.hid (show ∀ w', Below wr.heap.size wr w' → w'.cell? ⟨b, o + k * 3, none⟩ = some (.int .i64 x) ∧ w'.cell? ⟨b, o + k * 3 + 1, none⟩ = some (.int .i64 y) ∧ w'.cell? ⟨b, o + k * 3 + 2, none⟩ = some (.int .i64 z) ∧ w'.cell? ⟨g, 0, none⟩ = some (.int .i64 p) ∧ w'.cell? ⟨g, 1, none⟩ = some (.int .i64 d) ∧ w'.cell? ⟨g, 2, none⟩ = some (.int .i64 a0) from fun w' h =>
          ⟨below_ents h hb9 g1, below_ents h hb9 g2, below_ents h hb9 g3, rec_cell (HO.out.later h).rec_ 0 _ rfl, rec_cell (HO.out.later h).rec_ 1 _ rfl, rec_cell (HO.out.later h).rec_ 2 _ rfl⟩)
        go_wp2_with fail
        go_region_held3 (fun w' => w'.cell? ⟨b, o + k * 3, none⟩ = some (.int .i64 x) ∧ w'.cell? ⟨b, o + k * 3 + 1, none⟩ = some (.int .i64 y) ∧ w'.cell? ⟨b, o + k * 3 + 2, none⟩ = some (.int .i64 z) ∧ w'.cell? ⟨g, 0, none⟩ = some (.int .i64 p) ∧ w'.cell? ⟨g, 1, none⟩ = some (.int .i64 d) ∧ w'.cell? ⟨g, 2, none⟩ = some (.int .i64 a0))
          (first | go_keep | (refine HKS.out _ ?_; (repeat (first | exact Below.refl _ _ | refine Below.drew ?_ | refine below_drewN' ?_ _ | refine Below.alloc ?_ (by simp <;> omega) _)); done) | (refine HKS.out _ ?_; (repeat (first | refine Below.drew ?_ | refine below_drewN' ?_ _ | refine below_set ?_ (Nat.le_refl _) _ _ | refine Below.alloc ?_ (by have := hb5.size; simp at this ⊢; omega) _)); refine Below.trans ?_ (hb5.mono (by simp)); (repeat (first | exact Below.refl _ _ | refine Below.drew ?_ | refine below_drewN' ?_ _ | refine Below.alloc ?_ (by simp <;> omega) _)); done))
          ((go_at_call 31; refine (c1 _).mono ?_; rintro e w5 ⟨rfl, hb5⟩; (first | (have z1 := cell_own6_drew hb5 0 _ rfl; have z2 := cell_own6_drew hb5 1 _ rfl; have z3 := cell_own6_drew hb5 2 _ rfl; have y1 := frozen_own_drew hb5 0; have y2 := frozen_own_drew hb5 1; have y3 := frozen_own_drew hb5 2) | skip)))
        · have o6 : One w w.heap.size (w5.alloc (.cells #[.int .i64 u1, .int .i64 u2, .int .i64 u3] 48)) 48 3 (some ⟨w5.heap.size, 0, none⟩) 1 1 [.int .i64 u1, .int .i64 u2, .int .i64 u3] :=
            have hB5 : Below w.heap.size w w5 := (Below.drew HO.out.below).trans (hb5.mono HO.out.rec_.base)
            ⟨World.ownsRow_lit w5 #[.int .i64 u1, .int .i64 u2, .int .i64 u3] 1 hB5.size (by unfold maxLen; omega) (by simp), Nat.le_trans hB5.size (heap_le_alloc _ _), hB5.alloc hB5.size _⟩
          have hbw : Below wr.heap.size wr (w5.alloc (.cells #[.int .i64 u1, .int .i64 u2, .int .i64 u3] 48)) := Below.alloc ((Below.drew (Below.refl _ _)).trans hb5) (by have := hb5.size; simp at this ⊢; omega) _
          have HKL := Lib.hid (HKS.out _ hbw)
          have HO := Lib.hid (HO.out.later hbw)
          obtain ⟨w6, hw6⟩ : ∃ w6, w5.alloc (.cells #[.int .i64 u1, .int .i64 u2, .int .i64 u3] 48) = w6 := ⟨_, rfl⟩
          obtain ⟨h, hh⟩ : ∃ h, w5.heap.size = h := ⟨_, rfl⟩
          rw [hw6, hh] at o6
          rw [hw6] at HO HKL
          rw [hw6, hh]
          have HR := Lib.hid o6
          clear o6 hbw hw6 hh hb5 HKS
          have HK6 := Lib.hid (show ∀ w', One w w.heap.size w' 48 3 (some ⟨h, 0, none⟩) 1 1 [.int .i64 u1, .int .i64 u2, .int .i64 u3] → w'.cell? ⟨h, 0, none⟩ = some (.int .i64 u1) ∧ w'.cell? ⟨h, 1, none⟩ = some (.int .i64 u2) ∧ w'.cell? ⟨h, 2, none⟩ = some (.int .i64 u3) from fun w' k => ⟨rec_cell k 0 _ rfl, rec_cell k 1 _ rfl, rec_cell k 2 _ rfl⟩)
          obtain ⟨k1, k2, k3⟩ := HK6.out _ HR.out
          go_wp2_with fail
          refine (implPut_any u1 _ (by omega)).mono ?_
          rintro e x1 ⟨rfl, b7⟩
          have HO := Lib.hid (HO.out.later b7)
          have HR := Lib.hid (HR.out.later b7)
          clear b7 k1 k2 k3
          go_wp2_with (at_builtin; refine wpList_append_tail rfl (.tmp 26) (.tmp 29) 22 9 rfl Try.ulB6 Try.uls6 Try.infoB6 HO.out rfl (putB u1) rfl (by unfold maxLen; omega) (by omega) ?_; intro a1 d1 y1 o1 gg1; have HR := Lib.hid (HO.out.beside HR.out gg1); have HO := Lib.hid o1; clear o1 gg1; obtain ⟨k1, k2, k3⟩ := HK6.out _ HR.out)
          refine (implPut_any u2 _ (by omega)).mono ?_
          rintro e x2 ⟨rfl, b7⟩
          have HO := Lib.hid (HO.out.later b7)
          have HR := Lib.hid (HR.out.later b7)
          clear b7 k1 k2 k3
          go_wp2_with (at_builtin; refine wpList_append_tail rfl (.tmp 31) (.tmp 34) 22 9 rfl Try.ulB6 Try.uls6 Try.infoB6 HO.out rfl (putB u2) rfl (by unfold maxLen; omega) (by omega) ?_; intro a2 d2 y2 o2 gg2; have HR := Lib.hid (HO.out.beside HR.out gg2); have HO := Lib.hid o2; clear o2 gg2; obtain ⟨k1, k2, k3⟩ := HK6.out _ HR.out)
          refine (implPut_any u3 _ (by omega)).mono ?_
          rintro e x3 ⟨rfl, b7⟩
          have HO := Lib.hid (HO.out.later b7)
          have HR := Lib.hid (HR.out.later b7)
          clear b7 k1 k2 k3
          go_wp2_with (at_builtin; refine wpList_append_tail rfl (.tmp 36) (.tmp 39) 22 9 rfl Try.ulB6 Try.uls6 Try.infoB6 HO.out rfl (putB u3) rfl (by unfold maxLen; omega) (by omega) ?_; intro a3 d3 y3 o3 gg3; have HR := Lib.hid (HO.out.beside HR.out gg3); have HO := Lib.hid o3; clear o3 gg3; obtain ⟨k1, k2, k3⟩ := HK6.out _ HR.out; obtain ⟨b9, o9, hbo, _, g1, g2, g3⟩ := ent_cells (HAT.out.below HO.out.below) hkl HM.out; obtain ⟨rfl, rfl⟩ := (by simpa using hbo : b = b9 ∧ o = o9); have m1 := rec_cell HO.out.rec_ 0 _ rfl; have m2 := rec_cell HO.out.rec_ 1 _ rfl; have m3 := rec_cell HO.out.rec_ 2 _ rfl; have r1 := HO.out.rec_.frozen 0; have r2 := HO.out.rec_.frozen 1; have r3 := HO.out.rec_.frozen 2; have HO8 := Lib.hid (((HO.out.stored 0 (.int .i64 x)).stored 1 (.int .i64 y)).stored 2 (.int .i64 z)); clear hbo)
          go_roundw
          case rel => exact ⟨k + 1, x, y, z, _, _, _, by omega, by go_num, rfl, HLN, Lib.hid (by rw [HNX.out]; exact HO8.out)⟩
          case measure => simp [intOf]; omega
        · have hb5 : Below (wr.alloc (.cells #[.int .i64 0, .int .i64 0, .int .i64 0] 48)).heap.size (wr.alloc (.cells #[.int .i64 0, .int .i64 0, .int .i64 0] 48)) w5 := ⟨hb5.os, hb5.tape, hb5.output, hb5.size, hb5.block⟩
          have hBr := HO.out.below
          have oz : One w w.heap.size (wr.alloc (.cells #[.int .i64 0, .int .i64 0, .int .i64 0] 48)) 48 3 (some ⟨wr.heap.size, 0, none⟩) 1 1 [.int .i64 0, .int .i64 0, .int .i64 0] :=
            ⟨World.ownsRow_lit wr #[.int .i64 0, .int .i64 0, .int .i64 0] 1 hBr.size (by unfold maxLen; omega) (by simp), Nat.le_trans hBr.size (heap_le_alloc _ _), hBr.alloc hBr.size _⟩
          have o6 : One w w.heap.size (((w5.setCell ⟨wr.heap.size, 0, none⟩ (.int .i64 u1)).setCell ⟨wr.heap.size, 1, none⟩ (.int .i64 u2)).setCell ⟨wr.heap.size, 2, none⟩ (.int .i64 u3)) 48 3 (some ⟨wr.heap.size, 0, none⟩) 1 1 [.int .i64 u1, .int .i64 u2, .int .i64 u3] :=
            (((oz.later hb5).stored 0 (.int .i64 u1)).stored 1 (.int .i64 u2)).stored 2 (.int .i64 u3)
          have hbw : Below wr.heap.size wr (((w5.setCell ⟨wr.heap.size, 0, none⟩ (.int .i64 u1)).setCell ⟨wr.heap.size, 1, none⟩ (.int .i64 u2)).setCell ⟨wr.heap.size, 2, none⟩ (.int .i64 u3)) :=
            below_set (below_set (below_set (((Below.refl _ _).alloc (Nat.le_refl _) _).trans (hb5.mono (by simp))) (Nat.le_refl _) _ _) (Nat.le_refl _) _ _) (Nat.le_refl _) _ _
          have HKL := Lib.hid (HKS.out _ hbw)
          have HO := Lib.hid (HO.out.later hbw)
          obtain ⟨w6, hw6⟩ : ∃ w6, ((w5.setCell ⟨wr.heap.size, 0, none⟩ (.int .i64 u1)).setCell ⟨wr.heap.size, 1, none⟩ (.int .i64 u2)).setCell ⟨wr.heap.size, 2, none⟩ (.int .i64 u3) = w6 := ⟨_, rfl⟩
          obtain ⟨h, hh⟩ : ∃ h, wr.heap.size = h := ⟨_, rfl⟩
          rw [hw6, hh] at o6
          rw [hw6] at HO HKL
          rw [hw6, hh]
          have HR := Lib.hid o6
          clear o6 hbw hw6 oz hb5 HKS z1 z2 z3 y1 y2 y3 hBr
          have HK6 := Lib.hid (show ∀ w', One w w.heap.size w' 48 3 (some ⟨h, 0, none⟩) 1 1 [.int .i64 u1, .int .i64 u2, .int .i64 u3] → w'.cell? ⟨h, 0, none⟩ = some (.int .i64 u1) ∧ w'.cell? ⟨h, 1, none⟩ = some (.int .i64 u2) ∧ w'.cell? ⟨h, 2, none⟩ = some (.int .i64 u3) from fun w' k => ⟨rec_cell k 0 _ rfl, rec_cell k 1 _ rfl, rec_cell k 2 _ rfl⟩)
          obtain ⟨k1, k2, k3⟩ := HK6.out _ HR.out
          go_wp2_with fail
          refine (implPut_any u1 _ (by omega)).mono ?_
          rintro e x1 ⟨rfl, b7⟩
          have HO := Lib.hid (HO.out.later b7)
          have HR := Lib.hid (HR.out.later b7)
          clear b7 k1 k2 k3
          go_wp2_with (at_builtin; refine wpList_append_tail rfl (.tmp 26) (.tmp 29) 22 9 rfl Try.ulB6 Try.uls6 Try.infoB6 HO.out rfl (putB u1) rfl (by unfold maxLen; omega) (by omega) ?_; intro a1 d1 y1 o1 gg1; have HR := Lib.hid (HO.out.beside HR.out gg1); have HO := Lib.hid o1; clear o1 gg1; obtain ⟨k1, k2, k3⟩ := HK6.out _ HR.out)
          refine (implPut_any u2 _ (by omega)).mono ?_
          rintro e x2 ⟨rfl, b7⟩
          have HO := Lib.hid (HO.out.later b7)
          have HR := Lib.hid (HR.out.later b7)
          clear b7 k1 k2 k3
          go_wp2_with (at_builtin; refine wpList_append_tail rfl (.tmp 31) (.tmp 34) 22 9 rfl Try.ulB6 Try.uls6 Try.infoB6 HO.out rfl (putB u2) rfl (by unfold maxLen; omega) (by omega) ?_; intro a2 d2 y2 o2 gg2; have HR := Lib.hid (HO.out.beside HR.out gg2); have HO := Lib.hid o2; clear o2 gg2; obtain ⟨k1, k2, k3⟩ := HK6.out _ HR.out)
          refine (implPut_any u3 _ (by omega)).mono ?_
          rintro e x3 ⟨rfl, b7⟩
          have HO := Lib.hid (HO.out.later b7)
          have HR := Lib.hid (HR.out.later b7)
          clear b7 k1 k2 k3
          go_wp2_with (at_builtin; refine wpList_append_tail rfl (.tmp 36) (.tmp 39) 22 9 rfl Try.ulB6 Try.uls6 Try.infoB6 HO.out rfl (putB u3) rfl (by unfold maxLen; omega) (by omega) ?_; intro a3 d3 y3 o3 gg3; have HR := Lib.hid (HO.out.beside HR.out gg3); have HO := Lib.hid o3; clear o3 gg3; obtain ⟨k1, k2, k3⟩ := HK6.out _ HR.out; obtain ⟨b9, o9, hbo, _, g1, g2, g3⟩ := ent_cells (HAT.out.below HO.out.below) hkl HM.out; obtain ⟨rfl, rfl⟩ := (by simpa using hbo : b = b9 ∧ o = o9); have m1 := rec_cell HO.out.rec_ 0 _ rfl; have m2 := rec_cell HO.out.rec_ 1 _ rfl; have m3 := rec_cell HO.out.rec_ 2 _ rfl; have r1 := HO.out.rec_.frozen 0; have r2 := HO.out.rec_.frozen 1; have r3 := HO.out.rec_.frozen 2; have HO8 := Lib.hid (((HO.out.stored 0 (.int .i64 x)).stored 1 (.int .i64 y)).stored 2 (.int .i64 z)); clear hbo)
          go_roundw
          case rel => exact ⟨k + 1, x, y, z, _, _, _, by omega, by go_num, rfl, HLN, Lib.hid (by rw [HNX.out]; exact HO8.out)⟩
          case measure => simp [intOf]; omega
      · have HE := Lib.hid (show (⟨(textTo l k).data.toList.toArray⟩ : ByteArray) = textB l by rw [show k = l.length by have := HN.out; omega, textTo_all HOK.out])
        have hB := HO.out.below
        have hconv := HO.out.text.back (P := Try.prog) 22 9 5 Try.ulB6 Try.ulb6 Try.uls6
        go_wp2
        go_ret
        exact ⟨ret_str6 HE.out, hB⟩
  · have HE := Lib.hid (textB_not hok)
    have c0 := fun (w : World) (hat : CellsAt w a (entsC l)) => implShelfOk_is false l a n c w ⟨fun h => absurd h (by decide), fun h => absurd h hok⟩ HN.out (by omega) hat
    clear hok
    go_enter Try.func18, Try.ntmps18
    go_wp2_with fail
    refine (c0 _ HAT.out).mono ?_
    rintro e w1 ⟨rfl, b1⟩
    go_wp2
    go_ret
    exact ⟨ret_str6 HE.out.symm, b1⟩

end Go.Proofs.Ytapombdkkcjodaa
