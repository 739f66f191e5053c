/-
  The walk of the law Follow: it answers true, and nothing that was there is written. No conditions. (Written by wip/tools/ch9_laws.py.)
-/
import Derived.Test.YtehppjilnacjlaaDrawFo
import Derived.Test.YtehppjilnacjlaaFollI
import Derived.Test.YtehppjilnacjlaaMathEnds
import Derived.Test.YtehppjilnacjlaaHelpA
import Derived.Test.YtehppjilnacjlaaHelpQ
import Derived.Test.YtehppjilnacjlaaExt9
namespace Go.Proofs.Ytehppjilnacjlaa
open Go.RowKit

theorem fol_a : folL (datL (machL [97])) [97] = 1 := by
  obtain ⟨i, hi, h1, h2⟩ := prefix_state (machL_inv [97]) 1 (by decide)
  have hl : (machL [97]).length = 2 := (machK_len [97] 1 (by decide)).1 (by decide)
  have h3 : i ≠ 0 := fun e => by
    subst e
    rw [(machL_inv [97]).inv.w0] at h2
    cases h2
  have h4 : i = 1 := by omega
  subst h4
  exact h1

set_option maxRecDepth 4000 in
set_option maxHeartbeats 8000000 in
theorem walkFnFollow (a : Option Addr) (len cap : Nat) (zs : List Int) (w : World) (h : IsRowK .u8 w a len cap zs) :
    Calls Try.prog 4 #[.slice a len cap] w fun e w' => e = .returned (.bool true) ∧ Below w.heap.size w w' := by
  by_cases hs : 1048576 < len
  · have h2 : (1048576 : Int) < (len : Int) := by omega
    go_enter Try.func4, Try.ntmps4
    go_wp2
    go_ret
    exact ⟨rfl, Below.refl _ _⟩
  go_enter Try.func4, Try.ntmps4
  go_wp2_with fail
  refine (DrawFollow_any _ _ _ _ _ h).mono ?_
  rintro e w0 ⟨al, n, c, L, A, t, rfl, hn, hn9, hfew, ht, hst, BB⟩
  clear h hs
  have hfb := folL_bounds L t.data.toList
  have htl : t.data.toList.length = t.size := rfl
  have HFEW := Lib.hid (show ∀ i, i < L.length → (dtA L i).2.2.length ≤ 1048576 from fun i hi => Nat.le_trans (hfew i hi) (by decide))
  have HN := Lib.hid hn
  have HST := Lib.hid hst
  have HTL := Lib.hid htl
  obtain ⟨f, hf⟩ : ∃ f, folL L t.data.toList = f := ⟨_, rfl⟩
  have HF := Lib.hid hf
  rw [hf] at hfb
  have c1 := implFol_any L t al n c A w0 hn (by omega) HFEW.out (by omega) hst
  rw [hf] at c1
  have hf0 : -1 ≤ f := hfb.1
  have hfn : f < (n : Int) := by omega
  have t1 : (f == f) = true := beq_self_eq_true _
  have t1' : (f != f) = false := by rw [bne, t1]; rfl
  have t2 : decide (f < -1) = false := decide_eq_false (by omega)
  have t3 : decide ((n : Int) ≤ f) = false := decide_eq_false (by omega)
  have HB := Lib.hid BB
  clear hn hfew hst htl hf hfb BB
  go_wp2_with fail
  refine c1.mono ?_
  rintro e w1 ⟨rfl, q1, rfl⟩
  have HST1 := Lib.hid (HST.out.below (below_drewN' (Below.refl _ _) q1))
  have HB1 := Lib.hid (below_drewN' HB.out q1)
  clear c1 HB HST
  generalize w0.drewN q1 = w1 at HST1 HB1 ⊢
  have c2 := specFol_any L t al n c A w1 HN.out (by omega) HFEW.out (by omega) HST1.out
  rw [HF.out] at c2
  go_wp2_with fail
  refine c2.mono ?_
  rintro e w2 ⟨rfl, b2⟩
  have HST2 := Lib.hid (HST1.out.below b2)
  have HB2 := Lib.hid (HB1.out.trans (b2.mono HB1.out.size))
  clear c2 b2 HST1 HB1
  go_wp2
  clear t2 t3
  go_loopw [6] (fun k_ wr => ∃ k : Nat, k ≤ t.size ∧ k_ = .int .i64 (k : Int) ∧ Hid (∃ q, wr = w2.drewN q)) (fun k_ _ => t.size - (intOf k_).toNat)
  case atStart => exact ⟨0, Nat.zero_le _, rfl, Lib.hid ⟨0, rfl⟩⟩
  case round =>
    obtain ⟨k, hk, rfl, HW⟩ := hrel
    by_cases hlt : k < t.size
    · have z1 : (k : Int) < ((t.size : Nat) : Int) := by omega
      by_cases hf1 : 0 ≤ f
      · have sl1 : ∀ w, (Instr.slice 9 (.string t) none (some (.int .i64 (k : Int))) none).run Try.prog w = .ok (.string (t.extract 0 k)) w := fun w => by
          have h1 := run_slice_string_h (P := Try.prog) w 9 t Try.ulsQ .i64 (k : Int) (by omega) (by omega)
          rwa [Int.toNat_natCast] at h1
        have hst : StAt wr al L A := by obtain ⟨q, hq⟩ := HW.out; rw [hq]; exact HST2.out.below (below_drewN' (Below.refl _ _) q)
        have hxs : (t.extract 0 k).size ≤ 1000 := by rw [ByteArray.size_extract]; omega
        have c3 := implFol_any L (t.extract 0 k) al n c A wr HN.out (by omega) HFEW.out (by omega) hst
        rw [ext_take] at c3
        have hge : ¬ (folL L (t.data.toList.take k) < 0) := fun e => by
          have h1 := (folL_bounds L (t.data.toList.take k)).1
          have h2 := folL_end (k := k) (t := t.data.toList) (L := L) (by omega)
          rw [HF.out] at h2
          omega
        obtain ⟨f2, hf2⟩ : ∃ f, folL L (t.data.toList.take k) = f := ⟨_, rfl⟩
        rw [hf2] at c3 hge
        obtain ⟨x, hx⟩ : ∃ x, t.extract 0 k = x := ⟨_, rfl⟩
        rw [hx] at c3 sl1
        have t4 : decide (f2 < 0) = false := decide_eq_false hge
        have t5 : f ≥ 0 := hf1
        clear hst hxs hf2 hx
        go_wp2_with fail
        refine c3.mono ?_
        rintro e w3 ⟨rfl, q3, rfl⟩
        have HW3 := Lib.hid (show ∃ q, wr.drewN q3 = w2.drewN q by
          obtain ⟨q, hq⟩ := HW.out
          exact ⟨q + q3, by rw [hq, World.drewN_drewN]⟩)
        clear c3 HW
        go_wp2
        go_roundw
        case rel => exact ⟨k + 1, by omega, by go_num, HW3⟩
        case measure => simp [intOf]; omega
      · have t5 : ¬ (f ≥ 0) := by omega
        go_wp2
        go_roundw
        case rel => exact ⟨k + 1, by omega, by go_num, HW⟩
        case measure => simp [intOf]; omega
    · have z1 : ¬ ((k : Int) < ((t.size : Nat) : Int)) := by omega
      have HB3 := Lib.hid (show Below w.heap.size w wr by obtain ⟨q, hq⟩ := HW.out; rw [hq]; exact below_drewN' HB2.out q)
      have c4 := implMach_any ({ data := #[97] } : ByteArray) wr (by decide)
      rw [show ({ data := #[97] } : ByteArray).data.toList = [97] from rfl] at c4
      clear HW HB2 HST2 t1 t1'
      go_wp2_with fail
      refine c4.mono ?_
      rintro e w5 ⟨g, c5, A5, rfl, hS5⟩
      have hl2 : (machL [97]).length = 2 := (machK_len [97] 1 (by decide)).1 (by decide)
      have c6 := implFol_any (datL (machL [97])) ({ data := #[97] } : ByteArray) (some ⟨g, 0, none⟩) (machL [97]).length c5 A5 w5 (datL_len _).symm (by omega) (mach_few9 (machL_inv [97])) (by decide) hS5.at_
      rw [show ({ data := #[97] } : ByteArray).data.toList = [97] from rfl, fol_a] at c6
      have HB5 := Lib.hid (HB3.out.trans (hS5.outer.below.mono HB3.out.size))
      clear c4 hS5 hl2 HB3
      go_wp2_with fail
      refine c6.mono ?_
      rintro e w7 ⟨rfl, q7, rfl⟩
      have BB := below_drewN' HB5.out q7
      clear c6 HB5
      go_wp2_with fail
      refine (alive_any _).mono ?_
      rintro e wq ⟨rfl, rfl⟩
      go_wp2
      go_ret
      exact ⟨rfl, BB⟩

end Go.Proofs.Ytehppjilnacjlaa
