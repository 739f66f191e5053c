/-
  The contract of the program's function HowOften. Condition: texts have at most 2^20 bytes.
-/
import Derived.Test.YtehppjilnacjlaaOrdI
namespace Go.Proofs.Ytehppjilnacjlaa
open Go.RowKit

set_option maxHeartbeats 16000000 in
theorem implHow_any (s t : ByteArray) (w : World) (hs : s.size ≤ 1048576) (ht : t.size ≤ 1048576) :
    Calls Try.prog 35 #[.string s, .string t] w fun e w' => e = .returned (.int .i64 (howN s.data.toList t.data.toList)) ∧ Below w.heap.size w w' := by
  have hsz : s.data.toList.length = s.size := rfl
  have htz : t.data.toList.length = t.size := rfl
  have hfew := mach_few s.data.toList
  have c1 := implMach_any s w hs
  obtain ⟨u, hu⟩ : ∃ u, s.data.toList = u := ⟨_, rfl⟩
  obtain ⟨y, hy⟩ : ∃ y, t.data.toList = y := ⟨_, rfl⟩
  have HU := Lib.hid hu
  rw [hu] at hsz c1 hfew ⊢
  have hm := mach_most u (by omega)
  have hi := machL_inv u
  obtain ⟨L, hL⟩ : ∃ L, machL u = L := ⟨_, rfl⟩
  rw [hL] at hm hi c1 hfew
  have HI := Lib.hid hi
  have HE := Lib.hid (fun (g c : Nat) (A : Nat → Sm) (w : World) (h : StAt w (some ⟨g, 0, none⟩) (datL L) A) => implEndC_any s L g c A w hs hm (by rw [hu]; exact hi) h)
  have HT := Lib.hid (fun (a : Option Addr) (n c : Nat) (A : Nat → Sm) (w : World) hn hn9 h => implFol_any (datL L) t a n c A w hn hn9 hfew ht h)
  rw [hy] at HT htz ⊢
  rw [hu] at HE
  have hfol := mach_fol hi y
  have HOI := Lib.hid (ord_is (fun i => (tW L i).length) L.length)
  obtain ⟨P, hP⟩ : ∃ P, ordN (fun i => (tW L i).length) L.length L.length = P := ⟨_, rfl⟩
  rw [hP] at HE HOI
  clear hsz hL hfew hP hi
  go_enter Try.func35, Try.ntmps35
  go_wp2_with fail
  refine c1.mono ?_
  rintro e w2 ⟨g, c, A, rfl, hS⟩
  have c2 := HT.out (some ⟨g, 0, none⟩) L.length c A w2 (datL_len _).symm (by omega) hS.at_
  have HS := Lib.hid hS
  clear c1 hS HT
  by_cases hp : pcIn u y
  · obtain ⟨q, hq, e1, hse⟩ := hfol.1 hp
    rw [e1] at c2
    have t3 : decide ((q : Int) < 0) = false := decide_eq_false (by omega)
    by_cases hy0 : y = []
    · have hts : t = ByteArray.empty := by
        have h1 : t.size = 0 := by rw [← htz, hy0]; rfl
        exact ByteArray.size_eq_zero_iff.1 h1
      have HR := Lib.hid (show howN u y = 0 by rw [howN, if_pos hy0])
      subst hts
      clear hfol e1 hse hp hy0 htz hy ht HE HOI
      go_wp2_with fail
      refine c2.mono ?_
      rintro e w3 ⟨rfl, q3, rfl⟩
      have HB := Lib.hid (HS.out.outer.below.trans ((below_drewN' (Below.refl w2.heap.size w2) q3).mono HS.out.outer.below.size))
      clear c2
      go_wp2
      go_ret
      exact ⟨by rw [HR.out]; rfl, HB.out⟩
    · have HR := Lib.hid (show howN u y = ecnt u L (behS P L.length 0) q by rw [howN, if_neg hy0, cnt_all HI.out HOI.out hse])
      have hts : t.toList.isEmpty = false := by
        rw [ByteArray.toList_eq, hy]
        cases y with
        | nil => exact absurd rfl hy0
        | cons x y => rfl
      have z1 : (0 : Int) ≤ (q : Int) := by omega
      have z2 : (q : Int) < (L.length : Int) := by omega
      have HQ := Lib.hid hq
      clear hfol e1 hse hp hy0 htz hy HOI
      go_wp2_with fail
      refine c2.mono ?_
      rintro e w3 ⟨rfl, q3, rfl⟩
      have HS3 := Lib.hid (HS.out.later (below_drewN' (Below.refl w2.heap.size w2) q3))
      clear c2 HS
      generalize w2.drewN q3 = w4 at HS3 ⊢
      have c3 := HE.out g c A w4 HS3.out.at_
      go_wp2_with fail
      refine c3.mono ?_
      rintro e w5 ⟨g5, rfl, o5⟩
      have x1 := vec_cell o5 HQ.out (v := (ecnt u L (behS P L.length 0) q : Int)) rfl
      have HB := Lib.hid (HS3.out.outer.below.trans (o5.below.mono HS3.out.outer.below.size))
      clear c3 o5
      go_wp2
      go_ret
      exact ⟨by rw [HR.out]; rfl, HB.out⟩
  · have e1 := hfol.2 hp
    rw [e1] at c2
    have HR := Lib.hid (show howN u y = 0 by
      rw [howN]
      split
      · rfl
      · exact howTo_none hp _)
    clear hfol e1 hp htz hy HE HOI
    go_wp2_with fail
    refine c2.mono ?_
    rintro e w3 ⟨rfl, q3, rfl⟩
    have HB := Lib.hid (HS.out.outer.below.trans ((below_drewN' (Below.refl w2.heap.size w2) q3).mono HS.out.outer.below.size))
    clear c2
    go_wp2
    go_ret
    exact ⟨by rw [HR.out]; rfl, HB.out⟩

end Go.Proofs.Ytehppjilnacjlaa
