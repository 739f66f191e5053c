/-
  The walk of chapter 6's law ReadShelf, over drawn texts: it returns true, and nothing that was there is written. No conditions.
-/
import Derived.Test.YtapombdkkcjodaaDrawU
namespace Go.Proofs.Ytapombdkkcjodaa
open Go.RowKit

set_option maxRecDepth 4000 in
set_option maxHeartbeats 4000000 in
theorem walkFnReadShelf (a : Option Addr) (len cap : Nat) (zs : List Int) (w : World) (h : IsRowK .u8 w a len cap zs) :
    Calls Try.prog 6 #[.slice a len cap] w fun e w' => e = .returned (.bool true) ∧ Below w.heap.size w w' := by
  by_cases hs : 1048576 < len
  · have h2 : (1048576 : Int) < (len : Int) := by omega
    go_enter Try.func6, Try.ntmps6
    go_wp2
    go_ret
    exact ⟨rfl, Below.refl _ _⟩
  go_enter Try.func6, Try.ntmps6
  go_wp2_with fail
  refine (DrawReadShelf_any _ _ _ _ _ h).mono ?_
  rintro e w0 ⟨s, rfl, hs25, b0⟩
  clear h hs
  rcases read_cases s with hR | ⟨R, hR, hok, hf, ht, hlen⟩
  · have c1 := fun w => implRead_any s [] false w hR (by omega)
    have c2 := fun w => specRead_any s [] false w hR (by omega)
    clear hR
    go_wp2_with fail
    refine (c1 _).mono ?_
    rintro e w1 ⟨a1, n1, d1, rfl, o1⟩
    have E1 := Lib.hid (enAt_of o1.own)
    have hn1 : n1 = 0 := E1.out.len
    subst hn1
    have B1 := b0.trans (o1.below.mono b0.size)
    clear o1 b0
    go_wp2_with fail
    refine (c2 _).mono ?_
    rintro e w2 ⟨a2, n2, d2, rfl, o2⟩
    have E2 := Lib.hid (enAt_of o2.own)
    have E1 := Lib.hid (E1.out.later o2.below)
    have B2 := B1.trans (o2.below.mono B1.size)
    clear o2 B1
    go_wp2_with fail
    refine (sameEnts_w [] _ _ _ _ _ _ _ E1.out E2.out (by simp)).mono ?_
    rintro e w3 ⟨rfl, b3⟩
    have B3 := B2.trans (b3.mono B2.size)
    clear b3 B2
    go_wp2_with fail
    refine (alive_any _).mono ?_
    rintro e w4 ⟨rfl, rfl⟩
    go_wp2
    go_ret
    exact ⟨rfl, B3⟩
  · have c1 := fun w => implRead_any s R true w hR (by omega)
    have c2 := fun w => specRead_any s R true w hR (by omega)
    have HOK := Lib.hid hok
    have HF := Lib.hid hf
    have HT := Lib.hid ht
    clear hR hok hf ht
    go_wp2_with fail
    refine (c1 _).mono ?_
    rintro e w1 ⟨a1, n1, d1, rfl, o1⟩
    have E1 := Lib.hid (enAt_of o1.own)
    have B1 := b0.trans (o1.below.mono b0.size)
    clear o1 b0
    go_wp2_with fail
    refine (c2 _).mono ?_
    rintro e w2 ⟨a2, n2, d2, rfl, o2⟩
    have E2 := Lib.hid (enAt_of o2.own)
    have E1 := Lib.hid (E1.out.later o2.below)
    have B2 := B1.trans (o2.below.mono B1.size)
    clear o2 B1
    go_wp2_with fail
    refine (sameEnts_w R _ _ _ _ _ _ _ E1.out E2.out (by omega)).mono ?_
    rintro e w3 ⟨rfl, b3⟩
    have E1 := Lib.hid (E1.out.later b3)
    have B3 := B2.trans (b3.mono B2.size)
    clear b3 B2
    go_wp2_with fail
    refine (implOk_w true R _ _ _ _ ⟨fun _ => HOK.out, fun _ => rfl⟩ E1.out (by omega)).mono ?_
    rintro e w4 ⟨rfl, b4⟩
    have E1 := Lib.hid (E1.out.later b4)
    have B4 := B3.trans (b4.mono B3.size)
    clear b4 B3
    have ct := implText_any R _ _ d1 w4 E1.out.len (by have := E1.out.len; omega) HF.out E1.out.at_
    rw [HT.out] at ct
    go_wp2_with fail
    refine ct.mono ?_
    rintro e w5 ⟨rfl, b5⟩
    have B5 := B4.trans (b5.mono B4.size)
    clear b5 B4 ct
    go_wp2_with fail
    refine (alive_any _).mono ?_
    rintro e w6 ⟨rfl, rfl⟩
    go_wp2
    go_ret
    exact ⟨rfl, B5⟩

end Go.Proofs.Ytapombdkkcjodaa
