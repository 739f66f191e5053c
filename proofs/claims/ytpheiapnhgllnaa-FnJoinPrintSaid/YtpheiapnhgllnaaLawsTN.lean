/-
  The walks of chapter 3's laws PrintOf, JoinPrint and RollPrint over drawn texts: each returns true, and nothing that was there is written. No conditions.
-/
import Derived.Test.YtpheiapnhgllnaaPrintJ
import Derived.Test.YtpheiapnhgllnaaPrintRows
import Derived.Test.YtpheiapnhgllnaaDrawC
import Derived.Test.YtpheiapnhgllnaaHelpA
import Derived.Deep.RegionHeld3
namespace Go.Proofs.Ytpheiapnhgllnaa
open Go.RowKit

set_option maxHeartbeats 2000000 in
theorem walkFnPrintOf (a : Option Addr) (len cap : Nat) (zs : List Int) (w : World) (h : IsRowK .u8 w a len cap zs) :
    Calls Try.prog 3 #[.slice a len cap] w fun e w' => e = .returned (.bool true) ∧ Below w.heap.size w w' := by
  by_cases hs : len ≤ 1048576
  · go_enter Try.func3, Try.ntmps3
    go_wp2_with fail
    refine (DrawPrintOf_any _ _ _ _ _ h).mono ?_
    rintro e w1 ⟨t, ht, rfl, hb⟩
    clear h
    have hx9 := prN_lt t.data.toList
    obtain ⟨x, hx⟩ : ∃ x, prN t.data.toList = x := ⟨_, rfl⟩
    obtain ⟨y, hy⟩ : ∃ y, prStep x 120 = y := ⟨_, rfl⟩
    have hy2 : prN (t ++ ({ data := #[120] } : ByteArray)).data.toList = y := by
      rw [show (t ++ ({ data := #[120] } : ByteArray)).data.toList = t.data.toList ++ [120] by simp, prN_snoc, hx, hy]
    have et : ((x : Int) * 257 + 120 + 1).tmod 1000003 = (y : Int) := by rw [← hy]; exact tmod_nat _ (x * 257 + 120 + 1) (by omega)
    have hsz : (t ++ ({ data := #[120] } : ByteArray)).size ≤ 1048577 := by rw [size_append]; show t.size + 1 ≤ _; omega
    rw [hx] at hx9
    have c1 := fun w => implPrintOf_is t x w (by omega) hx
    have c2 := fun w => specPrintOf_is t x w (by omega) hx
    have c3 := fun w => implPrintOf_is (t ++ ({ data := #[120] } : ByteArray)) y w hsz hy2
    have c4 := fun w => implPrintOf_is ({ data := #[] } : ByteArray) 0 w (by show 0 ≤ _; omega) rfl
    clear hx hy hy2 hsz
    obtain ⟨X, hX⟩ : ∃ X : Int, (x : Int) = X := ⟨_, rfl⟩
    obtain ⟨Y, hY⟩ : ∃ Y : Int, (y : Int) = Y := ⟨_, rfl⟩
    have hX0 : 0 ≤ X := by omega
    have hX9 : X < 1000003 := by omega
    rw [hX, hY] at et
    simp only [hX] at c1 c2
    simp only [hY] at c3
    clear hX hY hx9
    go_wp2_with fail
    refine (c1 _).mono ?_
    rintro e w2 ⟨rfl, rfl⟩
    go_wp2_with fail
    refine (c2 _).mono ?_
    rintro e w2 ⟨rfl, rfl⟩
    go_wp2_with fail
    refine (c3 _).mono ?_
    rintro e w2 ⟨rfl, rfl⟩
    go_wp2_with fail
    refine (c4 _).mono ?_
    rintro e w2 ⟨rfl, rfl⟩
    go_wp2_with fail
    refine (alive_any _).mono ?_
    rintro e w2 ⟨rfl, rfl⟩
    go_wp2
    go_ret
    exact ⟨rfl, hb⟩
  · have h2 : (1048576 : Int) < (len : Int) := by omega
    go_enter Try.func3, Try.ntmps3
    go_wp2
    go_ret
    exact ⟨rfl, Below.refl _ _⟩

set_option maxHeartbeats 2000000 in
theorem walkFnJoinPrint (a : Option Addr) (len cap : Nat) (zs : List Int) (w : World) (h : IsRowK .u8 w a len cap zs) :
    Calls Try.prog 7 #[.slice a len cap] w fun e w' => e = .returned (.bool true) ∧ Below w.heap.size w w' := by
  by_cases hs : len ≤ 1048576
  · go_enter Try.func7, Try.ntmps7
    go_wp2_with fail
    refine (DrawJoinedPrints_any _ _ _ _ _ h).mono ?_
    rintro e w1 ⟨t, u, ht, hu, rfl, hb⟩
    clear h
    have hx9 := prN_lt t.data.toList
    have hy9 := prN_lt u.data.toList
    obtain ⟨x, hx⟩ : ∃ x, prN t.data.toList = x := ⟨_, rfl⟩
    obtain ⟨y, hy⟩ : ∃ y, prN u.data.toList = y := ⟨_, rfl⟩
    obtain ⟨z, hz⟩ : ∃ z, joinN x y u.size = z := ⟨_, rfl⟩
    have hz2 : prN (t ++ u).data.toList = z := by
      rw [show (t ++ u).data.toList = t.data.toList ++ u.data.toList by simp, prN_append, hx, hy]; exact hz
    have hsz : (t ++ u).size ≤ 1048577 := by rw [size_append]; omega
    rw [hx] at hx9
    rw [hy] at hy9
    have c1 := fun w => implPrintOf_is t x w (by omega) hx
    have c2 := fun w => implPrintOf_is u y w (by omega) hy
    have c3 := fun w => implJoinPrint_ok x y u.size z w hx9 hy9 (by omega) hz
    have c4 := fun w => implPrintOf_is (t ++ u) z w hsz hz2
    have c5 := fun w => implJoinPrint_bad (-1) 0 0 w (by omega)
    have c6 := fun w => implJoinPrint_bad 0 0 (-1) w (by omega)
    have c7 := fun w => implJoinPrint_bad 0 1000003 0 w (by omega)
    clear hx hy hz hz2 hsz
    go_wp2_with fail
    refine (c1 _).mono ?_
    rintro e w2 ⟨rfl, rfl⟩
    go_wp2_with fail
    refine (c2 _).mono ?_
    rintro e w2 ⟨rfl, rfl⟩
    go_wp2_with fail
    refine (c3 _).mono ?_
    rintro e w2 ⟨rfl, rfl⟩
    go_wp2_with fail
    refine (c4 _).mono ?_
    rintro e w2 ⟨rfl, rfl⟩
    go_wp2_with fail
    refine (c5 _).mono ?_
    rintro e w2 ⟨rfl, rfl⟩
    go_wp2_with fail
    refine (c6 _).mono ?_
    rintro e w2 ⟨rfl, rfl⟩
    go_wp2_with fail
    refine (c7 _).mono ?_
    rintro e w2 ⟨rfl, rfl⟩
    go_wp2_with fail
    refine (alive_any _).mono ?_
    rintro e w2 ⟨rfl, rfl⟩
    go_wp2
    go_ret
    exact ⟨rfl, hb⟩
  · have h2 : (1048576 : Int) < (len : Int) := by omega
    go_enter Try.func7, Try.ntmps7
    go_wp2
    go_ret
    exact ⟨rfl, Below.refl _ _⟩

end Go.Proofs.Ytpheiapnhgllnaa
