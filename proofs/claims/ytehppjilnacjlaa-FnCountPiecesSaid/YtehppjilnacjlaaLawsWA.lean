/-
  The walks of the laws HasPiece and AnyHasPiece: each answers true, and nothing that was there is written. No conditions. (Written by wip/tools/ch9_laws.py.)
-/
import Derived.Test.YtehppjilnacjlaaHelpQ
import Derived.Test.YtehppjilnacjlaaPcsI
import Derived.Test.YtehppjilnacjlaaDraw9
namespace Go.Proofs.Ytehppjilnacjlaa
open Go.RowKit

theorem some_boolW (P : Prop) : ∃ r : Bool, r = true ↔ P := by
  by_cases h : P
  · exact ⟨true, fun _ => h, fun _ => rfl⟩
  · exact ⟨false, (fun e => absurd e (by decide)), (fun e => absurd e h)⟩

set_option maxRecDepth 4000 in
set_option maxHeartbeats 8000000 in
theorem walkFnHasPiece (a : Option Addr) (len cap : Nat) (zs : List Int) (w : World) (h : IsRowK .u8 w a len cap zs) :
    Calls Try.prog 5 #[.slice a len cap] w fun e w' => e = .returned (.bool true) ∧ Below w.heap.size w w' := by
  by_cases hs : 1048576 < len
  · have h2 : (1048576 : Int) < (len : Int) := by omega
    go_enter Try.func5, Try.ntmps5
    go_wp2
    go_ret
    exact ⟨rfl, Below.refl _ _⟩
  go_enter Try.func5, Try.ntmps5
  go_wp2_with fail
  refine (DrawHasPiece_any _ _ _ _ _ h).mono ?_
  rintro e w0 ⟨t, u, ht, hu, rfl, BB⟩
  clear h hs
  obtain ⟨r, hr⟩ := some_boolW (pcIn t.data.toList u.data.toList)
  have c1 := fun w => implHas_any t u r w hr (by omega) (by omega)
  have c2 := fun w => isIn_is r t u w hr (by omega) (by omega)
  have c3 := fun w => specHas_any t u r w hr (by omega) (by omega)
  have c4 := fun w => implHas_any t ({ data := #[] } : ByteArray) true w ⟨fun _ => pc_nil _, fun _ => rfl⟩ (by omega) (Nat.zero_le _)
  have c5 := fun w => implHas_any t t true w ⟨fun _ => pc_suffix (List.suffix_refl _), fun _ => rfl⟩ (by omega) (by omega)
  have t1 : (r == r) = true := beq_self_eq_true _
  clear hr
  go_wp2_with fail
  refine (c1 _).mono ?_
  rintro e wq ⟨rfl, hb⟩
  replace BB := BB.trans (hb.mono BB.size)
  clear hb
  go_wp2_with fail
  refine (c2 _).mono ?_
  rintro e wq ⟨rfl, rfl⟩
  go_wp2_with fail
  refine (c3 _).mono ?_
  rintro e wq ⟨rfl, hb⟩
  replace BB := BB.trans (hb.mono BB.size)
  clear hb
  go_wp2_with fail
  refine (c4 _).mono ?_
  rintro e wq ⟨rfl, hb⟩
  replace BB := BB.trans (hb.mono BB.size)
  clear hb
  go_wp2_with fail
  refine (c5 _).mono ?_
  rintro e wq ⟨rfl, hb⟩
  replace BB := BB.trans (hb.mono BB.size)
  clear hb
  go_wp2_with fail
  refine (alive_any _).mono ?_
  rintro e wq ⟨rfl, rfl⟩
  go_wp2
  go_ret
  exact ⟨rfl, BB⟩

set_option maxRecDepth 4000 in
set_option maxHeartbeats 8000000 in
theorem walkFnAnyHasPiece (s : ByteArray) (p : ByteArray) (w : World) (_ws : s.size ≤ maxLen) (_wp : p.size ≤ maxLen) :
    Calls Try.prog 11 #[.string s, .string p] w fun e w' => e = .returned (.bool true) ∧ Below w.heap.size w w' := by
  by_cases hs : 1000 < s.size
  · have cb := fun w => bigText_is true s 1000 w (decide_eq_true (by omega))
    have BB : Below w.heap.size w w := Below.refl _ _
    go_enter Try.func11, Try.ntmps11
    go_wp2_with fail
    refine (cb _).mono ?_
    rintro e wq ⟨rfl, rfl⟩
    go_wp2_with fail
    refine (alive_any _).mono ?_
    rintro e wq ⟨rfl, rfl⟩
    go_wp2
    go_ret
    exact ⟨rfl, BB⟩
  have cbs := fun w => bigText_is false s 1000 w (decide_eq_false (by omega))
  have hs9 : s.size ≤ 1000 := by omega
  clear hs
  by_cases hp : 1000 < p.size
  · have cb := fun w => bigText_is true p 1000 w (decide_eq_true (by omega))
    have BB : Below w.heap.size w w := Below.refl _ _
    go_enter Try.func11, Try.ntmps11
    go_wp2_with fail
    refine (cbs _).mono ?_
    rintro e wq ⟨rfl, rfl⟩
    go_wp2_with fail
    refine (cb _).mono ?_
    rintro e wq ⟨rfl, rfl⟩
    go_wp2_with fail
    refine (alive_any _).mono ?_
    rintro e wq ⟨rfl, rfl⟩
    go_wp2
    go_ret
    exact ⟨rfl, BB⟩
  have cbp := fun w => bigText_is false p 1000 w (decide_eq_false (by omega))
  have hp9 : p.size ≤ 1000 := by omega
  clear hp
  go_enter Try.func11, Try.ntmps11
  go_wp2_with fail
  refine (cbs _).mono ?_
  rintro e wq ⟨rfl, rfl⟩
  go_wp2_with fail
  refine (cbp _).mono ?_
  rintro e wq ⟨rfl, rfl⟩
  have BB : Below w.heap.size w w := Below.refl _ _
  clear cbs cbp
  obtain ⟨r, hr⟩ := some_boolW (pcIn s.data.toList p.data.toList)
  have c1 := fun w => implHas_any s p r w hr (by omega) (by omega)
  have c2 := fun w => isIn_is r s p w hr (by omega) (by omega)
  have c3 := fun w => specHas_any s p r w hr (by omega) (by omega)
  have c4 := fun w => implHas_any s ({ data := #[] } : ByteArray) true w ⟨fun _ => pc_nil _, fun _ => rfl⟩ (by omega) (Nat.zero_le _)
  have c5 := fun w => implHas_any s s true w ⟨fun _ => pc_suffix (List.suffix_refl _), fun _ => rfl⟩ (by omega) (by omega)
  have t1 : (r == r) = true := beq_self_eq_true _
  clear hr
  go_wp2_with fail
  refine (c1 _).mono ?_
  rintro e wq ⟨rfl, hb⟩
  replace BB := BB.trans (hb.mono BB.size)
  clear hb
  go_wp2_with fail
  refine (c2 _).mono ?_
  rintro e wq ⟨rfl, rfl⟩
  go_wp2_with fail
  refine (c3 _).mono ?_
  rintro e wq ⟨rfl, hb⟩
  replace BB := BB.trans (hb.mono BB.size)
  clear hb
  go_wp2_with fail
  refine (c4 _).mono ?_
  rintro e wq ⟨rfl, hb⟩
  replace BB := BB.trans (hb.mono BB.size)
  clear hb
  go_wp2_with fail
  refine (c5 _).mono ?_
  rintro e wq ⟨rfl, hb⟩
  replace BB := BB.trans (hb.mono BB.size)
  clear hb
  go_wp2_with fail
  refine (alive_any _).mono ?_
  rintro e wq ⟨rfl, rfl⟩
  go_wp2
  go_ret
  exact ⟨rfl, BB⟩

end Go.Proofs.Ytehppjilnacjlaa
