/-
  The walk of a law of chapter 1 over drawn texts (spans that go back): it returns true, and nothing that was there is written. No conditions.
-/
import Derived.Test.YtnbogoklmjnneaaLawsTD
import Derived.Laws.Strings2
namespace Go.Proofs.Ytnbogoklmjnneaa
open Go.RowKit

set_option maxHeartbeats 2000000 in
theorem walkFnSpanBack (a : Option Addr) (len cap : Nat) (zs : List Int) (w : World) (h : IsRowK .u8 w a len cap zs) :
    Calls Try.prog 9 #[.slice a len cap] w fun e w' => e = .returned (.bool true) ∧ Below w.heap.size w w' := by
  by_cases hs : len ≤ 1048576
  · go_enter Try.func9, Try.ntmps9
    go_wp2_with fail
    refine (DrawSpanBack_any _ _ _ _ _ h).mono ?_
    rintro e w0 ⟨s, x, y, hs0, hx1, hx2, hy1, hy2, rfl, hb0⟩
    clear h
    obtain ⟨T, hT⟩ : ∃ T, alikeB s = T := ⟨_, rfl⟩
    have hts : T.size ≤ 1000 := by have := alikeB_size s; rw [hT] at this; omega
    have hPl : (alikeP s.data.toList).length = T.size := by rw [← hT]; exact (alikeT_len s.data.toList).2
    by_cases hno : x < 0 ∨ ((alikeP s.data.toList).length : Int) < y ∨ y ≤ x
    · have c1 := fun w => specSpanBack_no s x y w (by omega) hno
      have c2 := fun w => implSpanBack_no s x y w (by omega) hno
      have HT := Lib.hid hT
      clear hno hPl hT
      go_wp2_with fail
      refine (c2 _).mono ?_
      rintro e w1 ⟨rfl, hb1⟩
      go_wp2_with fail
      refine (c1 _).mono ?_
      rintro e w2 ⟨rfl, hb2⟩
      go_wp2_with fail
      refine (implAlike_is s T _ (by omega) HT.out).mono ?_
      rintro e w3 ⟨a3, n3, c3, rfl, _, hb3⟩
      have hb : Below w.heap.size w w3 := (hb0.trans (hb1.mono hb0.size)).trans ((hb2.trans (hb3.mono hb2.size)).mono (by have := hb0.size; have := hb1.size; omega))
      clear hb0 hb1 hb2 hb3
      go_wp2_with fail
      refine (alive_any _).mono ?_
      rintro e w5 ⟨rfl, rfl⟩
      go_wp2
      go_ret
      exact ⟨rfl, hb⟩
    · obtain ⟨i, rfl⟩ : ∃ i : Nat, x = i := ⟨x.toNat, by omega⟩
      obtain ⟨j, rfl⟩ : ∃ j : Nat, y = j + 1 := ⟨(y - 1).toNat, by omega⟩
      have hij : i ≤ j := by omega
      have hjT : j < T.size := by omega
      have hiT : i < T.size := by omega
      have c1 := fun w => specSpanBack_yes s i j w (by omega) hij (by omega)
      have c2 := fun w => implSpanBack_yes s i j w (by omega) hij (by omega)
      have hspan := alikeB_span' s T hT i j hij hjT
      obtain ⟨p, hp⟩ : ∃ p : Nat, (alikeP s.data.toList).getD i 0 = p := ⟨_, (Int.toNat_of_nonneg (alike_places s.data.toList i (by omega)).1).symm⟩
      obtain ⟨q, hq⟩ : ∃ q : Nat, (alikeP s.data.toList).getD j 0 = q := ⟨_, (Int.toNat_of_nonneg (alike_places s.data.toList j (by omega)).1).symm⟩
      have hqs : q < s.size := by
        have := (alike_places s.data.toList j (by omega)).2.1
        have e : s.data.toList.length = s.size := rfl
        omega
      have hpq : p ≤ q := by
        have hm : ∀ d, i + d < (alikeP s.data.toList).length → (alikeP s.data.toList).getD i 0 ≤ (alikeP s.data.toList).getD (i + d) 0 := by
          intro d
          induction d with
          | zero => intro _; exact Int.le_refl _
          | succ d ih =>
            intro h
            have a := ih (by omega)
            have b := alike_rising s.data.toList (i + d) (by omega)
            rw [show i + (d + 1) = i + d + 1 from rfl]
            omega
        have := hm (j - i) (by omega)
        rw [show i + (j - i) = j by omega, hp, hq] at this
        omega
      simp only [hp, hq] at c1 c2 hspan
      rw [Int.toNat_natCast, Int.toNat_natCast] at hspan
      have HS := Lib.hid hspan
      have HT := Lib.hid hT
      clear hno hPl hspan hp hq hT
      go_wp2_with fail
      refine (c2 _).mono ?_
      rintro e w1 ⟨rfl, hb1⟩
      go_wp2_with fail
      refine (c1 _).mono ?_
      rintro e w2 ⟨rfl, hb2⟩
      go_wp2_with fail
      refine (implAlike_is s T _ (by omega) HT.out).mono ?_
      rintro e w3 ⟨a3, n3, c3, rfl, _, hb3⟩
      have hb : Below w.heap.size w w3 := (hb0.trans (hb1.mono hb0.size)).trans ((hb2.trans (hb3.mono hb2.size)).mono (by have := hb0.size; have := hb1.size; omega))
      clear hb0 hb1 hb2 hb3
      by_cases h1 : T[i].toNat = 32
      · have t1 : ((T[i].toNat : Int) == 32) = true := by rw [h1]; rfl
        clear h1
        go_wp2_with fail
        refine (alive_any _).mono ?_
        rintro e w5 ⟨rfl, rfl⟩
        go_wp2
        go_ret
        exact ⟨rfl, hb⟩
      · have t1 : ((T[i].toNat : Int) == 32) = false := by simp; omega
        by_cases h2 : T[j].toNat = 32
        · have t2 : ((T[j].toNat : Int) == 32) = true := by rw [h2]; rfl
          clear h1 h2
          go_wp2_with fail
          refine (alive_any _).mono ?_
          rintro e w5 ⟨rfl, rfl⟩
          go_wp2
          go_ret
          exact ⟨rfl, hb⟩
        · have t2 : ((T[j].toNat : Int) == 32) = false := by simp; omega
          have HP := Lib.hid (HS.out h1 h2)
          clear h1 h2
          have hes : (s.extract p (q + 1)).size ≤ 1048576 := by simp; omega
          have sl1 : ∀ w, (Instr.slice 9 (.string s) (some (.int .i64 p)) (some (.int .i64 ((q : Int) + 1))) none).run Try.prog w = .ok (.string (s.extract p (q + 1))) w := fun w => by
            have := run_slice_string (P := Try.prog) w 9 s .i64 .i64 p ((q : Int) + 1) Try.uls (by omega) (by omega) (by omega)
            rwa [Int.toNat_natCast, show ((q : Int) + 1).toNat = q + 1 by omega] at this
          have sl2 : ∀ w, (Instr.slice 9 (.string T) (some (.int .i64 i)) (some (.int .i64 ((j : Int) + 1))) none).run Try.prog w = .ok (.string (T.extract i (j + 1))) w := fun w => by
            have := run_slice_string (P := Try.prog) w 9 T .i64 .i64 i ((j : Int) + 1) Try.uls (by omega) (by omega) (by omega)
            rwa [Int.toNat_natCast, show ((j : Int) + 1).toNat = j + 1 by omega] at this
          go_wp2_with fail
          refine (implAlike_is (s.extract p (q + 1)) (T.extract i (j + 1)) _ hes HP.out).mono ?_
          rintro e w4 ⟨a4, n4, c4, rfl, _, hb4⟩
          have hB := hb.trans (hb4.mono hb.size)
          clear hb hb4
          go_wp2_with fail
          refine (alive_any _).mono ?_
          rintro e w5 ⟨rfl, rfl⟩
          go_wp2
          go_ret
          exact ⟨rfl, hB⟩
  · have h2 : (1048576 : Int) < (len : Int) := by omega
    go_enter Try.func9, Try.ntmps9
    go_wp2
    go_ret
    exact ⟨rfl, Below.refl _ _⟩

end Go.Proofs.Ytnbogoklmjnneaa
