/-
  The walks of chapter 6's laws ShelfText and ShelfShort, over drawn shelves: each returns true, and nothing that was there is written. No conditions.
-/
import Derived.Test.YtapombdkkcjodaaLawsTZA
import Derived.Test.YtapombdkkcjodaaDrawS
namespace Go.Proofs.Ytapombdkkcjodaa
open Go.RowKit

theorem text_small {L : List En} (h : shOk L) (hf : ∀ x ∈ L, fits x) (hl : L.length ≤ 41) : (textB L).size ≤ 1200 := by
  rw [← bytesN_len, bytesN_text h, textE, List.length_append]
  have h1 := putN_nine (n := L.length) (by omega)
  have h2 := encE_most (last := none) (l := L) h.1 hf (fun y hy => by cases hy)
  omega
theorem text_read {L : List En} (h : shOk L) (hf : ∀ x ∈ L, fits x) (hl : L.length ≤ 41) : readT wrap64 (textB L) = (L, true) := readT_yes wrap_sums h hf (by omega) rfl
theorem text_part {L : List En} (h : shOk L) {R : ByteArray} (hR : textB L = R) {k : Nat} (hk : k < R.size) : readT wrap64 (R.extract 0 k) = ([], false) := by
  refine readT_part wrap_sums h (t := R.extract k R.size) (by rw [ByteArray.size_extract]; omega) ?_
  rw [hR]
  apply bytesN_inj
  rw [bytesN_append, bytesN_extract, bytesN_extract, List.drop_zero]
  have e : (bytesN R).take R.size = bytesN R := List.take_of_length_le (by rw [bytesN_len]; exact Nat.le_refl _)
  rw [e, List.take_append_drop]
theorem text_more {L : List En} (h : shOk L) {R : ByteArray} (hR : textB L = R) : readT wrap64 (R ++ ⟨#[0]⟩) = ([], false) := by
  rw [← hR]
  exact readT_more wrap_sums h (by decide)

set_option maxRecDepth 4000 in
set_option maxHeartbeats 4000000 in
theorem walkFnShelfText (a : Option Addr) (len cap : Nat) (zs : List Int) (w : World) (h : IsRowK .u8 w a len cap zs) :
    Calls Try.prog 5 #[.slice a len cap] w fun e w' => e = .returned (.bool true) ∧ Below w.heap.size w w' := by
  by_cases hs : 1048576 < len
  · have h2 : (1048576 : Int) < (len : Int) := by omega
    go_enter Try.func5, Try.ntmps5
    go_wp2
    go_ret
    exact ⟨rfl, Below.refl _ _⟩
  go_enter Try.func5, Try.ntmps5
  go_wp2_with fail
  refine (DrawShelfText_any _ _ _ _ _ h).mono ?_
  rintro e w1 ⟨L, a1, n1, c1, rfl, hL, hf, hE, b1⟩
  have HN := Lib.hid hE.len
  have HF := Lib.hid hf
  have hn9 : n1 ≤ 41 := by have := hE.len; omega
  have E1 := Lib.hid hE
  clear h hf hE hs
  obtain ⟨R, hR⟩ : ∃ R, textB L = R := ⟨_, rfl⟩
  have HR := Lib.hid hR
  have ct := implText_any L a1 n1 c1 w1 HN.out (by omega) HF.out E1.out.at_
  rw [hR] at ct
  go_wp2_with fail
  refine ct.mono ?_
  rintro e w2 ⟨rfl, b2⟩
  have E2 := Lib.hid (E1.out.later b2)
  have B2 := b1.trans (b2.mono b1.size)
  have cs := specText_any L a1 n1 c1 w2 HN.out (by omega) HF.out E2.out.at_
  rw [hR] at cs
  clear ct b1 b2 E1
  go_wp2_with fail
  refine cs.mono ?_
  rintro e w3 ⟨rfl, b3⟩
  have E3 := Lib.hid (E2.out.later b3)
  have B3 := B2.trans (b3.mono B2.size)
  clear cs b3 E2 B2
  by_cases hok : shOk L
  · have c4 := fun w h => implOk_w true L a1 n1 c1 w ⟨fun _ => hok, fun _ => rfl⟩ h (by omega)
    have hrd := text_read hok HF.out hL
    have hsm := text_small hok HF.out hL
    rw [hR] at hrd hsm
    have c5 := fun w => implRead_any R L true w hrd (by omega)
    clear hR hrd hok
    go_wp2_with fail
    refine (c4 _ E3.out).mono ?_
    rintro e w4 ⟨rfl, b4⟩
    have E4 := Lib.hid (E3.out.later b4)
    have B4 := B3.trans (b4.mono B3.size)
    clear b4 B3 E3 c4
    go_wp2_with fail
    refine (c5 _).mono ?_
    rintro e w5 ⟨a5, n5, d5, rfl, o5⟩
    have E5 := Lib.hid (E4.out.later o5.below)
    have F5 := Lib.hid (enAt_of o5.own)
    have B5 := B4.trans (o5.below.mono B4.size)
    clear o5 B4 E4 c5
    go_wp2_with fail
    refine (sameEnts_w L _ _ _ _ _ _ _ F5.out E5.out (by omega)).mono ?_
    rintro e w6 ⟨rfl, b6⟩
    have B6 := B5.trans (b6.mono B5.size)
    clear b6 B5
    go_wp2_with fail
    refine (alive_any _).mono ?_
    rintro e w7 ⟨rfl, rfl⟩
    go_wp2
    go_ret
    exact ⟨rfl, B6⟩
  · have c4 := fun w h => implOk_w false L a1 n1 c1 w ⟨fun h => absurd h (by decide), fun h => absurd h hok⟩ h (by omega)
    obtain rfl : R = ⟨#[]⟩ := by rw [← hR]; exact textB_not hok
    clear hR hok
    go_wp2_with fail
    refine (c4 _ E3.out).mono ?_
    rintro e w4 ⟨rfl, b4⟩
    have B4 := B3.trans (b4.mono B3.size)
    clear b4 B3 c4
    go_wp2_with fail
    refine (alive_any _).mono ?_
    rintro e w7 ⟨rfl, rfl⟩
    go_wp2
    go_ret
    exact ⟨rfl, B4⟩

set_option maxRecDepth 4000 in
set_option maxHeartbeats 4000000 in
theorem walkFnShelfShort (a : Option Addr) (len cap : Nat) (zs : List Int) (w : World) (h : IsRowK .u8 w a len cap zs) :
    Calls Try.prog 7 #[.slice a len cap] w fun e w' => e = .returned (.bool true) ∧ Below w.heap.size w w' := by
  by_cases hs : 1048576 < len
  · have h2 : (1048576 : Int) < (len : Int) := by omega
    go_enter Try.func7, Try.ntmps7
    go_wp2
    go_ret
    exact ⟨rfl, Below.refl _ _⟩
  go_enter Try.func7, Try.ntmps7
  go_wp2_with fail
  refine (DrawShelfText_any _ _ _ _ _ h).mono ?_
  rintro e w1 ⟨L, a1, n1, c1, rfl, hL, hf, hE, b1⟩
  have HN := Lib.hid hE.len
  have HF := Lib.hid hf
  have hn9 : n1 ≤ 41 := by have := hE.len; omega
  have E1 := Lib.hid hE
  clear h hf hE hs
  obtain ⟨R, hR⟩ : ∃ R, textB L = R := ⟨_, rfl⟩
  by_cases hok : shOk L
  · have c4 := fun w h => implOk_w true L a1 n1 c1 w ⟨fun _ => hok, fun _ => rfl⟩ h (by omega)
    have HPART := Lib.hid (show ∀ k, k < R.size → readT wrap64 (R.extract 0 k) = ([], false) from fun k hk => text_part hok hR hk)
    have hmore := text_more hok hR
    have hsm := text_small hok HF.out hL
    have hsz := textB_size hok
    rw [hR] at hsm hsz
    have hsz2 : 1 + 3 * n1 ≤ R.size := by rw [HN.out]; exact hsz
    have c6 := fun w => implRead_any (R ++ ⟨#[0]⟩) [] false w hmore (by rw [ByteArray.size_append]; show R.size + 1 ≤ _; omega)
    have HC6 := Lib.hid c6
    clear hmore hok hsz c6
    go_wp2_with fail
    refine (c4 _ E1.out).mono ?_
    rintro e w2 ⟨rfl, b2⟩
    have E2 := Lib.hid (E1.out.later b2)
    have B2 := b1.trans (b2.mono b1.size)
    have ct := implText_any L a1 n1 c1 w2 HN.out (by omega) HF.out E2.out.at_
    rw [hR] at ct
    clear b1 b2 E1 c4 hR
    go_wp2_with fail
    refine ct.mono ?_
    rintro e w3 ⟨rfl, b3⟩
    have B3 := B2.trans (b3.mono B2.size)
    clear ct b3 B2
    go_wp2
    go_loopw [5] (fun i wr => ∃ k : Nat, k ≤ R.size ∧ i = .int .i64 k ∧ Below w.heap.size w wr) (fun i _ => R.size - (intOf i).toNat)
    case atStart => exact ⟨0, Nat.zero_le _, rfl, B3⟩
    case round =>
      obtain ⟨k, hk, rfl, B⟩ := hrel
      by_cases hlt : k < R.size
      · obtain ⟨P, hP⟩ : ∃ P, R.extract 0 k = P := ⟨_, rfl⟩
        have hp := HPART.out k hlt
        rw [hP] at hp
        have hpz : P.size ≤ 1200 := by rw [← hP, ByteArray.size_extract]; omega
        have c5 := fun w => implRead_any P [] false w hp (by omega)
        have hz1 : (k : Int) < (R.size : Int) := by omega
        have hz0 : (0 : Int) ≤ (k : Int) := by omega
        have hz2 : (k : Int) ≤ (R.size : Int) := by omega
        clear hp
        go_wp2_with fail
        refine (c5 _).mono ?_
        rintro e w5 ⟨a5, n5, d5, rfl, o5⟩
        have B5 := B.trans (o5.below.mono B.size)
        clear o5 c5
        go_wp2
        go_roundw
        case rel => exact ⟨k + 1, by omega, by go_num, B5⟩
        case measure => simp [intOf]; omega
      · go_wp2_with fail
        refine (HC6.out _).mono ?_
        rintro e w5 ⟨a5, n5, d5, rfl, o5⟩
        have B5 := B.trans (o5.below.mono B.size)
        have hz3 : (1 : Int) + 3 * (n1 : Int) ≤ (R.size : Int) := by omega
        clear o5
        go_wp2_with fail
        refine (alive_any _).mono ?_
        rintro e w7 ⟨rfl, rfl⟩
        go_wp2
        go_ret
        exact ⟨rfl, B5⟩
  · have c4 := fun w h => implOk_w false L a1 n1 c1 w ⟨fun h => absurd h (by decide), fun h => absurd h hok⟩ h (by omega)
    clear hok
    go_wp2_with fail
    refine (c4 _ E1.out).mono ?_
    rintro e w2 ⟨rfl, b2⟩
    have E2 := Lib.hid (E1.out.later b2)
    have B2 := b1.trans (b2.mono b1.size)
    have ct := implText_any L a1 n1 c1 w2 HN.out (by omega) HF.out E2.out.at_
    rw [hR] at ct
    clear b1 b2 E1 c4
    go_wp2_with fail
    refine ct.mono ?_
    rintro e w3 ⟨rfl, b3⟩
    have E3 := Lib.hid (E2.out.later b3)
    have B3 := B2.trans (b3.mono B2.size)
    have cs := specText_any L a1 n1 c1 w3 HN.out (by omega) HF.out E3.out.at_
    rw [hR] at cs
    clear ct b3 B2 E2
    go_wp2_with fail
    refine cs.mono ?_
    rintro e w4 ⟨rfl, b4⟩
    have B4 := B3.trans (b4.mono B3.size)
    clear cs b4 B3 hR
    go_wp2_with fail
    refine (alive_any _).mono ?_
    rintro e w7 ⟨rfl, rfl⟩
    go_wp2
    go_ret
    exact ⟨rfl, B4⟩

end Go.Proofs.Ytapombdkkcjodaa
