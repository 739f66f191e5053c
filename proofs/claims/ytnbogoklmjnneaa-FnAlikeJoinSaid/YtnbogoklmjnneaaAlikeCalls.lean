/-
  The contracts of the functions IsAlike, SameAlike and SpanBack (the program's and the model's). Condition: each text has at most 2^20 bytes.
-/
import Derived.Test.YtnbogoklmjnneaaAlike
import Derived.Deep.QuietTactic
import Derived.BigQuiet
import Derived.IntWalk
namespace Go.Proofs.Ytnbogoklmjnneaa
open Go.RowKit

theorem implIsAlike_any (s : ByteArray) (w : World) (hs : s.size ≤ 1048576) :
    Calls Try.prog 23 #[.string s] w fun e w' => e = .returned (.bool ((alikeB s).toList == s.toList)) ∧ Below w.heap.size w w' := by
  go_enter Try.func23, Try.ntmps23
  go_wp2_with (go_at_call 18; refine (implAlike_any _ _ hs).mono ?_; rintro e w1 ⟨a, n, c, rfl, hown, hb⟩)
  go_ret
  exact ⟨rfl, hb⟩

theorem implSameAlike_any (s t : ByteArray) (w : World) (hs : s.size ≤ 1048576) (ht : t.size ≤ 1048576) :
    Calls Try.prog 26 #[.string s, .string t] w fun e w' => e = .returned (.bool ((alikeB s).toList == (alikeB t).toList)) ∧ Below w.heap.size w w' := by
  go_enter Try.func26, Try.ntmps26
  go_wp2_with fail
  refine (implAlike_any _ _ hs).mono ?_
  rintro e w1 ⟨a, n, c, rfl, hown, hb⟩
  go_wp2_with fail
  refine (implAlike_any _ _ ht).mono ?_
  rintro e w2 ⟨a2, n2, c2, rfl, hown2, hb2⟩
  go_wp2
  go_ret
  exact ⟨rfl, hb.trans (hb2.mono hb.size)⟩

theorem implSpanBack_no (s : ByteArray) (x y : Int) (w : World) (hs : s.size ≤ 1048576) (h : x < 0 ∨ ((alikeP s.data.toList).length : Int) < y ∨ y ≤ x) :
    Calls Try.prog 30 #[.string s, .int .i64 x, .int .i64 y] w fun e w' => e = .returned (.tuple #[.int .i64 0, .int .i64 0, .bool false]) ∧ Below w.heap.size w w' := by
  go_enter Try.func30, Try.ntmps30
  go_wp2_with fail
  refine (implAlike_any _ _ hs).mono ?_
  rintro e w1 ⟨a, n, c, rfl, hown, hb⟩
  have hn := (intsAt_own hown).1
  have hn9 : n ≤ 1048576 := by
    have := alikeT_len s.data.toList
    have e : s.data.toList.length = s.size := rfl
    omega
  rw [← hn] at h
  clear hn
  by_cases h1 : x < 0
  · go_wp2
    go_ret3
    exact ⟨rfl, hb⟩
  · by_cases h2 : (n : Int) < y
    · go_wp2
      go_ret3
      exact ⟨rfl, hb⟩
    · have h3 : y ≤ x := by omega
      go_wp2
      go_ret3
      exact ⟨rfl, hb⟩

theorem implSpanBack_yes (s : ByteArray) (x y : Nat) (w : World) (hs : s.size ≤ 1048576) (h1 : x ≤ y) (h2 : y < (alikeP s.data.toList).length) :
    Calls Try.prog 30 #[.string s, .int .i64 x, .int .i64 (y + 1)] w fun e w' => e = .returned (.tuple #[.int .i64 ((alikeP s.data.toList).getD x 0), .int .i64 ((alikeP s.data.toList).getD y 0 + 1), .bool true]) ∧ Below w.heap.size w w' := by
  go_enter Try.func30, Try.ntmps30
  go_wp2_with fail
  refine (implAlike_any _ _ hs).mono ?_
  rintro e w1 ⟨a, n, c, rfl, hown, hb⟩
  obtain ⟨hn, hat⟩ := intsAt_own hown
  have hlen := alikeT_len s.data.toList
  have hsz : s.data.toList.length = s.size := rfl
  obtain ⟨b, o, rfl, hc⟩ := hat.spot (fun h0 => by rw [h0] at h2; simp at h2)
  have b1 := alikeP_bound s.data.toList x (by omega)
  have b2 := alikeP_bound s.data.toList y (by omega)
  have c1 := hc x (by omega)
  have c2 := hc y (by omega)
  rw [← hn] at h2 hlen
  clear hc hn hat hown
  obtain ⟨p, hp⟩ : ∃ p, (alikeP s.data.toList).getD x 0 = p := ⟨_, rfl⟩
  obtain ⟨q, hq⟩ : ∃ q, (alikeP s.data.toList).getD y 0 = q := ⟨_, rfl⟩
  rw [hp] at b1 c1
  rw [hq] at b2 c2
  have HP := Lib.hid hp
  have HQ := Lib.hid hq
  clear hp hq
  have w1' : IntKind.i64.wrap ((y : Int) + 1 - 1) = y := by rw [IntWalk.i64_in _ (by omega)]; omega
  have w2' : IntKind.i64.wrap (q + 1) = q + 1 := IntWalk.i64_in _ (by omega)
  go_wp2
  go_quiet (fail)
  go_wp2
  go_ret3
  exact ⟨by rw [HP.out, HQ.out]; first | done | rfl, ⟨hb.os, hb.tape, hb.output, hb.size, hb.block⟩⟩

theorem specIsAlike_any (s : ByteArray) (w : World) (hs : s.size ≤ 1048576) :
    Calls Try.prog 24 #[.string s] w fun e w' => e = .returned (.bool ((alikeB s).toList == s.toList)) ∧ Below w.heap.size w w' := by
  go_enter Try.func24, Try.ntmps24
  go_wp2_with (go_at_call 19; refine (specAlike_any _ _ hs).mono ?_; rintro e w1 ⟨a, n, c, rfl, hown, hb⟩)
  go_ret
  exact ⟨rfl, hb⟩

theorem specSameAlike_any (s t : ByteArray) (w : World) (hs : s.size ≤ 1048576) (ht : t.size ≤ 1048576) :
    Calls Try.prog 27 #[.string s, .string t] w fun e w' => e = .returned (.bool ((alikeB s).toList == (alikeB t).toList)) ∧ Below w.heap.size w w' := by
  go_enter Try.func27, Try.ntmps27
  go_wp2_with fail
  refine (specAlike_any _ _ hs).mono ?_
  rintro e w1 ⟨a, n, c, rfl, hown, hb⟩
  go_wp2_with fail
  refine (specAlike_any _ _ ht).mono ?_
  rintro e w2 ⟨a2, n2, c2, rfl, hown2, hb2⟩
  go_wp2
  go_ret
  exact ⟨rfl, hb.trans (hb2.mono hb.size)⟩

theorem specSpanBack_no (s : ByteArray) (x y : Int) (w : World) (hs : s.size ≤ 1048576) (h : x < 0 ∨ ((alikeP s.data.toList).length : Int) < y ∨ y ≤ x) :
    Calls Try.prog 31 #[.string s, .int .i64 x, .int .i64 y] w fun e w' => e = .returned (.tuple #[.int .i64 0, .int .i64 0, .bool false]) ∧ Below w.heap.size w w' := by
  go_enter Try.func31, Try.ntmps31
  go_wp2_with fail
  refine (specAlike_any _ _ hs).mono ?_
  rintro e w1 ⟨a, n, c, rfl, hown, hb⟩
  have hn := (intsAt_own hown).1
  have hn9 : n ≤ 1048576 := by
    have := alikeT_len s.data.toList
    have e : s.data.toList.length = s.size := rfl
    omega
  rw [← hn] at h
  clear hn
  by_cases h1 : x < 0
  · go_wp2
    go_ret3
    exact ⟨rfl, hb⟩
  · by_cases h2 : (n : Int) < y
    · go_wp2
      go_ret3
      exact ⟨rfl, hb⟩
    · have h3 : y ≤ x := by omega
      go_wp2
      go_ret3
      exact ⟨rfl, hb⟩

theorem specSpanBack_yes (s : ByteArray) (x y : Nat) (w : World) (hs : s.size ≤ 1048576) (h1 : x ≤ y) (h2 : y < (alikeP s.data.toList).length) :
    Calls Try.prog 31 #[.string s, .int .i64 x, .int .i64 (y + 1)] w fun e w' => e = .returned (.tuple #[.int .i64 ((alikeP s.data.toList).getD x 0), .int .i64 ((alikeP s.data.toList).getD y 0 + 1), .bool true]) ∧ Below w.heap.size w w' := by
  go_enter Try.func31, Try.ntmps31
  go_wp2_with fail
  refine (specAlike_any _ _ hs).mono ?_
  rintro e w1 ⟨a, n, c, rfl, hown, hb⟩
  obtain ⟨hn, hat⟩ := intsAt_own hown
  have hlen := alikeT_len s.data.toList
  have hsz : s.data.toList.length = s.size := rfl
  obtain ⟨b, o, rfl, hc⟩ := hat.spot (fun h0 => by rw [h0] at h2; simp at h2)
  have b1 := alikeP_bound s.data.toList x (by omega)
  have b2 := alikeP_bound s.data.toList y (by omega)
  have c1 := hc x (by omega)
  have c2 := hc y (by omega)
  rw [← hn] at h2 hlen
  clear hc hn hat hown
  obtain ⟨p, hp⟩ : ∃ p, (alikeP s.data.toList).getD x 0 = p := ⟨_, rfl⟩
  obtain ⟨q, hq⟩ : ∃ q, (alikeP s.data.toList).getD y 0 = q := ⟨_, rfl⟩
  rw [hp] at b1 c1
  rw [hq] at b2 c2
  have HP := Lib.hid hp
  have HQ := Lib.hid hq
  clear hp hq
  have w1' : IntKind.i64.wrap ((y : Int) + 1 - 1) = y := by rw [IntWalk.i64_in _ (by omega)]; omega
  have w2' : IntKind.i64.wrap (q + 1) = q + 1 := IntWalk.i64_in _ (by omega)
  go_wp2
  go_quiet (fail)
  go_wp2
  go_ret3
  exact ⟨by rw [HP.out, HQ.out]; first | done | rfl, ⟨hb.os, hb.tape, hb.output, hb.size, hb.block⟩⟩

end Go.Proofs.Ytnbogoklmjnneaa
