/-
  The walks of chapter 2's laws TextsOf, Joined, WordAt over drawn texts: each returns true, and nothing that was there is written. No conditions.
-/
import Derived.Test.YtdcdminjoehiiaaHelpT2
import Derived.Test.YtdcdminjoehiiaaHelpA
import Derived.Test.YtdcdminjoehiiaaDrawB
import Derived.Test.YtdcdminjoehiiaaWordAt
namespace Go.Proofs.Ytdcdminjoehiiaa
open Go.RowKit

theorem wordsB_room (s : ByteArray) : (wordsB s).length ≤ s.size := by
  rw [wordsB_len]; exact wordsTo_len s.data.toList s.data.toList.length

set_option maxHeartbeats 2000000 in
theorem walkFnTextsOf (a : Option Addr) (len cap : Nat) (zs : List Int) (w : World) (h : IsRowK .u8 w a len cap zs) :
    Calls Try.prog 4 #[.slice a len cap] w fun e w' => e = .returned (.bool true) ∧ Below w.heap.size w w' := by
  by_cases hs : len ≤ 1048576
  · go_enter Try.func4, Try.ntmps4
    go_wp2_with fail
    refine (DrawTextsOf_any _ _ _ _ _ h).mono ?_
    rintro e w1 ⟨t, a1, n1, c1, ht, rfl, o1⟩
    have hn := one_words o1
    have hr := wordsB_room t
    have hn9 : n1 ≤ 1048576 := by omega
    obtain ⟨l, hl⟩ : ∃ l, wordsB t = l := ⟨_, rfl⟩
    rw [hl] at hn o1
    have HN := Lib.hid hn
    have HT := Lib.hid (show n1 = (textsM l).length by rw [textsM_len]; exact hn)
    clear h hn hr hl
    go_wp2_with fail
    refine (implTextsOf_any l _ _ _ _ HN.out hn9 o1.at_).mono ?_
    rintro e w2 ⟨a2, c2, rfl, o2⟩
    have o12 := o1.later o2.below
    clear o1
    go_wp2_with fail
    refine (specTextsOf_any l _ _ _ _ HN.out hn9 o12.at_).mono ?_
    rintro e w3 ⟨a3, c3, rfl, o3⟩
    have o13 := o12.later o3.below
    have o23 := o2.later o3.below
    clear o12 o2
    go_wp2_with fail
    refine (sameTexts_same _ _ _ _ _ (textsM l) _ HT.out (by omega) o23.at_ o3.at_).mono ?_
    rintro e w4 ⟨rfl, q, rfl⟩
    have hb := below_drewN' o13.below q
    clear o13 o23 o3
    go_wp2_with fail
    refine (alive_any _).mono ?_
    rintro e w5 ⟨rfl, rfl⟩
    go_wp2
    go_ret
    exact ⟨rfl, hb⟩
  · have h2 : (1048576 : Int) < (len : Int) := by omega
    go_enter Try.func4, Try.ntmps4
    go_wp2
    go_ret
    exact ⟨rfl, Below.refl _ _⟩

theorem joinL_size (xs : List ByteArray) (k : Nat) (h : k ≤ xs.length) : (joinL xs k).length = totalS (xs.take k) + (k - 1) := by
  induction k with
  | zero => simp [joinL, totalS]
  | succ k ih =>
    have h1 := ih (by omega)
    have h2 := totalS_take xs k (by omega)
    have h3 : (xs.getD k ⟨#[]⟩).data.toList.length = xs[k].size := by simp [List.getD, List.getElem?_eq_getElem (show k < xs.length by omega)]
    simp only [joinL, List.length_append, h3]
    split <;> simp <;> omega

theorem joinB_size (xs : List ByteArray) : (joinB xs).size = totalS xs + (xs.length - 1) := by
  have h := joinL_size xs xs.length (Nat.le_refl _)
  rw [List.take_length] at h
  show (joinL xs xs.length).toArray.size = _
  simpa using h

set_option maxHeartbeats 2000000 in
theorem walkFnJoined (a : Option Addr) (len cap : Nat) (zs : List Int) (w : World) (h : IsRowK .u8 w a len cap zs) :
    Calls Try.prog 5 #[.slice a len cap] w fun e w' => e = .returned (.bool true) ∧ Below w.heap.size w w' := by
  by_cases hs : len ≤ 1048576
  · go_enter Try.func5, Try.ntmps5
    go_wp2_with fail
    refine (DrawJoined_any _ _ _ _ _ h).mono ?_
    rintro e w1 ⟨a1, n1, c1, l, hf, rfl, o1⟩
    have hn : n1 = l.length := by have h := o1.len; rw [strsC_len] at h; omega
    have htot := fewT_total hf
    have hn9 : n1 ≤ 9 := by have := hf.1; omega
    have hsz : n1 + totalS l ≤ 1048576 := by omega
    have hJ := joinB_size l
    rw [← hn] at hJ
    obtain ⟨T, hT⟩ : ∃ T, joinB l = T := ⟨_, rfl⟩
    rw [hT] at hJ
    have HN := Lib.hid hn
    have HTT := Lib.hid hT
    have HJ := Lib.hid hJ
    have HF := Lib.hid hf
    have c1' := fun w a n c hn hl hat => implJoined_any l a n c w hn hl hat
    have c2' := fun w a n c hn hl hat => specJoined_any l a n c w hn hl hat
    simp only [hT] at c1' c2'
    have htt : totalS l ≤ 72 := htot
    clear h hn hf htot hT hJ
    go_wp2_with fail
    refine (c1' _ _ _ _ HN.out hsz o1.at_).mono ?_
    rintro e w2 ⟨rfl, b2⟩
    have o12 := o1.later b2
    have hat := o12.at_
    have hbel := o12.below
    have e1 : IntKind.i64.wrap ((n1 : Int) - 1) = (n1 : Int) - 1 := IntWalk.i64_in _ (by omega)
    clear o1 o12
    have key : ∀ z : Nat, z = totalS l + (n1 - 1) → ((T.size : Int) == (z : Int)) = true := fun z hz => by rw [hz, ← HJ.out]; simp
    have KEY := Lib.hid key
    clear key
    by_cases hz : 1 < n1
    · have tz : (0 : Int) < (n1 : Int) - 1 := by omega
      go_wp2
      go_loop [5, 6] (fun q i => ∃ k z : Nat, k ≤ n1 ∧ i = .int .i64 k ∧ q = .int .i64 z ∧ z ≤ 1000 ∧ Hid (z = totalS (l.take k) + (n1 - 1))) (fun _ i => n1 - (intOf i).toNat)
      case atStart =>
        exact ⟨0, n1 - 1, Nat.zero_le _, rfl, by congr 1; omega, by omega, Lib.hid (by simp [totalS])⟩
      case round =>
        obtain ⟨k, z, hk, rfl, rfl, hz9, HZ⟩ := hrel
        by_cases hlt : k < n1
        · have hkl : k < l.length := by rw [← HN.out]; exact hlt
          obtain ⟨b, o, rfl, _, hc⟩ := hat.str (fun e => by rw [e] at hkl; simp at hkl)
          have g1 := hc k hkl
          have ht1 := totalS_take l k hkl
          have hx8 := HF.out.2 (l[k]) (List.getElem_mem hkl)
          have hto := totalS_take_le l (k + 1)
          obtain ⟨x, hx⟩ : ∃ x, l[k] = x := ⟨_, rfl⟩
          rw [hx] at g1 ht1 hx8
          have H1 := Lib.hid ht1
          have hz8 : z + x.size ≤ 1000 := by have := HZ.out; omega
          clear hc hx ht1 hto
          go_wp2
          go_round
          case rel => exact ⟨k + 1, z + x.size, by omega, by go_num, by go_num, hz8, Lib.hid (by have h1 := HZ.out; have h2 := H1.out; omega)⟩
          case measure => simp [intOf]; omega
        · obtain rfl : k = n1 := by omega
          have hE : l.take k = l := List.take_of_length_le (by rw [HN.out]; exact Nat.le_refl _)
          have h1 := HZ.out
          rw [hE] at h1
          have tk := KEY.out z h1
          clear hE h1
          go_wp2_with fail
          refine (c2' _ _ _ _ HN.out hsz hat).mono ?_
          rintro e w3 ⟨rfl, rfl⟩
          go_wp2_with fail
          refine (alive_any _).mono ?_
          rintro e w5 ⟨rfl, rfl⟩
          go_wp2
          go_ret
          exact ⟨rfl, hbel⟩
    · have tz : ¬ (0 : Int) < (n1 : Int) - 1 := by omega
      go_wp2
      go_loop [5, 6] (fun q i => ∃ k z : Nat, k ≤ n1 ∧ i = .int .i64 k ∧ q = .int .i64 z ∧ z ≤ 1000 ∧ Hid (z = totalS (l.take k) + (n1 - 1))) (fun _ i => n1 - (intOf i).toNat)
      case atStart =>
        exact ⟨0, n1 - 1, Nat.zero_le _, rfl, by congr 1; omega, by omega, Lib.hid (by simp [totalS])⟩
      case round =>
        obtain ⟨k, z, hk, rfl, rfl, hz9, HZ⟩ := hrel
        by_cases hlt : k < n1
        · have hkl : k < l.length := by rw [← HN.out]; exact hlt
          obtain ⟨b, o, rfl, _, hc⟩ := hat.str (fun e => by rw [e] at hkl; simp at hkl)
          have g1 := hc k hkl
          have ht1 := totalS_take l k hkl
          have hx8 := HF.out.2 (l[k]) (List.getElem_mem hkl)
          have hto := totalS_take_le l (k + 1)
          obtain ⟨x, hx⟩ : ∃ x, l[k] = x := ⟨_, rfl⟩
          rw [hx] at g1 ht1 hx8
          have H1 := Lib.hid ht1
          have hz8 : z + x.size ≤ 1000 := by have := HZ.out; omega
          clear hc hx ht1 hto
          go_wp2
          go_round
          case rel => exact ⟨k + 1, z + x.size, by omega, by go_num, by go_num, hz8, Lib.hid (by have h1 := HZ.out; have h2 := H1.out; omega)⟩
          case measure => simp [intOf]; omega
        · obtain rfl : k = n1 := by omega
          have hE : l.take k = l := List.take_of_length_le (by rw [HN.out]; exact Nat.le_refl _)
          have h1 := HZ.out
          rw [hE] at h1
          have tk := KEY.out z h1
          clear hE h1
          go_wp2_with fail
          refine (c2' _ _ _ _ HN.out hsz hat).mono ?_
          rintro e w3 ⟨rfl, rfl⟩
          go_wp2_with fail
          refine (alive_any _).mono ?_
          rintro e w5 ⟨rfl, rfl⟩
          go_wp2
          go_ret
          exact ⟨rfl, hbel⟩
  · have h2 : (1048576 : Int) < (len : Int) := by omega
    go_enter Try.func5, Try.ntmps5
    go_wp2
    go_ret
    exact ⟨rfl, Below.refl _ _⟩

set_option maxHeartbeats 4000000 in
theorem walkFnWordAt (a : Option Addr) (len cap : Nat) (zs : List Int) (w : World) (h : IsRowK .u8 w a len cap zs) :
    Calls Try.prog 8 #[.slice a len cap] w fun e w' => e = .returned (.bool true) ∧ Below w.heap.size w w' := by
  by_cases hs : len ≤ 1048576
  · go_enter Try.func8, Try.ntmps8
    go_wp2_with fail
    refine (DrawWordAt_any _ _ _ _ _ h).mono ?_
    rintro e w1 ⟨t, x, ht, hx1, hx2, rfl, b1⟩
    clear h
    by_cases hno : x < 0 ∨ (t.data.toList.length : Int) ≤ x ∨ gapB (at0 t.data.toList x.toNat) = true
    · have c1 := fun w => implWordAt_no t x w (by omega) (by omega) hno
      have c2 := fun w => specWordAt_any t x (-1) _ w (by omega) (fun i hi => by
        have hm := wordAt_no t.data.toList x hno ((wordsL t.data.toList)[i]) (List.getElem_mem hi)
        simpa [List.getD, List.getElem?_eq_getElem hi] using hm) (.inl ⟨rfl, rfl⟩)
      go_wp2_with fail
      refine (c1 _).mono ?_
      rintro e w2 ⟨rfl, rfl⟩
      by_cases hx0 : x < 0
      · clear hno c1
        go_wp2_with fail
        refine (c2 _).mono ?_
        rintro e w3 ⟨rfl, b3⟩
        go_wp2_with fail
        refine (alive_any _).mono ?_
        rintro e w5 ⟨rfl, rfl⟩
        go_wp2
        go_ret
        exact ⟨rfl, b1.trans (b3.mono b1.size)⟩
      · by_cases hxs : (t.size : Int) ≤ x
        · clear hno c1
          go_wp2_with fail
          refine (c2 _).mono ?_
          rintro e w3 ⟨rfl, b3⟩
          go_wp2_with fail
          refine (alive_any _).mono ?_
          rintro e w5 ⟨rfl, rfl⟩
          go_wp2
          go_ret
          exact ⟨rfl, b1.trans (b3.mono b1.size)⟩
        · obtain ⟨k, rfl⟩ : ∃ k : Nat, x = k := ⟨x.toNat, by omega⟩
          have hk : k < t.size := by omega
          have hg : gapB (at0 t.data.toList k) = true := by
            rcases hno with h | h | h
            · omega
            · have e : t.data.toList.length = t.size := rfl
              omega
            · exact h
          have HG := Lib.hid (gapB_yes (show gapB t[k] = true by rw [← at0_get t k hk]; exact hg))
          have hb : (t[k].toNat : Int) ≤ 255 := by have := t[k].toNat_lt; omega
          clear hno c1 hg
          go_wp2_with fail
          refine (implSignOf_is _ _ _ HG.out).mono ?_
          rintro e w3 ⟨rfl, rfl⟩
          go_wp2_with fail
          refine (c2 _).mono ?_
          rintro e w3 ⟨rfl, b3⟩
          go_wp2_with fail
          refine (alive_any _).mono ?_
          rintro e w5 ⟨rfl, rfl⟩
          go_wp2
          go_ret
          exact ⟨rfl, b1.trans (b3.mono b1.size)⟩
    · obtain ⟨k, rfl⟩ : ∃ k : Nat, x = k := ⟨x.toNat, by omega⟩
      have hk : k < t.data.toList.length := by omega
      have hkt : k < t.size := hk
      have hg : gapB (at0 t.data.toList k) = false := by
        cases hg : gapB (at0 t.data.toList k) with
        | false => rfl
        | true => exact absurd (.inr (.inr hg)) hno
      obtain ⟨j, h1, h2, h3, h4, h5⟩ := wordAt_yes t.data.toList k hk hg
      have c1 := fun w => implWordAt_yes t k j w (by omega) hk hg h1
      have c2 := fun w => specWordAt_any t k j j w (by omega) (fun i hi h => by have := h5 i hi; omega) (.inr ⟨h2, rfl, by omega, by omega⟩)
      have hn9 := gapB_no (show gapB t[k] = false by rw [← at0_get t k hkt]; exact hg)
      have hsb := signOf_byte t[k] hn9
      obtain ⟨z, hz⟩ : ∃ z, signOf (t[k].toNat : Int) = z := ⟨_, rfl⟩
      rw [hz] at hsb
      have HZ := Lib.hid hz
      have hb : (t[k].toNat : Int) ≤ 255 := by have := t[k].toNat_lt; omega
      have tz : (z != 32) = true := by simp; omega
      have hj9 := wordsB_room t
      have hjb : j < (wordsB t).length := by rw [wordsB_len]; exact h2
      have hw := wordsB_get t j hjb
      obtain ⟨u, hu⟩ : ∃ u, ((wordsL t.data.toList).getD j (0, 0)).1 = u := ⟨_, rfl⟩
      obtain ⟨v, hv⟩ : ∃ v, ((wordsL t.data.toList).getD j (0, 0)).2 = v := ⟨_, rfl⟩
      rw [hu] at h3 hw
      rw [hv] at h4 hw
      obtain ⟨hw1, hw2⟩ := hw
      have HW1 := Lib.hid hw1
      have HW2 := Lib.hid hw2
      have hj8 : j ≤ 1000 := by omega
      have HJ := Lib.hid hjb
      clear hno hg h1 h2 h5 hn9 hz hu hv hw1 hw2 hj9
      obtain ⟨hsb1, hsb2⟩ := hsb
      go_wp2_with fail
      refine (c1 _).mono ?_
      rintro e w2 ⟨rfl, rfl⟩
      go_wp2_with fail
      refine (implSignOf_is _ _ _ HZ.out).mono ?_
      rintro e w3 ⟨rfl, rfl⟩
      go_wp2_with fail
      refine (c2 _).mono ?_
      rintro e w3 ⟨rfl, b3⟩
      have b13 := b1.trans (b3.mono b1.size)
      clear b1 b3 c1 c2
      go_wp2_with fail
      refine (implWordsOf_any t _ (by omega)).mono ?_
      rintro e w4 ⟨a4, n4, c4, rfl, o4⟩
      have hn4 := one_words o4
      obtain ⟨b, o, rfl, hbl, hc⟩ := o4.at_.word (fun e => by have := HJ.out; rw [e] at this; simp at this)
      obtain ⟨g1, g2, g3⟩ := hc j HJ.out
      rw [HW1.out] at g2
      rw [HW2.out] at g3
      obtain ⟨y, hy⟩ : ∃ y, ((wordsB t)[j]'HJ.out).text = y := ⟨_, rfl⟩
      rw [hy] at g1
      have b14 := b13.trans (o4.below.mono b13.size)
      have hjn : j < n4 := by rw [hn4]; exact HJ.out
      clear hc hn4 o4 hy b13
      go_wp2_with fail
      refine (alive_any _).mono ?_
      rintro e w5 ⟨rfl, rfl⟩
      go_wp2
      go_ret
      exact ⟨rfl, b14.alloc b14.size _⟩
  · have h2 : (1048576 : Int) < (len : Int) := by omega
    go_enter Try.func8, Try.ntmps8
    go_wp2
    go_ret
    exact ⟨rfl, Below.refl _ _⟩

end Go.Proofs.Ytdcdminjoehiiaa
