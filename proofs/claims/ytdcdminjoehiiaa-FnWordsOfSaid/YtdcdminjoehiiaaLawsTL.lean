/-
  The walks of chapter 2's main law WordsOf, over drawn texts and over whatever texts: each returns true, and nothing that was there is written. No conditions.
-/
import Derived.Test.YtdcdminjoehiiaaLawsTK
namespace Go.Proofs.Ytdcdminjoehiiaa
open Go.RowKit

theorem cell_own {w w' : World} {xs : Array Value} {e : TypeId} (hb : Below (w.alloc (.cells xs e)).heap.size (w.alloc (.cells xs e)) w') (i : Nat) (v : Value) (h : xs[i]? = some v) :
    w'.cell? ⟨w.heap.size, i, none⟩ = some v := by
  rw [hb.cell (by simp)]
  rw [World.cell?_alloc_new]
  simpa using h

theorem words_facts (s : ByteArray) (l : List WordM) (hl : wordsB s = l) :
    (∀ k (hk : k < l.length), ∃ u v : Nat, l[k] = ⟨alikeB (s.extract u v), u, v⟩ ∧ u < v ∧ v ≤ s.size ∧ (alikeB (s.extract u v)).size = v - u ∧
      (s.extract u v).size ≤ s.size ∧ ∀ h : k + 1 < l.length, (v : Int) < (l[k + 1]).fr) ∧ ∀ h : 0 < l.length, (-1 : Int) < (l[0]).fr := by
  subst hl
  exact ⟨word_facts s, word_first s⟩

set_option maxHeartbeats 4000000 in
theorem walkFnWordsOf (a : Option Addr) (len cap : Nat) (zs : List Int) (w : World) (h : IsRowK .u8 w a len cap zs) :
    Calls Try.prog 3 #[.slice a len cap] w fun e w' => e = .returned (.bool true) ∧ Below w.heap.size w w' := by
  by_cases hs : len ≤ 1048576
  · go_enter Try.func3, Try.ntmps3
    go_wp2_with fail
    refine (DrawWordsOf_any _ _ _ _ _ h).mono ?_
    rintro e w1 ⟨t, ht, rfl, b1⟩
    clear h
    have hr := words_room t
    obtain ⟨T, hT⟩ : ∃ T, alikeB t = T := ⟨_, rfl⟩
    have c1 := fun w => implWordsOf_any t w (by omega)
    have c2 := fun w => specWordsOf_any t w (by omega)
    have hj : joinB (textsM (wordsB t)) = T := by rw [joinB_words, hT]
    obtain ⟨l, hl⟩ : ∃ l, wordsB t = l := ⟨_, rfl⟩
    rw [hl] at hr hj
    simp only [hl] at c1 c2
    obtain ⟨hf, h0⟩ := words_facts t l hl
    have cj := fun w a n c hn hl hat => implJoined_any (textsM l) a n c w hn hl hat
    simp only [hj] at cj
    have HL := Lib.hid (textsM_len l)
    have hroom : (textsM l).length + totalS (textsM l) ≤ 1048576 := by rw [textsM_len]; omega
    have HR := Lib.hid hroom
    have HT := Lib.hid hT
    have HF := Lib.hid hf
    have HZ0 := Lib.hid h0
    clear hl hj hT hf h0 hroom
    go_wp2_with fail
    refine (c1 _).mono ?_
    rintro e w2 ⟨a2, n2, d2, rfl, o2⟩
    have hn2 := one_words o2
    have HN := Lib.hid hn2
    have hn9 : n2 ≤ 1000 := by omega
    have b2 := b1.trans (o2.below.mono b1.size)
    have C2 := cellsAt_own o2.own
    clear b1 hn2 o2
    go_wp2_with fail
    refine (c2 _).mono ?_
    rintro e w3 ⟨a3, n3, d3, rfl, o3⟩
    have hn3 : n3 = n2 := by rw [one_words o3, HN.out]
    subst hn3
    have C3 := C2.below o3.below
    have D3 := cellsAt_own o3.own
    have b3 := b2.trans (o3.below.mono b2.size)
    clear b2 C2 o3
    go_wp2_with fail
    refine (sameWords_same _ _ _ _ _ _ _ HN.out (by omega) C3 D3).mono ?_
    rintro e w4 ⟨rfl, q, rfl⟩
    have C4 := C3.drewN q
    have b4 := below_drewN' b3 q
    clear C3 D3 b3
    go_wp2_with fail
    refine (implAlike_is _ _ _ (by omega) HT.out).mono ?_
    rintro e w5 ⟨a5, n5, d5, rfl, _, b5⟩
    have C5 := C4.below b5
    have b45 := b4.trans (b5.mono b4.size)
    clear C4 b4 b5
    go_wp2
    go_loopw [7, 8, 9, 10, 11] (fun last i x8 x9 x10 wr => ∃ k : Nat, k ≤ n3 ∧ i = .int .i64 k ∧ ∃ z : Int, last = .int .i64 z ∧ -1 ≤ z ∧ z ≤ 1000 ∧ Hid (∀ h : k < l.length, z < (l[k]).fr) ∧ Below w5.heap.size w5 wr) (fun _ i _ _ _ _ => n3 - (intOf i).toNat)
    case atStart => exact ⟨0, Nat.zero_le _, rfl, -1, rfl, by omega, by omega, HZ0, Below.refl _ _⟩
    case round =>
      obtain ⟨k, hk, rfl, z, rfl, hz1, hz2, HZ, hB⟩ := hrel
      by_cases hlt : k < n3
      · have hkl : k < l.length := by rw [← HN.out]; exact hlt
        obtain ⟨b, o, rfl, hbl, hc⟩ := (C5.below hB).word (fun e => by rw [e] at hkl; simp at hkl)
        obtain ⟨g1, g2, g3⟩ := hc k hkl
        obtain ⟨u, v, e1, huv, hv, hsz, hx, hnx⟩ := HF.out k hkl
        have hzu := HZ.out hkl
        rw [e1] at g1 g2 g3 hzu
        dsimp only at g1 g2 g3 hzu
        obtain ⟨y, hy⟩ : ∃ y, alikeB (t.extract u v) = y := ⟨_, rfl⟩
        rw [hy] at g1 hsz
        have HY := Lib.hid hy
        have HNX := Lib.hid hnx
        have hxs : (t.extract u v).size ≤ 1048576 := by omega
        have hW : IntKind.i64.wrap ((v : Int) - (u : Int)) = (v : Int) - (u : Int) := IntWalk.i64_in _ (by omega)
        have hWZ : ((y.size : Int) != (v : Int) - (u : Int)) = false := by simp; omega
        have t1 : decide ((u : Int) ≤ z) = false := by simp; omega
        have t2 : decide ((v : Int) ≤ (u : Int)) = false := by simp; omega
        have t3 : decide ((t.size : Int) < (v : Int)) = false := by simp; omega
        have huv2 : u ≤ v := by omega
        clear hc e1 hy hnx C5
        go_wp2_with fail
        refine (implAlike_is _ _ _ hxs HY.out).mono ?_
        rintro e w6 ⟨a6, n6, d6, rfl, _, b6⟩
        have k1 := cell_own b6 0 _ rfl
        have k2 := cell_own b6 1 _ rfl
        have k3 := cell_own b6 2 _ rfl
        have hB6 := (hB.alloc hB.size _).trans (b6.mono (Nat.le_trans hB.size (heap_le_alloc _ _)))
        go_wp2
        go_roundw
        case rel => exact ⟨k + 1, by omega, by go_num, v, by go_num, by omega, by omega, Lib.hid (fun h => HNX.out h), hB6⟩
        case measure => simp [intOf]; omega
      · obtain rfl : k = n3 := by omega
        have C6 := C5.below hB
        have b6 := b45.trans (hB.mono b45.size)
        clear C5 b45
        go_wp2_with fail
        refine (implTextsOf_any l _ _ _ _ HN.out (by omega) C6).mono ?_
        rintro e w7 ⟨a7, d7, rfl, o7⟩
        have HM := Lib.hid (strs_n o7)
        have C7 := cellsAt_own o7.own
        have b7 := b6.trans (o7.below.mono b6.size)
        clear C6 b6 o7
        go_wp2_with fail
        refine (cj _ _ _ _ HM.out (by have := HR.out; rw [← HM.out] at this; exact this) C7).mono ?_
        rintro e w8 ⟨rfl, b8⟩
        have b78 := b7.trans (b8.mono b7.size)
        clear C7 b7 b8
        go_wp2_with fail
        refine (alive_any _).mono ?_
        rintro e w9 ⟨rfl, rfl⟩
        go_wp2
        go_ret
        exact ⟨rfl, b78⟩
  · have h2 : (1048576 : Int) < (len : Int) := by omega
    go_enter Try.func3, Try.ntmps3
    go_wp2
    go_ret
    exact ⟨rfl, Below.refl _ _⟩

set_option maxHeartbeats 4000000 in
theorem walkFnAnyWordsOf (t : ByteArray) (_w0 : t.size ≤ maxLen) (w : World) :
    Calls Try.prog 10 #[.string t] w fun e w' => e = .returned (.bool true) ∧ Below w.heap.size w w' := by
  by_cases ht : t.size ≤ 1000
  · have hb0 : decide ((1000 : Int) < t.size) = false := by simp; omega
    have b1 := Below.refl w.heap.size w
    go_enter Try.func10, Try.ntmps10
    go_wp2_with (go_at_call 37; refine (bigText_is false _ _ _ hb0).mono ?_; rintro e w' ⟨rfl, rfl⟩)
    have hr := words_room t
    obtain ⟨T, hT⟩ : ∃ T, alikeB t = T := ⟨_, rfl⟩
    have c1 := fun w => implWordsOf_any t w (by omega)
    have c2 := fun w => specWordsOf_any t w (by omega)
    have hj : joinB (textsM (wordsB t)) = T := by rw [joinB_words, hT]
    obtain ⟨l, hl⟩ : ∃ l, wordsB t = l := ⟨_, rfl⟩
    rw [hl] at hr hj
    simp only [hl] at c1 c2
    obtain ⟨hf, h0⟩ := words_facts t l hl
    have cj := fun w a n c hn hl hat => implJoined_any (textsM l) a n c w hn hl hat
    simp only [hj] at cj
    have HL := Lib.hid (textsM_len l)
    have hroom : (textsM l).length + totalS (textsM l) ≤ 1048576 := by rw [textsM_len]; omega
    have HR := Lib.hid hroom
    have HT := Lib.hid hT
    have HF := Lib.hid hf
    have HZ0 := Lib.hid h0
    clear hl hj hT hf h0 hroom
    refine (c1 _).mono ?_
    rintro e w2 ⟨a2, n2, d2, rfl, o2⟩
    have hn2 := one_words o2
    have HN := Lib.hid hn2
    have hn9 : n2 ≤ 1000 := by omega
    have b2 := b1.trans (o2.below.mono b1.size)
    have C2 := cellsAt_own o2.own
    clear b1 hn2 o2
    go_wp2_with fail
    refine (c2 _).mono ?_
    rintro e w3 ⟨a3, n3, d3, rfl, o3⟩
    have hn3 : n3 = n2 := by rw [one_words o3, HN.out]
    subst hn3
    have C3 := C2.below o3.below
    have D3 := cellsAt_own o3.own
    have b3 := b2.trans (o3.below.mono b2.size)
    clear b2 C2 o3
    go_wp2_with fail
    refine (sameWords_same _ _ _ _ _ _ _ HN.out (by omega) C3 D3).mono ?_
    rintro e w4 ⟨rfl, q, rfl⟩
    have C4 := C3.drewN q
    have b4 := below_drewN' b3 q
    clear C3 D3 b3
    go_wp2_with fail
    refine (implAlike_is _ _ _ (by omega) HT.out).mono ?_
    rintro e w5 ⟨a5, n5, d5, rfl, _, b5⟩
    have C5 := C4.below b5
    have b45 := b4.trans (b5.mono b4.size)
    clear C4 b4 b5
    go_wp2
    go_loopw [6, 7, 8, 9, 10] (fun last i x8 x9 x10 wr => ∃ k : Nat, k ≤ n3 ∧ i = .int .i64 k ∧ ∃ z : Int, last = .int .i64 z ∧ -1 ≤ z ∧ z ≤ 1000 ∧ Hid (∀ h : k < l.length, z < (l[k]).fr) ∧ Below w5.heap.size w5 wr) (fun _ i _ _ _ _ => n3 - (intOf i).toNat)
    case atStart => exact ⟨0, Nat.zero_le _, rfl, -1, rfl, by omega, by omega, HZ0, Below.refl _ _⟩
    case round =>
      obtain ⟨k, hk, rfl, z, rfl, hz1, hz2, HZ, hB⟩ := hrel
      by_cases hlt : k < n3
      · have hkl : k < l.length := by rw [← HN.out]; exact hlt
        obtain ⟨b, o, rfl, hbl, hc⟩ := (C5.below hB).word (fun e => by rw [e] at hkl; simp at hkl)
        obtain ⟨g1, g2, g3⟩ := hc k hkl
        obtain ⟨u, v, e1, huv, hv, hsz, hx, hnx⟩ := HF.out k hkl
        have hzu := HZ.out hkl
        rw [e1] at g1 g2 g3 hzu
        dsimp only at g1 g2 g3 hzu
        obtain ⟨y, hy⟩ : ∃ y, alikeB (t.extract u v) = y := ⟨_, rfl⟩
        rw [hy] at g1 hsz
        have HY := Lib.hid hy
        have HNX := Lib.hid hnx
        have hxs : (t.extract u v).size ≤ 1048576 := by omega
        have hW : IntKind.i64.wrap ((v : Int) - (u : Int)) = (v : Int) - (u : Int) := IntWalk.i64_in _ (by omega)
        have hWZ : ((y.size : Int) != (v : Int) - (u : Int)) = false := by simp; omega
        have t1 : decide ((u : Int) ≤ z) = false := by simp; omega
        have t2 : decide ((v : Int) ≤ (u : Int)) = false := by simp; omega
        have t3 : decide ((t.size : Int) < (v : Int)) = false := by simp; omega
        have huv2 : u ≤ v := by omega
        clear hc e1 hy hnx C5
        go_wp2_with fail
        refine (implAlike_is _ _ _ hxs HY.out).mono ?_
        rintro e w6 ⟨a6, n6, d6, rfl, _, b6⟩
        have k1 := cell_own b6 0 _ rfl
        have k2 := cell_own b6 1 _ rfl
        have k3 := cell_own b6 2 _ rfl
        have hB6 := (hB.alloc hB.size _).trans (b6.mono (Nat.le_trans hB.size (heap_le_alloc _ _)))
        go_wp2
        go_roundw
        case rel => exact ⟨k + 1, by omega, by go_num, v, by go_num, by omega, by omega, Lib.hid (fun h => HNX.out h), hB6⟩
        case measure => simp [intOf]; omega
      · obtain rfl : k = n3 := by omega
        have C6 := C5.below hB
        have b6 := b45.trans (hB.mono b45.size)
        clear C5 b45
        go_wp2_with fail
        refine (implTextsOf_any l _ _ _ _ HN.out (by omega) C6).mono ?_
        rintro e w7 ⟨a7, d7, rfl, o7⟩
        have HM := Lib.hid (strs_n o7)
        have C7 := cellsAt_own o7.own
        have b7 := b6.trans (o7.below.mono b6.size)
        clear C6 b6 o7
        go_wp2_with fail
        refine (cj _ _ _ _ HM.out (by have := HR.out; rw [← HM.out] at this; exact this) C7).mono ?_
        rintro e w8 ⟨rfl, b8⟩
        have b78 := b7.trans (b8.mono b7.size)
        clear C7 b7 b8
        go_wp2_with fail
        refine (alive_any _).mono ?_
        rintro e w9 ⟨rfl, rfl⟩
        go_wp2
        go_ret
        exact ⟨rfl, b78⟩
  · have hb1 : decide ((1000 : Int) < t.size) = true := by simp; omega
    go_enter Try.func10, Try.ntmps10
    go_wp2_with (go_at_call 37; refine (bigText_is true _ _ _ hb1).mono ?_; rintro e w' ⟨rfl, rfl⟩)
    refine (alive_any _).mono ?_
    rintro e w9 ⟨rfl, rfl⟩
    go_wp2
    go_ret
    exact ⟨rfl, Below.refl _ _⟩

end Go.Proofs.Ytdcdminjoehiiaa
