/-
  The walks of chapter 2's laws WordsOf and JoinedWords: each returns true, and nothing that was there is written. No conditions.
-/
import Derived.Test.YtdcdminjoehiiaaHelpT2
import Derived.Test.YtdcdminjoehiiaaHelpT3
import Derived.Test.YtdcdminjoehiiaaHelpA
import Derived.Test.YtdcdminjoehiiaaAlikeCalls
import Derived.Test.YtdcdminjoehiiaaWordsM
import Derived.Test.YtdcdminjoehiiaaDrawB
import Derived.Test.YtdcdminjoehiiaaWordAt
namespace Go.Proofs.Ytdcdminjoehiiaa
open Go.RowKit

theorem joinL_total (xs : List ByteArray) (k : Nat) (h : k ≤ xs.length) : (joinL xs k).length = totalS (xs.take k) + (k - 1) := by
  induction k with
  | zero => simp [joinL, totalS]
  | succ k ih =>
    have h1 := ih (by omega)
    have h2 := totalS_take xs k (by omega)
    have h3 : (xs.getD k ⟨#[]⟩).data.toList.length = xs[k].size := by simp [List.getD, List.getElem?_eq_getElem (show k < xs.length by omega)]
    simp only [joinL, List.length_append, h3]
    split <;> simp <;> omega

/-- A text's words have room. -/
theorem words_room (s : ByteArray) : (wordsB s).length ≤ s.size ∧ totalS (textsM (wordsB s)) ≤ s.size := by
  have h := joinL_total (textsM (wordsB s)) _ (Nat.le_refl _)
  rw [List.take_length] at h
  have e : (joinL (textsM (wordsB s)) (textsM (wordsB s)).length).length = (alikeB s).size := by
    rw [← joinB_words s]
    show _ = (joinL _ _).toArray.size
    simp
  have h2 := alikeB_size s
  refine ⟨?_, by omega⟩
  rw [wordsB_length]; exact wordsTo_len s.data.toList s.data.toList.length

theorem strs_n {W : World} {B : Nat} {w : World} {e : TypeId} {a : Option Addr} {n c : Nat} {l : List ByteArray} (h : One W B w e 1 a n c (strsC l)) : n = l.length := by
  have h1 := h.len
  rw [strsC_len] at h1
  omega

set_option maxHeartbeats 4000000 in
theorem walkFnJoinedWords (a : Option Addr) (len cap : Nat) (zs : List Int) (w : World) (h : IsRowK .u8 w a len cap zs) :
    Calls Try.prog 6 #[.slice a len cap] w fun e w' => e = .returned (.bool true) ∧ Below w.heap.size w w' := by
  by_cases hs : len ≤ 1048576
  · go_enter Try.func6, Try.ntmps6
    go_wp2_with fail
    refine (DrawWordsOf_any _ _ _ _ _ h).mono ?_
    rintro e w1 ⟨t, ht, rfl, b1⟩
    have hr := words_room t
    obtain ⟨T, hT⟩ : ∃ T, alikeB t = T := ⟨_, rfl⟩
    have hTs : T.size ≤ 1000 := by have := alikeB_size t; rw [hT] at this; omega
    have hr2 := words_room T
    have hTT : alikeB T = T := by rw [← hT]; exact alikeB_twice t
    have c1 := fun w => implWordsOf_any t w (by omega)
    have c2 := fun w => implWordsOf_any T w (by omega)
    have hx : textsM (wordsB T) = textsM (wordsB t) := by rw [← hT]; exact texts_alike t
    have hj : joinB (textsM (wordsB t)) = T := by rw [joinB_words, hT]
    have c5 := fun w => implSameAlike_any T t w (by omega) (by omega)
    rw [hTT, hT] at c5
    obtain ⟨l2, hl2⟩ : ∃ l, wordsB T = l := ⟨_, rfl⟩
    obtain ⟨l, hl⟩ : ∃ l, wordsB t = l := ⟨_, rfl⟩
    rw [hl2] at hx hr2
    rw [hl] at hx hj hr
    simp only [hl] at c1
    simp only [hl2] at c2
    have ctx := fun w a n c hn hl hat => implTextsOf_any l2 a n c w hn hl hat
    rw [hx] at ctx
    have cj := fun w a n c hn hl hat => implJoined_any (textsM l) a n c w hn hl hat
    simp only [hj] at cj
    have hlen := textsM_len l
    have hlen2 := textsM_len l2
    have HL := Lib.hid hlen
    have hroom : (textsM l).length + totalS (textsM l) ≤ 1048576 := by omega
    have HR := Lib.hid hroom
    have c5' : ∀ w, Calls Try.prog 24 #[.string T, .string t] w fun e w' => e = .returned (.bool true) ∧ Below w.heap.size w w' := fun w => by
      have := c5 w
      simpa using this
    clear h hl hl2 hx hj hTT hT c5 hlen hlen2 hroom
    go_wp2_with fail
    refine (c1 _).mono ?_
    rintro e w2 ⟨a2, n2, d2, rfl, o2⟩
    have hn2 := one_words o2
    have HN := Lib.hid hn2
    have hn9 : n2 ≤ 1000 := by omega
    have b2 := b1.trans (o2.below.mono b1.size)
    clear b1 hn2
    go_wp2_with fail
    refine (implTextsOf_any l _ _ _ _ HN.out (by omega) o2.at_).mono ?_
    rintro e w3 ⟨a3, d3, rfl, o3⟩
    have HM := Lib.hid (strs_n o3)
    have b3 := b2.trans (o3.below.mono b2.size)
    clear b2 o2
    have C3 := cellsAt_own o3.own
    go_wp2_with fail
    refine (cj _ _ _ _ HM.out (by have := HR.out; rw [← HM.out] at this; exact this) C3).mono ?_
    rintro e w4 ⟨rfl, b4⟩
    have C4 := C3.below b4
    have b34 := b3.trans (b4.mono b3.size)
    clear b3 b4 C3 o3
    go_wp2_with fail
    refine (c2 _).mono ?_
    rintro e w5 ⟨a5, n5, d5, rfl, o5⟩
    have hn5 := one_words o5
    have HN5 := Lib.hid hn5
    have hn59 : n5 ≤ 1000 := by omega
    have C5 := C4.below o5.below
    have b5 := b34.trans (o5.below.mono b34.size)
    clear C4 b34 hn5
    go_wp2_with fail
    refine (ctx _ _ _ _ HN5.out (by omega) o5.at_).mono ?_
    rintro e w6 ⟨a6, d6, rfl, o6⟩
    have C6 := C5.below o6.below
    have D6 := cellsAt_own o6.own
    have b6 := b5.trans (o6.below.mono b5.size)
    have hnn : n5 = n2 := by rw [strs_n o6, HM.out]
    subst hnn
    clear C5 b5 o5 o6
    go_wp2_with fail
    refine (sameTexts_same _ _ _ _ _ _ _ HM.out (by omega) D6 C6).mono ?_
    rintro e w7 ⟨rfl, q, rfl⟩
    have C7 := C6.drewN q
    have b7 := below_drewN' b6 q
    clear C6 D6 b6
    go_wp2_with fail
    refine (cj _ _ _ _ HM.out (by have := HR.out; rw [← HM.out] at this; exact this) C7).mono ?_
    rintro e w8 ⟨rfl, b8⟩
    have b78 := b7.trans (b8.mono b7.size)
    clear b7 b8 C7
    go_wp2_with fail
    refine (c5' _).mono ?_
    rintro e w9 ⟨rfl, b9⟩
    have b89 := b78.trans (b9.mono b78.size)
    clear b78 b9
    go_wp2_with fail
    refine (alive_any _).mono ?_
    rintro e w10 ⟨rfl, rfl⟩
    go_wp2
    go_ret
    exact ⟨rfl, b89⟩
  · have h2 : (1048576 : Int) < (len : Int) := by omega
    go_enter Try.func6, Try.ntmps6
    go_wp2
    go_ret
    exact ⟨rfl, Below.refl _ _⟩

end Go.Proofs.Ytdcdminjoehiiaa
