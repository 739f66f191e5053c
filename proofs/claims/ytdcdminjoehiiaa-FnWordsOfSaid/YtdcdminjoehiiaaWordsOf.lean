/-
  The contracts of the functions WordsOf: they return the words of a text, in memory of their own; nothing that was there is written. Condition: the text has at most 2^20 bytes.
-/
import Derived.Test.YtdcdminjoehiiaaGap
import Derived.Test.YtdcdminjoehiiaaMem
namespace Go.Proofs.Ytdcdminjoehiiaa
open Go.RowKit

theorem Try.ulW : Try.prog.underlying 24 = some (.slice 31) := by kernel_rfl
theorem Try.infoW : (Try.prog.info? 31).map (fun i => (i.zero, i.size, i.bytes)) = some (some (.agg #[.string ⟨#[]⟩, .int .i64 0, .int .i64 0]), 3, 32) := by kernel_rfl

/-- A word as data. -/
structure WordM where
  text : ByteArray
  fr : Int
  to : Int

def wordC (x : WordM) : List Value := [.string x.text, .int .i64 x.fr, .int .i64 x.to]
theorem wordC_len (x : WordM) : (wordC x).length = 3 := rfl
def wordM (s : ByteArray) (p : Nat × Nat) : WordM := ⟨alikeB (s.extract p.1 p.2), p.1, p.2⟩
def wordsC (l : List WordM) : List Value := l.flatMap wordC
def wordsB (s : ByteArray) : List WordM := (wordsL s.data.toList).map (wordM s)

/-- The cells of the words that begin ahead of k. -/
def wordsK (s : ByteArray) (k : Nat) : List Value := wordsC ((wordsTo s.data.toList k).map (wordM s))

theorem wordsK_beg {s : ByteArray} {k e : Nat} {t : ByteArray} (h : begB s.data.toList k = true) (he : wEnd s.data.toList k = e) (ht : alikeB (s.extract k e) = t) :
    wordsK s (k + 1) = wordsK s k ++ [.string t, .int .i64 k, .int .i64 e] := by
  rw [wordsK, wordsTo_beg h, List.map_append, wordsC, List.flatMap_append, wordsK, wordsC, he]
  simp [wordC, wordM, ht]

theorem wordsK_no {s : ByteArray} {k : Nat} (h : begB s.data.toList k = false) : wordsK s (k + 1) = wordsK s k := by
  rw [wordsK, wordsTo_no h, wordsK]

theorem wordsK_len (s : ByteArray) (k : Nat) : (wordsK s k).length = (wordsTo s.data.toList k).length * 3 := by
  rw [wordsK, wordsC, flat_len wordC 3 wordC_len, List.length_map]

set_option maxHeartbeats 4000000 in
theorem implWordsOf_any (s : ByteArray) (w : World) (hs : s.size ≤ 1048576) :
    Calls Try.prog 12 #[.string s] w fun e w' => ∃ a n c, e = .returned (.slice a n c) ∧
      One w w.heap.size w' 31 3 a n c (wordsC (wordsB s)) := by
  go_enter Try.func12, Try.ntmps12
  go_wp2
  go_loopw [3, 4, 5, 6, 7] (fun v i v5 v6 v7 wr => ∃ k : Nat, k ≤ s.size ∧ i = .int .i64 k ∧ ∃ a n c, v = .slice a n c ∧ One w w.heap.size wr 31 3 a n c (wordsK s k))
    (fun _ i _ _ _ _ => s.size - (intOf i).toNat)
  case atStart => exact ⟨0, Nat.zero_le _, rfl, none, 0, 0, rfl, One.nil _ _ _⟩
  case round =>
    obtain ⟨k, hk, rfl, a, n, c, rfl, hone⟩ := hrel
    by_cases hlt : k < s.size
    · have hsz : s.data.toList.length = s.size := rfl
      by_cases hb : begB s.data.toList k = true
      · have hn : n ≤ 1048576 := by
          have h1 := hone.len
          rw [wordsK_len] at h1
          have h2 := wordsTo_len s.data.toList k
          omega
        have hE1 := wEnd_spec s.data.toList k (by omega)
        have hE2 := wEnd_lt s.data.toList k (begB_parts hb).1
        obtain ⟨e, he⟩ : ∃ e, wEnd s.data.toList k = e := ⟨_, rfl⟩
        rw [he] at hE1 hE2
        have hes : e ≤ s.size := by have := hE1.2.1; omega
        obtain ⟨t, ht⟩ : ∃ t, alikeB (s.extract k e) = t := ⟨_, rfl⟩
        have HT := Lib.hid ht
        have HX := Lib.hid (wordsK_beg hb he ht)
        have HB := Lib.hid hb
        have HE := Lib.hid he
        have hxs : (s.extract k e).size ≤ 1048576 := by simp only [ByteArray.size_extract]; omega
        have hke : k ≤ e := by omega
        clear hb he ht hE1
        go_wp2_with fail
        refine (wordBegins_is _ _ _ _ hlt hs HB.out).mono ?_
        rintro e1 w1 ⟨rfl, rfl⟩
        go_wp2_with fail
        refine (wordEnd_is _ _ _ _ hlt hs HE.out).mono ?_
        rintro e1 w1 ⟨rfl, rfl⟩
        go_wp2_with fail
        refine (implAlike_is _ _ _ hxs HT.out).mono ?_
        rintro e1 w1 ⟨a7, n7, c7, rfl, hown7, hb7⟩
        have hone1 := hone.later hb7
        clear hown7 hb7 hone
        go_wp2_with (at_builtin; refine wpList_append_row rfl (.tmp 28) (.tmp 33) 24 rfl Try.ulW Try.infoW rfl (by decide) hone1 rfl #[.string t, .int .i64 k, .int .i64 e] rfl rfl (by simp [Value.oneCell']) (by unfold maxLen; omega) (by omega) ?_; intro a3 c3 w3 h3)
        go_roundw
        case rel => exact ⟨k + 1, by omega, by go_num, _, _, _, rfl, by rw [HX.out]; exact h3⟩
        case measure => simp [intOf]; omega
      · have hb' : begB s.data.toList k = false := by simpa using hb
        have HB := Lib.hid hb'
        have HX := Lib.hid (wordsK_no hb')
        clear hb hb'
        go_wp2_with fail
        refine (wordBegins_is _ _ _ _ hlt hs HB.out).mono ?_
        rintro e1 w1 ⟨rfl, rfl⟩
        go_wp2
        go_roundw
        case rel => exact ⟨k + 1, by omega, by go_num, _, _, _, rfl, by rw [HX.out]; exact hone⟩
        case measure => simp [intOf]; omega
    · obtain rfl : k = s.size := by omega
      go_wp2
      go_ret
      exact ⟨_, _, _, rfl, hone⟩


/-- The cells of the words that the model has found behind k bytes. -/
def specK (s : ByteArray) (k : Nat) : List Value := wordsC ((stW s.data.toList k).out.map (wordM s))

theorem specK_word {s : ByteArray} {k f : Nat} {t : ByteArray} (h : gapB (at0 s.data.toList k) = true) (hf : (stW s.data.toList k).from_ = f) (ht : alikeB (s.extract f k) = t) :
    specK s (k + 1) = specK s k ++ [.string t, .int .i64 f, .int .i64 k] ∧ (stW s.data.toList (k + 1)).from_ = -1 := by
  rw [specK, stW_word h (by omega), hf]
  simp [specK, wordsC, wordC, wordM, ht]
theorem specK_gap {s : ByteArray} {k : Nat} (h : gapB (at0 s.data.toList k) = true) (hf : (stW s.data.toList k).from_ < 0) :
    specK s (k + 1) = specK s k ∧ (stW s.data.toList (k + 1)).from_ = -1 := by
  rw [specK, stW_gap h (by omega)]
  exact ⟨rfl, rfl⟩
theorem specK_new {s : ByteArray} {k : Nat} (h : gapB (at0 s.data.toList k) = false) (hf : (stW s.data.toList k).from_ < 0) :
    specK s (k + 1) = specK s k ∧ (stW s.data.toList (k + 1)).from_ = k := by
  rw [specK, stW_new h hf]
  exact ⟨rfl, rfl⟩
theorem specK_on {s : ByteArray} {k : Nat} (h : gapB (at0 s.data.toList k) = false) (hf : 0 ≤ (stW s.data.toList k).from_) :
    specK s (k + 1) = specK s k ∧ (stW s.data.toList (k + 1)).from_ = (stW s.data.toList k).from_ := by
  rw [specK, stW_on h (by omega)]
  exact ⟨rfl, rfl⟩

theorem specK_len (s : ByteArray) (k : Nat) : (specK s k).length = (stW s.data.toList k).out.length * 3 := by
  rw [specK, wordsC, flat_len wordC 3 wordC_len, List.length_map]

set_option maxHeartbeats 8000000 in
theorem specWordsOf_any (s : ByteArray) (w : World) (hs : s.size ≤ 1048576) :
    Calls Try.prog 14 #[.string s] w fun e w' => ∃ a n c, e = .returned (.slice a n c) ∧
      One w w.heap.size w' 31 3 a n c (wordsC (wordsB s)) := by
  go_enter Try.func14, Try.ntmps14
  go_wp2
  go_loopw [3, 4, 5, 6, 7] (fun v f i v6 v7 wr => ∃ k : Nat, k ≤ s.size + 1 ∧ i = .int .i64 k ∧ f = .int .i64 (stW s.data.toList k).from_ ∧ ∃ a n c, v = .slice a n c ∧ One w w.heap.size wr 31 3 a n c (specK s k))
    (fun _ _ i _ _ _ => s.size + 1 - (intOf i).toNat)
  case atStart => exact ⟨0, Nat.zero_le _, rfl, rfl, _, _, _, rfl, One.empty _ _ _⟩
  case round =>
    obtain ⟨k, hk, rfl, rfl, a, n, c, rfl, hone⟩ := hrel
    have hsz : s.data.toList.length = s.size := rfl
    by_cases hle : k ≤ s.size
    · have hroom := stW_room s.data.toList k (by omega)
      have hn : n ≤ 1048576 := by
        have h1 := hone.len
        rw [specK_len] at h1
        omega
      obtain ⟨f, hf⟩ : ∃ f, (stW s.data.toList k).from_ = f := ⟨_, rfl⟩
      rw [hf] at hroom ⊢
      by_cases hg : gapB (at0 s.data.toList k) = true
      · have HG := Lib.hid hg
        by_cases hf0 : 0 ≤ f
        · obtain ⟨f, rfl⟩ : ∃ m : Nat, f = m := ⟨f.toNat, by omega⟩
          have hfk : f ≤ k := by omega
          obtain ⟨t, ht⟩ : ∃ t, alikeB (s.extract f k) = t := ⟨_, rfl⟩
          have HT := Lib.hid ht
          have HX := Lib.hid (specK_word hg hf ht)
          have hxs : (s.extract f k).size ≤ 1048576 := by simp only [ByteArray.size_extract]; omega
          clear hf ht hroom
          by_cases hlt : k < s.size
          · have HG2 := Lib.hid (show gapB s[k] = true by rw [← at0_get s k hlt]; exact hg)
            have hb : (s[k].toNat : Int) ≤ 255 := by have := s[k].toNat_lt; omega
            clear hg
            go_wp2_with fail
            refine (l1Gap_is _ _ _ HG2.out).mono ?_
            rintro e1 w1 ⟨rfl, rfl⟩
            go_wp2_with fail
            refine (specAlike_is _ _ _ hxs HT.out).mono ?_
            rintro e1 w1 ⟨a7, n7, c7, rfl, hown7, hb7⟩
            have hone1 := hone.later hb7
            clear hown7 hb7 hone
            go_wp2_with (at_builtin; refine wpList_append_row rfl (.tmp 39) (.tmp 44) 24 rfl Try.ulW Try.infoW rfl (by decide) hone1 rfl #[.string t, .int .i64 f, .int .i64 k] rfl rfl (by simp [Value.oneCell']) (by unfold maxLen; omega) (by omega) ?_; intro a3 c3 w3 h3)
            go_roundw
            case rel => exact ⟨k + 1, by omega, by go_num, by rw [HX.out.2], _, _, _, rfl, by rw [HX.out.1]; exact h3⟩
            case measure => simp [intOf] <;> omega
          · obtain rfl : k = s.size := by omega
            clear hg
            go_wp2_with fail
            refine (specAlike_is _ _ _ hxs HT.out).mono ?_
            rintro e1 w1 ⟨a7, n7, c7, rfl, hown7, hb7⟩
            have hone1 := hone.later hb7
            clear hown7 hb7 hone
            go_wp2_with (at_builtin; refine wpList_append_row rfl (.tmp 39) (.tmp 44) 24 rfl Try.ulW Try.infoW rfl (by decide) hone1 rfl #[.string t, .int .i64 f, .int .i64 s.size] rfl rfl (by simp [Value.oneCell']) (by unfold maxLen; omega) (by omega) ?_; intro a3 c3 w3 h3)
            go_roundw
            case rel => exact ⟨s.size + 1, by omega, by go_num, by rw [HX.out.2], _, _, _, rfl, by rw [HX.out.1]; exact h3⟩
            case measure => simp [intOf] <;> omega
        · have hf1 : f < 0 := by omega
          have HX := Lib.hid (specK_gap hg (by omega))
          clear hf
          by_cases hlt : k < s.size
          · have HG2 := Lib.hid (show gapB s[k] = true by rw [← at0_get s k hlt]; exact hg)
            have hb : (s[k].toNat : Int) ≤ 255 := by have := s[k].toNat_lt; omega
            clear hg
            go_wp2_with fail
            refine (l1Gap_is _ _ _ HG2.out).mono ?_
            rintro e1 w1 ⟨rfl, rfl⟩
            go_wp2
            go_roundw
            case rel => exact ⟨k + 1, by omega, by go_num, by rw [HX.out.2], _, _, _, rfl, by rw [HX.out.1]; exact hone⟩
            case measure => simp [intOf] <;> omega
          · obtain rfl : k = s.size := by omega
            clear hg
            go_wp2
            go_roundw
            case rel => exact ⟨s.size + 1, by omega, by go_num, by rw [HX.out.2], _, _, _, rfl, by rw [HX.out.1]; exact hone⟩
            case measure => simp [intOf] <;> omega
      · have hg' : gapB (at0 s.data.toList k) = false := by simpa using hg
        have hlt : k < s.size := by
          rcases Nat.lt_or_ge k s.size with h1 | h1
          · exact h1
          · rw [at0_end s.data.toList k (by omega), gapB_zero] at hg'; cases hg'
        have HG2 := Lib.hid (show gapB s[k] = false by rw [← at0_get s k hlt]; exact hg')
        have hb : (s[k].toNat : Int) ≤ 255 := by have := s[k].toNat_lt; omega
        by_cases hf0 : f < 0
        · have HX := Lib.hid (specK_new hg' (by omega))
          clear hf hg hg'
          go_wp2_with fail
          refine (l1Gap_is _ _ _ HG2.out).mono ?_
          rintro e1 w1 ⟨rfl, rfl⟩
          go_wp2
          go_roundw
          case rel => exact ⟨k + 1, by omega, by go_num, by rw [HX.out.2], _, _, _, rfl, by rw [HX.out.1]; exact hone⟩
          case measure => simp [intOf] <;> omega
        · have HX := Lib.hid (specK_on hg' (by omega))
          have HF := Lib.hid hf
          clear hf hg hg'
          go_wp2_with fail
          refine (l1Gap_is _ _ _ HG2.out).mono ?_
          rintro e1 w1 ⟨rfl, rfl⟩
          go_wp2
          go_roundw
          case rel => exact ⟨k + 1, by omega, by go_num, by rw [HX.out.2, HF.out], _, _, _, rfl, by rw [HX.out.1]; exact hone⟩
          case measure => simp [intOf] <;> omega
    · obtain rfl : k = s.size + 1 := by omega
      have hE : specK s (s.size + 1) = wordsC (wordsB s) := by
        rw [specK, wordsB, ← hsz, stW_end]
      rw [hE] at hone
      clear hE
      go_wp2
      go_ret
      exact ⟨_, _, _, rfl, hone⟩

end Go.Proofs.Ytdcdminjoehiiaa
