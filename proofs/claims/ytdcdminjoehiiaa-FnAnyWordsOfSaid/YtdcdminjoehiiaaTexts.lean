/-
  The contracts of the functions TextsOf and Joined (the program's and the model's), and of ownText. Conditions: as many texts, and bytes together, as 2^20 at most.
-/
import Derived.Test.YtdcdminjoehiiaaWordsOf
import Derived.Lib.AppendStr
namespace Go.Proofs.Ytdcdminjoehiiaa
open Go.RowKit

theorem Try.ulS : Try.prog.underlying 33 = some (.slice 9) := by kernel_rfl
theorem Try.infoS : (Try.prog.info? 9).map (fun i => (i.zero, i.size, i.bytes)) = some (some (.string ⟨#[]⟩), 1, 16) := by kernel_rfl

theorem ret_str {a b : ByteArray} (h : a = b) : Ending.returned (.string a) = .returned (.string b) := by rw [h]

theorem ownText_any (s : ByteArray) (w : World) :
    Calls Try.prog 44 #[.string s] w fun e w' => e = .returned (.string s) ∧ Below w.heap.size w w' := by
  obtain ⟨a, cap, w1, h1, hb, h2⟩ := bytes_of_string (P := Try.prog) w 9 22 5 s Try.uls Try.ulB Try.ulb
  go_enter Try.func44, Try.ntmps44
  go_wp2
  go_ret
  exact ⟨rfl, hb⟩

def textsM (l : List WordM) : List ByteArray := l.map (·.text)
theorem textsM_len (l : List WordM) : (textsM l).length = l.length := by simp [textsM]
theorem textsM_get (l : List WordM) (k : Nat) (h : k < l.length) : (textsM l)[k]'(by rw [textsM_len]; exact h) = l[k].text := by simp [textsM]

/-- The cells of a slice of words. -/
theorem CellsAt.word {w : World} {a : Option Addr} {l : List WordM} (h : CellsAt w a (wordsC l)) (hne : l ≠ []) : ∃ b o, a = some ⟨b, o, none⟩ ∧ b < w.heap.size ∧
    ∀ k (hk : k < l.length), w.cell? ⟨b, o + k * 3, none⟩ = some (.string l[k].text) ∧ w.cell? ⟨b, o + k * 3 + 1, none⟩ = some (.int .i64 l[k].fr) ∧ w.cell? ⟨b, o + k * 3 + 2, none⟩ = some (.int .i64 l[k].to) := by
  have hne2 : wordsC l ≠ [] := by
    cases l with
    | nil => exact absurd rfl hne
    | cons x l => simp [wordsC, wordC]
  obtain ⟨b, o, ha, hb, hc⟩ := h.spot hne2
  refine ⟨b, o, ha, hb, fun k hk => ⟨?_, ?_, ?_⟩⟩
  · exact hc (k * 3) _ (by rw [wordsC, show k * 3 = k * 3 + 0 from rfl, flat_get wordC 3 wordC_len l k 0 hk (by decide)]; rfl)
  · rw [Nat.add_assoc]; exact hc (k * 3 + 1) _ (by rw [wordsC, flat_get wordC 3 wordC_len l k 1 hk (by decide)]; rfl)
  · rw [Nat.add_assoc]; exact hc (k * 3 + 2) _ (by rw [wordsC, flat_get wordC 3 wordC_len l k 2 hk (by decide)]; rfl)

theorem textsK (l : List WordM) (k : Nat) (h : k < l.length) {t : ByteArray} (ht : l[k].text = t) : strsC ((textsM l).take (k + 1)) = strsC ((textsM l).take k) ++ [.string t] := by
  rw [strsC_take _ k (by rw [textsM_len]; exact h), textsM_get l k h, ht]

set_option maxHeartbeats 2000000 in
theorem implTextsOf_any (l : List WordM) (a : Option Addr) (n c : Nat) (w : World) (hn : n = l.length) (hl : n ≤ 1048576) (hat : CellsAt w a (wordsC l)) :
    Calls Try.prog 17 #[.slice a n c] w fun e w' => ∃ a' c', e = .returned (.slice a' n c') ∧ One w w.heap.size w' 9 1 a' n c' (strsC (textsM l)) := by
  have HN := Lib.hid hn
  clear hn
  go_enter Try.func17, Try.ntmps17
  go_wp2
  go_loopw [3, 4, 7] (fun v v4 i wr => ∃ k : Nat, k ≤ n ∧ i = .int .i64 k ∧ ∃ a1 c1, v = .slice a1 k c1 ∧ One w w.heap.size wr 9 1 a1 k c1 (strsC ((textsM l).take k)))
    (fun _ _ i _ => n - (intOf i).toNat)
  case atStart => exact ⟨0, Nat.zero_le _, rfl, none, 0, rfl, One.nil _ _ _⟩
  case round =>
    obtain ⟨k, hk, rfl, a1, c1, rfl, hone⟩ := hrel
    by_cases hlt : k < n
    · have hkl : k < l.length := by rw [← HN.out]; exact hlt
      obtain ⟨b, o, rfl, _, hc⟩ := (hat.below hone.below).word (fun e => by rw [e] at hkl; simp at hkl)
      obtain ⟨g1, _, _⟩ := hc k hkl
      obtain ⟨t, ht⟩ : ∃ t, l[k].text = t := ⟨_, rfl⟩
      rw [ht] at g1
      have HX := Lib.hid (textsK l k hkl ht)
      clear ht hc
      go_wp2_with fail
      refine (ownText_any _ _).mono ?_
      rintro e1 w1 ⟨rfl, hb1⟩
      have hone1 := hone.later hb1
      clear g1 hone hb1
      go_wp2_with (at_builtin; refine wpList_append_row rfl (.tmp 10) (.tmp 17) 33 rfl Try.ulS Try.infoS rfl (by decide) hone1 rfl #[.string t] rfl rfl (by simp [Value.oneCell']) (by unfold maxLen; omega) (by omega) ?_; intro a3 c3 w3 h3)
      go_roundw
      case rel => exact ⟨k + 1, by omega, by go_num, _, _, rfl, by rw [HX.out]; exact h3⟩
      case measure => simp [intOf]; omega
    · obtain rfl : k = n := by omega
      have hE : (textsM l).take k = textsM l := List.take_of_length_le (by rw [textsM_len, HN.out]; exact Nat.le_refl _)
      rw [hE] at hone
      clear hE
      go_wp2
      go_ret
      exact ⟨_, _, rfl, hone⟩

set_option maxHeartbeats 2000000 in
theorem specTextsOf_any (l : List WordM) (a : Option Addr) (n c : Nat) (w : World) (hn : n = l.length) (hl : n ≤ 1048576) (hat : CellsAt w a (wordsC l)) :
    Calls Try.prog 21 #[.slice a n c] w fun e w' => ∃ a' c', e = .returned (.slice a' n c') ∧ One w w.heap.size w' 9 1 a' n c' (strsC (textsM l)) := by
  have HN := Lib.hid hn
  clear hn
  go_enter Try.func21, Try.ntmps21
  go_wp2
  go_loopw [3, 4] (fun v i wr => ∃ k : Nat, k ≤ n ∧ i = .int .i64 k ∧ ∃ a1 c1, v = .slice a1 k c1 ∧ One w w.heap.size wr 9 1 a1 k c1 (strsC ((textsM l).take k)))
    (fun _ i _ => n - (intOf i).toNat)
  case atStart => exact ⟨0, Nat.zero_le _, rfl, _, _, rfl, One.empty _ _ _⟩
  case round =>
    obtain ⟨k, hk, rfl, a1, c1, rfl, hone⟩ := hrel
    by_cases hlt : k < n
    · have hkl : k < l.length := by rw [← HN.out]; exact hlt
      obtain ⟨b, o, rfl, _, hc⟩ := (hat.below hone.below).word (fun e => by rw [e] at hkl; simp at hkl)
      obtain ⟨g1, _, _⟩ := hc k hkl
      obtain ⟨t, ht⟩ : ∃ t, l[k].text = t := ⟨_, rfl⟩
      rw [ht] at g1
      have HX := Lib.hid (textsK l k hkl ht)
      clear ht hc
      go_wp2_with (at_builtin; refine wpList_append_row rfl (.tmp 12) (.tmp 18) 33 rfl Try.ulS Try.infoS rfl (by decide) hone rfl #[.string t] rfl rfl (by simp [Value.oneCell']) (by unfold maxLen; omega) (by omega) ?_; intro a3 c3 w3 h3)
      go_roundw
      case rel => exact ⟨k + 1, by omega, by go_num, _, _, rfl, by rw [HX.out]; exact h3⟩
      case measure => simp [intOf]; omega
    · obtain rfl : k = n := by omega
      have hE : (textsM l).take k = textsM l := List.take_of_length_le (by rw [textsM_len, HN.out]; exact Nat.le_refl _)
      rw [hE] at hone
      clear hE
      go_wp2
      go_ret
      exact ⟨_, _, rfl, hone⟩

/-! ### Joined -/
def joinL (xs : List ByteArray) : Nat → List UInt8
  | 0 => []
  | k + 1 => (if 0 < k then joinL xs k ++ [32] else joinL xs k) ++ (xs.getD k ⟨#[]⟩).data.toList

/-- Texts with a space between. -/
def joinB (xs : List ByteArray) : ByteArray := ⟨(joinL xs xs.length).toArray⟩

theorem joinL_len (xs : List ByteArray) (k : Nat) (h : k ≤ xs.length) : (joinL xs k).length ≤ totalS (xs.take k) + k := by
  induction k with
  | zero => simp [joinL]
  | succ k ih =>
    have h1 := ih (by omega)
    have h2 := totalS_take xs k (by omega)
    have h3 : (xs.getD k ⟨#[]⟩).data.toList.length = xs[k].size := by simp [List.getD, List.getElem?_eq_getElem (show k < xs.length by omega)]
    simp only [joinL, List.length_append, h3]
    split <;> simp <;> omega

theorem joinL_first {xs : List ByteArray} {t : ByteArray} (h : 0 < xs.length) (ht : xs[0] = t) : joinL xs (0 + 1) = t.data.toList := by
  simp [joinL, List.getD, List.getElem?_eq_getElem h, ht]
theorem joinL_next {xs : List ByteArray} {k : Nat} {t : ByteArray} (h : k < xs.length) (hk : 0 < k) (ht : xs[k] = t) : joinL xs (k + 1) = joinL xs k ++ [32] ++ t.data.toList := by
  simp [joinL, List.getD, List.getElem?_eq_getElem h, ht, hk]

theorem strCells_bytes (s : ByteArray) : Lib.strCells s = byteCells s.data.toList := by
  simp [Lib.strCells, byteCells]


set_option maxHeartbeats 4000000 in
theorem implJoined_any (xs : List ByteArray) (a : Option Addr) (n c : Nat) (w : World) (hn : n = xs.length) (hl : n + totalS xs ≤ 1048576) (hat : CellsAt w a (strsC xs)) :
    Calls Try.prog 16 #[.slice a n c] w fun e w' => e = .returned (.string (joinB xs)) ∧ Below w.heap.size w w' := by
  have HN := Lib.hid hn
  clear hn
  go_enter Try.func16, Try.ntmps16
  go_wp2
  go_loopw [3, 4, 7] (fun v v4 i wr => ∃ k : Nat, k ≤ n ∧ i = .int .i64 k ∧ ∃ a1 n1 c1, v = .slice a1 n1 c1 ∧ One w w.heap.size wr 5 1 a1 n1 c1 (byteCells (joinL xs k)))
    (fun _ _ i _ => n - (intOf i).toNat)
  case atStart => exact ⟨0, Nat.zero_le _, rfl, none, 0, 0, rfl, One.nil _ _ _⟩
  case round =>
    obtain ⟨k, hk, rfl, a1, n1, c1, rfl, hone⟩ := hrel
    by_cases hlt : k < n
    · have hkl : k < xs.length := by rw [← HN.out]; exact hlt
      obtain ⟨b, o, rfl, hb0, hc⟩ := hat.str (fun e => by rw [e] at hkl; simp at hkl)
      have hn1 : n1 ≤ 1048576 := by
        have h1 := hone.len
        have h2 := joinL_len xs k (by omega)
        have h3 := totalS_take_le xs k
        simp only [byteCells, List.length_map] at h1
        omega
      have ht1 := totalS_get xs k hkl
      obtain ⟨t, ht⟩ : ∃ t, xs[k] = t := ⟨_, rfl⟩
      have hts : t.size ≤ 1048576 := by rw [← ht]; omega
      have HG := Lib.hid (show ∀ w', Below w.heap.size w w' → w'.cell? ⟨b, o + k, none⟩ = some (.string t) from fun w' hb => by rw [hb.cell (p := ⟨b, o + k, none⟩) hb0, hc k hkl, ht])
      have HT := Lib.hid ht
      clear ht hc ht1
      by_cases h0 : 0 < k
      · have HX := Lib.hid (joinL_next hkl h0 HT.out)
        go_wp2_with (first
          | (at_builtin; refine wpList_append_row rfl (.tmp 12) (.tmp 13) 22 rfl Try.ulB Try.infoB rfl (by decide) hone rfl #[.int .u8 32] rfl rfl (by simp [Value.oneCell']) (by unfold maxLen; omega) (by omega) ?_; intro a3 c3 w3 h3; have g3 := HG.out _ h3.below)
          | (at_builtin; refine wpList_append_text rfl (.tmp 15) (.tmp 19) 22 9 rfl Try.ulB Try.uls Try.infoB (l := joinL xs k ++ [32]) (by rw [byteCells_append]; exact h3) rfl t rfl (by unfold maxLen; omega) (by omega) ?_; intro a4 c4 w4 h4))
        go_roundw
        case rel => exact ⟨k + 1, by omega, by go_num, _, _, _, rfl, by rw [HX.out]; exact h4⟩
        case measure => simp [intOf]; omega
      · obtain rfl : k = 0 := by omega
        have HX := Lib.hid (joinL_first hkl HT.out)
        have g1 := HG.out _ hone.below
        rw [Nat.add_zero] at g1
        go_wp2_with (at_builtin; refine wpList_append_text rfl (.tmp 15) (.tmp 19) 22 9 rfl Try.ulB Try.uls Try.infoB (l := []) hone rfl t rfl (by unfold maxLen; omega) (by omega) ?_; intro a4 c4 w4 h4)
        go_roundw
        case rel => exact ⟨1, by omega, by go_num, _, _, _, rfl, by rw [HX.out]; exact h4⟩
        case measure => simp [intOf]; omega
    · obtain rfl : k = n := by omega
      have hconv := run_string_owned (P := Try.prog) 22 9 5 Try.ulB Try.ulb Try.uls hone.own
      have HE := Lib.hid (show (⟨(joinL xs k).toArray⟩ : ByteArray) = joinB xs by rw [joinB, HN.out])
      rw [HE.out] at hconv
      go_wp2
      go_ret
      exact ⟨rfl, hone.below⟩

/-- What has been joined behind k texts. -/
def joinK (xs : List ByteArray) (k : Nat) : ByteArray := ⟨(joinL xs k).toArray⟩

theorem joinK_first {xs : List ByteArray} {t : ByteArray} (h : 0 < xs.length) (ht : xs[0] = t) : joinK xs (0 + 1) = ⟨#[]⟩ ++ t := by
  apply ByteArray.ext
  rw [joinK, joinL_first h ht]; simp
theorem joinK_next {xs : List ByteArray} {k : Nat} {t : ByteArray} (h : k < xs.length) (hk : 0 < k) (ht : xs[k] = t) : joinK xs (k + 1) = joinK xs k ++ ⟨#[32]⟩ ++ t := by
  apply ByteArray.ext
  rw [joinK, joinL_next h hk ht, joinK]; simp
theorem joinK_size (xs : List ByteArray) (k : Nat) (h : k ≤ xs.length) : (joinK xs k).size ≤ totalS xs + k := by
  have h1 := joinL_len xs k h
  have h2 := totalS_take_le xs k
  show (joinL xs k).toArray.size ≤ _
  simp; omega

set_option maxHeartbeats 4000000 in
theorem specJoined_any (xs : List ByteArray) (a : Option Addr) (n c : Nat) (w : World) (hn : n = xs.length) (hl : n + totalS xs ≤ 1048576) (hat : CellsAt w a (strsC xs)) :
    Calls Try.prog 23 #[.slice a n c] w fun e w' => e = .returned (.string (joinB xs)) ∧ w = w' := by
  have HN := Lib.hid hn
  clear hn
  go_enter Try.func23, Try.ntmps23
  go_wp2
  go_loop [3, 4] (fun v i => ∃ k : Nat, k ≤ n ∧ i = .int .i64 k ∧ v = .string (joinK xs k))
    (fun _ i => n - (intOf i).toNat)
  case atStart => exact ⟨0, Nat.zero_le _, rfl, rfl⟩
  case round =>
    obtain ⟨k, hk, rfl, rfl⟩ := hrel
    by_cases hlt : k < n
    · have hkl : k < xs.length := by rw [← HN.out]; exact hlt
      obtain ⟨b, o, rfl, _, hc⟩ := hat.str (fun e => by rw [e] at hkl; simp at hkl)
      have g1 := hc k hkl
      have hj := joinK_size xs k (by omega)
      have ht1 := totalS_get xs k hkl
      obtain ⟨t, ht⟩ : ∃ t, xs[k] = t := ⟨_, rfl⟩
      obtain ⟨J, hJ⟩ : ∃ J, joinK xs k = J := ⟨_, rfl⟩
      rw [ht] at g1 ht1
      rw [hJ] at hj ⊢
      have hs1 : J.size + (⟨#[32]⟩ : ByteArray).size ≤ 9223372036854775807 := by show J.size + 1 ≤ _; omega
      have hs2 : (J ++ (⟨#[32]⟩ : ByteArray)).size + t.size ≤ 9223372036854775807 := by rw [ByteArray.size_append]; show J.size + 1 + _ ≤ _; omega
      have hs3 : J.size + t.size ≤ 9223372036854775807 := by omega
      have r1 := run_string_add_sum (P := Try.prog) w J ⟨#[32]⟩ hs1
      have r2 := run_string_add_sum (P := Try.prog) w (J ++ ⟨#[32]⟩) t hs2
      have r3 := run_string_add_sum (P := Try.prog) w J t hs3
      have HT := Lib.hid ht
      have HJ := Lib.hid hJ
      clear ht hc hJ hs1 hs2 hs3 hj ht1
      by_cases h0 : 0 < k
      · have HX := Lib.hid (joinK_next hkl h0 HT.out)
        go_wp2
        go_round
        case rel => exact ⟨k + 1, by omega, by go_num, by rw [HX.out, HJ.out]⟩
        case measure => simp [intOf]; omega
      · obtain rfl : k = 0 := by omega
        have HX := Lib.hid (joinK_first hkl HT.out)
        rw [Nat.add_zero] at g1
        have HJ2 := Lib.hid (show joinK xs 0 = ⟨#[]⟩ from rfl)
        go_wp2
        go_round
        case rel => exact ⟨1, by omega, by go_num, by rw [HX.out, ← HJ.out, HJ2.out]⟩
        case measure => simp [intOf]; omega
    · obtain rfl : k = n := by omega
      have HE := Lib.hid (show joinK xs k = joinB xs by rw [joinB, joinK, HN.out])
      go_wp2
      go_ret
      exact ⟨ret_str HE.out, rfl⟩

end Go.Proofs.Ytdcdminjoehiiaa
