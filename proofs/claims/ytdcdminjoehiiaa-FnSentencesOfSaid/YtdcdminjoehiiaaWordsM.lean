/-
  Mathematics of words of texts as bytes: what words are, that they join to the text made alike, and that the text made alike has the same ones. No conditions.
-/
import Derived.Test.YtdcdminjoehiiaaMathWordsT
import Derived.Test.YtdcdminjoehiiaaTexts
namespace Go.Proofs.Ytdcdminjoehiiaa

theorem bytes_ext {a b : ByteArray} (h : a.data.toList = b.data.toList) : a = b := by
  cases a; cases b
  congr 1
  exact Array.toList_inj.1 h

theorem extract_sl (s : ByteArray) (u v : Nat) : (s.extract u v).data.toList = sl s.data.toList (u, v) := by
  rw [ByteArray.data_extract, Array.toList_extract, List.extract_eq_take_drop, sl, List.drop_take]

theorem wordsL_full (s : List UInt8) : ∀ p ∈ wordsL s, Full (sl s p) := by
  intro p hp
  apply splitW_full s
  rw [split_places]
  exact List.mem_map.2 ⟨p, hp, rfl⟩

theorem texts_list (s : ByteArray) : (textsM (wordsB s)).map (·.data.toList) = mp (splitW s.data.toList) := by
  rw [split_places, textsM, wordsB, mp]
  simp only [List.map_map]
  apply List.map_congr_left
  intro p hp
  show (alikeB (s.extract p.1 p.2)).data.toList = (sl s.data.toList p).map sg
  rw [alikeB_list, extract_sl]
  exact alike_full (wordsL_full _ p hp).2

theorem joinL_jn (xs : List ByteArray) (hne : ∀ x ∈ xs, x.data.toList ≠ []) (k : Nat) (hk : k ≤ xs.length) : joinL xs k = jn ((xs.take k).map (·.data.toList)) := by
  induction k with
  | zero => rfl
  | succ k ih =>
    have hlt : k < xs.length := by omega
    rw [List.take_succ_eq_append_getElem hlt, List.map_append, List.map_cons, List.map_nil, jn_snoc, joinL, ih (by omega)]
    have e : xs.getD k ⟨#[]⟩ = xs[k] := by simp [List.getD, hlt]
    rw [e]
    have hall : ∀ t ∈ (xs.take k).map (·.data.toList), t ≠ [] := by
      intro t ht
      obtain ⟨x, hx, rfl⟩ := List.mem_map.1 ht
      exact hne x (List.mem_of_mem_take hx)
    unfold glue
    by_cases h0 : k = 0
    · subst h0; simp [jn]
    · have h1 : jn ((xs.take k).map (·.data.toList)) ≠ [] := fun e => by
        have := congrArg List.length ((jn_nil hall).1 e)
        simp only [List.length_map, List.length_take, List.length_nil] at this
        omega
      rw [if_neg h1, if_pos (by omega)]

theorem texts_full (s : ByteArray) : ∀ x ∈ textsM (wordsB s), x.data.toList ≠ [] := by
  intro x hx
  have h : x.data.toList ∈ mp (splitW s.data.toList) := by
    rw [← texts_list]; exact List.mem_map.2 ⟨x, hx, rfl⟩
  exact (full_mp (splitW_full _) _ h).1

/-- Words with one space between are the text made alike. -/
theorem joinB_words (s : ByteArray) : joinB (textsM (wordsB s)) = alikeB s := by
  apply bytes_ext
  show (joinL _ _).toArray.toList = _
  rw [List.toList_toArray, joinL_jn _ (texts_full s) _ (Nat.le_refl _), List.take_length, texts_list, ← alike_words, alikeB_list]

theorem map_toList_inj {a b : List ByteArray} (h : a.map (·.data.toList) = b.map (·.data.toList)) : a = b := by
  induction a generalizing b with
  | nil => cases b with
    | nil => rfl
    | cons y b => simp at h
  | cons x a ih => cases b with
    | nil => simp at h
    | cons y b =>
      simp only [List.map_cons] at h
      injection h with h1 h2
      rw [bytes_ext h1, ih h2]

/-- The text made alike has the words of the text. -/
theorem texts_alike (s : ByteArray) : textsM (wordsB (alikeB s)) = textsM (wordsB s) := by
  apply map_toList_inj
  rw [texts_list, texts_list, alikeB_list, split_alike, mp_mp]

theorem alikeB_twice (s : ByteArray) : alikeB (alikeB s) = alikeB s := bytes_ext (by rw [alikeB_list, alikeB_list]; exact (alike_again _).1)

theorem wordsB_length (s : ByteArray) : (wordsB s).length = (wordsL s.data.toList).length := by simp [wordsB]

/-- What is known of each word. -/
theorem word_facts (s : ByteArray) (k : Nat) (hk : k < (wordsB s).length) : ∃ u v : Nat, (wordsB s)[k] = ⟨alikeB (s.extract u v), u, v⟩ ∧ u < v ∧ v ≤ s.size ∧ (alikeB (s.extract u v)).size = v - u ∧
    (s.extract u v).size ≤ s.size ∧ ∀ h : k + 1 < (wordsB s).length, (v : Int) < ((wordsB s)[k + 1]).fr := by
  have hk2 : k < (wordsL s.data.toList).length := by rw [← wordsB_length]; exact hk
  have hp := wordsL_all s.data.toList _ (List.getElem_mem hk2)
  have hf := wordsL_full s.data.toList _ (List.getElem_mem hk2)
  have ho := wordsL_order s.data.toList
  have hsz : s.data.toList.length = s.size := rfl
  refine ⟨((wordsL s.data.toList)[k]).1, ((wordsL s.data.toList)[k]).2, by simp [wordsB, wordM], hp.1, by omega, ?_, by simp only [ByteArray.size_extract]; omega, fun h => ?_⟩
  · show (alikeB _).data.toList.length = _
    rw [alikeB_list, extract_sl, alike_full hf.2, List.length_map, sl, List.length_drop, List.length_take]
    omega
  · have := List.pairwise_iff_getElem.1 ho k (k + 1) hk2 (by rw [← wordsB_length]; exact h) (by omega)
    have e : ((wordsB s)[k + 1]).fr = (((wordsL s.data.toList)[k + 1]'(by rw [← wordsB_length]; exact h)).1 : Int) := by simp [wordsB, wordM]
    rw [e]
    omega

theorem word_first (s : ByteArray) (h : 0 < (wordsB s).length) : (-1 : Int) < ((wordsB s)[0]).fr := by
  obtain ⟨u, v, e, _⟩ := word_facts s 0 h
  rw [e]
  show (-1 : Int) < (u : Int)
  omega

end Go.Proofs.Ytdcdminjoehiiaa
