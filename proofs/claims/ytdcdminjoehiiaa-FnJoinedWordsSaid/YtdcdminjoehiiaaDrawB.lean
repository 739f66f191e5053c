/-
  The contracts of the model's draws of chapter 2: they return texts of at most 1000 bytes, places, words and rows of texts, in memory of their own. Condition: the bytes can be read.
-/
import Derived.Test.YtdcdminjoehiiaaRdText
import Derived.Test.YtdcdminjoehiiaaWordsOf
import Derived.Test.YtdcdminjoehiiaaTexts
namespace Go.Proofs.Ytdcdminjoehiiaa
open Go.RowKit

theorem below_rdB {w w1 w2 : World} (hb : Below w.heap.size w w1) (hs : w1.heap.size = w.heap.size + 1) (hg : w1.grownBy w2 (some w.heap.size)) : Below w.heap.size w w2 :=
  hb.grown hg (by omega) (fun k hk => by simp at hk; omega)

theorem DrawWordsOf_any (w : World) (a : Option Addr) (len cap : Nat) (zs : List Int) (h : IsRowK .u8 w a len cap zs) :
    Calls Try.prog 11 #[.slice a len cap] w fun e w' => ∃ t : ByteArray, t.size ≤ 1000 ∧ e = .returned (.string t) ∧ Below w.heap.size w w' := by
  go_enter Try.func11, Try.ntmps11
  go_wp2_with fail
  refine (open_any _ _ _ _ _ h).mono ?_
  rintro e w1 ⟨n, rfl, hrd, hb, hs⟩
  go_wp2_with fail
  refine (text_any _ _ a n cap 0 9 (by omega) (by omega) hrd).mono ?_
  rintro e w2 ⟨t, ht, rfl, _, hg⟩
  have hB := below_rdB hb hs hg
  clear hg hb hs hrd h
  go_wp2
  go_ret
  exact ⟨t, by omega, rfl, hB⟩

theorem DrawSentencesOf_any (w : World) (a : Option Addr) (len cap : Nat) (zs : List Int) (h : IsRowK .u8 w a len cap zs) :
    Calls Try.prog 25 #[.slice a len cap] w fun e w' => ∃ t : ByteArray, t.size ≤ 1000 ∧ e = .returned (.string t) ∧ Below w.heap.size w w' := by
  go_enter Try.func25, Try.ntmps25
  go_wp2_with fail
  refine (open_any _ _ _ _ _ h).mono ?_
  rintro e w1 ⟨n, rfl, hrd, hb, hs⟩
  go_wp2_with fail
  refine (text_any _ _ a n cap 0 12 (by omega) (by omega) hrd).mono ?_
  rintro e w2 ⟨t, ht, rfl, _, hg⟩
  have hB := below_rdB hb hs hg
  clear hg hb hs hrd h
  go_wp2
  go_ret
  exact ⟨t, by omega, rfl, hB⟩

theorem DrawTextsOf_any (w : World) (a : Option Addr) (len cap : Nat) (zs : List Int) (h : IsRowK .u8 w a len cap zs) :
    Calls Try.prog 19 #[.slice a len cap] w fun e w' => ∃ (t : ByteArray) (a' : Option Addr) (n c : Nat), t.size ≤ 1000 ∧ e = .returned (.slice a' n c) ∧ One w w.heap.size w' 31 3 a' n c (wordsC (wordsB t)) := by
  go_enter Try.func19, Try.ntmps19
  go_wp2_with fail
  refine (open_any _ _ _ _ _ h).mono ?_
  rintro e w1 ⟨n, rfl, hrd, hb, hs⟩
  go_wp2_with fail
  refine (text_any _ _ a n cap 0 9 (by omega) (by omega) hrd).mono ?_
  rintro e w2 ⟨t, ht, rfl, _, hg⟩
  have hB := below_rdB hb hs hg
  clear hg hb hs hrd h
  go_wp2_with fail
  refine (specWordsOf_any t _ (by omega)).mono ?_
  rintro e w3 ⟨a3, n3, c3, rfl, o3⟩
  have o4 := o3.under hB hB.size
  clear o3
  go_wp2
  go_ret
  exact ⟨t, _, _, _, by omega, rfl, o4⟩

theorem DrawWordAt_any (w : World) (a : Option Addr) (len cap : Nat) (zs : List Int) (h : IsRowK .u8 w a len cap zs) :
    Calls Try.prog 29 #[.slice a len cap] w fun e w' => ∃ (t : ByteArray) (x : Int), t.size ≤ 1000 ∧ -1 ≤ x ∧ x ≤ 100000 ∧ e = .returned (.tuple #[.string t, .int .i64 x]) ∧ Below w.heap.size w w' := by
  go_enter Try.func29, Try.ntmps29
  go_wp2_with fail
  refine (open_any _ _ _ _ _ h).mono ?_
  rintro e w1 ⟨n, rfl, hrd, hb, hs⟩
  go_wp2_with fail
  refine (text_any _ _ a n cap 0 6 (by omega) (by omega) hrd).mono ?_
  rintro e w2 ⟨t, ht, rfl, hrd2, hg⟩
  have hB := below_rdB hb hs hg
  clear hg hrd h
  go_wp2_with fail
  refine (pick_pos _ _ a n cap _ ((t.size : Int) + 3) (by omega) hrd2 (by omega) (by omega)).mono ?_
  rintro e w3 ⟨r, hr, rfl, _, hg3⟩
  have hB3 : Below w.heap.size w w3 := hB.grown hg3 hB.size (fun k hk => by simp at hk; omega)
  clear hg3 hrd2 hb hs hB
  have e1 : IntKind.i64.wrap ((r : Int) - 1) = (r : Int) - 1 := IntWalk.i64_in _ (by omega)
  go_wp2
  go_ret2
  exact ⟨t, (r : Int) - 1, by omega, by omega, by omega, rfl, hB3⟩

/-- Drawn texts: few, and each of at most 8 bytes. -/
def FewT (l : List ByteArray) (m : Nat) : Prop := l.length ≤ m ∧ ∀ x ∈ l, x.size ≤ 8
theorem fewT_total {l : List ByteArray} {m : Nat} (h : FewT l m) : totalS l ≤ 8 * m := by
  obtain ⟨h1, h2⟩ := h
  have key : ∀ l : List ByteArray, (∀ x ∈ l, x.size ≤ 8) → totalS l ≤ 8 * l.length := by
    intro l
    induction l with
    | nil => intro _; simp [totalS]
    | cons x l ih =>
      intro h
      have a := h x (by simp)
      have b := ih (fun y hy => h y (by simp [hy]))
      simp only [totalS, List.map_cons, List.sum_cons, List.length_cons] at b ⊢
      omega
  have := key l h2
  omega

theorem grown_own {w w2 w3 : World} {row : Option Nat} {B : Nat} {e : TypeId} {s : Nat} {v : Value} {n : Nat} {xs : List Value} (h : w.grownBy w2 row) (hown : w2.ownsRow B e s v n xs) (hB : w.heap.size ≤ B) (hg : w2.grownBy w3 v.ownBlock) : w.grownBy w3 row :=
  ⟨hg.os.trans h.os, hg.tape.trans h.tape, hg.output.trans h.output, Nat.le_trans h.size hg.size, fun k hk hr => (hg.block k (Nat.lt_of_lt_of_le hk h.size) (fun e => by have := (hown.lt k e.symm).1; omega)).trans (h.block k hk hr)⟩
theorem rd_own {w2 w3 : World} {g : Nat} {a : Option Addr} {n c b : Nat} {B : Nat} {e : TypeId} {s : Nat} {v : Value} {m : Nat} {xs : List Value} (h : RdAt w2 g a n c b) (hown : w2.ownsRow B e s v m xs) (hB : g < B) (hg : w2.grownBy w3 v.ownBlock) : RdAt w3 g a n c b :=
  h.kept (fun k hk => hg.block k (Nat.lt_of_le_of_lt hk h.lt) (fun e => by have := (hown.lt k e.symm).1; omega))

set_option maxHeartbeats 2000000 in
theorem words_any (w : World) (g : Nat) (a : Option Addr) (n c B : Nat) (most : Nat) (hm : most ≤ 1000) (hB : B < 100000) (h : RdAt w g a n c B) :
    Calls Try.prog 45 #[.pointer (some ⟨g, 0, none⟩), .int .i64 most] w fun e w' => ∃ a' n' c' l, FewT l most ∧ e = .returned (.slice a' n' c') ∧ w'.ownsRow w.heap.size 9 1 (.slice a' n' c') n' (strsC l) ∧ w.grownBy w' (some g) := by
  obtain ⟨i0, hi0, hz0, hz1, hz2⟩ := info_parts Try.infoS
  go_enter Try.func45, Try.ntmps45
  go_wp2_with fail
  refine (pick_pos _ g a n c B ((most : Int) + 1) (by omega) (rd_alloc h _) (by omega) (by omega)).mono ?_
  rintro e w1 ⟨k0, hk0, rfl, hrd1, hg1⟩
  have hlt := h.lt
  have hrow0 := ((World.ownsRow_lit (e := 9) (size := 1) w #[] 0 (Nat.le_refl _) (Nat.zero_le _) (by simp)).kept hg1 (.inr (by simp [Value.ownBlock]; omega)))
  have hG1 : w.grownBy w1 (some g) := grownBy_trans (World.grownBy_alloc w _ _) hg1
  clear hg1 h
  go_wp2
  go_loopw [5, 6] (fun v i wr => ∃ (k : Nat) (a1 : Option Addr) (n1 c1 : Nat) (l : List ByteArray), k ≤ k0 ∧ i = .int .i64 k ∧ v = .slice a1 n1 c1 ∧ FewT l (k0 - k) ∧ n1 ≤ 1000 ∧ wr.ownsRow w.heap.size 9 1 (.slice a1 n1 c1) n1 (strsC l) ∧ RdAt wr g a n c (B + 1 + (k0 - k)) ∧ w.grownBy wr (some g)) (fun _ i _ => (intOf i).toNat)
  case atStart => exact ⟨k0, _, 0, _, [], Nat.le_refl _, rfl, rfl, ⟨by simp, by simp⟩, by omega, hrow0, hrd1.more (by omega), hG1⟩
  case round =>
    clear hrow0 hrd1 hG1
    obtain ⟨k, a1, n1, c1, l, hk, rfl, rfl, hf, hn1, hown, hrd, hG⟩ := hrel
    by_cases hpos : 0 < k
    · go_wp2_with fail
      refine (pick_pos _ g a n c _ 8 (by omega) (rd_alloc hrd _) (by omega) (by omega)).mono ?_
      rintro e w2 ⟨r, hr, rfl, hrd2, hg2⟩
      have hrow := laid_row hg2 hrd.lt
      have hown2 := (hown.alloc (.cells #[.string ⟨#[116, 104, 101]⟩, .string ⟨#[115, 101, 97]⟩, .string ⟨#[97]⟩, .string ⟨#[115, 116, 111, 110, 101]⟩, .string ⟨#[98]⟩, .string ⟨#[]⟩, .string ⟨#[97]⟩, .string ⟨#[98]⟩] 9)).kept hg2 (by
        cases hv : Value.ownBlock (.slice a1 n1 c1) with
        | none => exact Or.inl rfl
        | some q => right; have := (hown.lt q hv).1; simp; omega)
      have hG2 : w.grownBy w2 (some g) := grownBy_trans (grownBy_trans hG (World.grownBy_alloc wr _ _)) hg2
      obtain ⟨t, ht, hc⟩ : ∃ t : ByteArray, t.size ≤ 8 ∧ w2.cell? ⟨wr.heap.size, r, none⟩ = some (.string t) := by
        rw [cell_of_row w2 wr.heap.size r _ _ _ hrow]
        have : r = 0 ∨ r = 1 ∨ r = 2 ∨ r = 3 ∨ r = 4 ∨ r = 5 ∨ r = 6 ∨ r = 7 := by omega
        rcases this with rfl | rfl | rfl | rfl | rfl | rfl | rfl | rfl
        all_goals exact ⟨_, by decide, rfl⟩
      clear hrow hg2 hrd hown hG
      go_wp2_with (at_builtin; refine wpList_append_one rfl (.tmp 16) (.tmp 22) 33 rfl w.heap.size 9 i0 _ 1 16 Try.ulS hi0 hz0 hz1 hz2 rfl (by decide) a1 n1 c1 _ rfl hown2 #[.string t] rfl rfl (by simp [Value.oneCell']) (by unfold maxLen; omega) (by omega) hG2.size ?_; intro a3 c3 w3 h3 hg3)
      have hlen : n1 ≤ k0 - k := by have h1 := hown2.1; rw [strsC_len] at h1; have := hf.1; omega
      have hG3 := grown_own hG2 hown2 (Nat.le_refl _) hg3
      have hrd3 := rd_own hrd2 hown2 hlt hg3
      clear hown2 hG2 hrd2 hg3
      go_roundw
      case rel => exact ⟨k - 1, _, _, _, l ++ [t], by omega, by go_num, rfl, ⟨by have := hf.1; simp; omega, fun x hx => by rcases List.mem_append.1 hx with hx | hx; exact hf.2 x hx; simp at hx; subst hx; exact ht⟩, by omega, by rw [strsC_append]; exact h3, hrd3.more (by omega), hG3⟩
      case measure => simp [intOf]; omega
    · obtain rfl : k = 0 := by omega
      go_wp2
      go_ret
      exact ⟨_, _, _, l, ⟨by have := hf.1; omega, hf.2⟩, rfl, hown, hG⟩

theorem DrawJoined_any (w : World) (a : Option Addr) (len cap : Nat) (zs : List Int) (h : IsRowK .u8 w a len cap zs) :
    Calls Try.prog 22 #[.slice a len cap] w fun e w' => ∃ a' n' c' l, FewT l 9 ∧ e = .returned (.slice a' n' c') ∧ One w w.heap.size w' 9 1 a' n' c' (strsC l) := by
  go_enter Try.func22, Try.ntmps22
  go_wp2_with fail
  refine (open_any _ _ _ _ _ h).mono ?_
  rintro e w1 ⟨n, rfl, hrd, hb, hs⟩
  go_wp2_with fail
  refine (words_any _ _ a n cap 0 9 (by omega) (by omega) hrd).mono ?_
  rintro e w2 ⟨a', n', c', l, hf, rfl, hown, hg⟩
  have hB := below_rdB hb hs hg
  have ho := own_under hown hb.size
  clear hg hb hs hrd h hown
  go_wp2
  go_ret
  exact ⟨_, _, _, l, hf, rfl, ho, hB.size, hB⟩

theorem DrawWordCounts_any (w : World) (a : Option Addr) (len cap : Nat) (zs : List Int) (h : IsRowK .u8 w a len cap zs) :
    Calls Try.prog 33 #[.slice a len cap] w fun e w' => ∃ a' n' c' l, FewT l 14 ∧ e = .returned (.slice a' n' c') ∧ One w w.heap.size w' 9 1 a' n' c' (strsC l) := by
  go_enter Try.func33, Try.ntmps33
  go_wp2_with fail
  refine (open_any _ _ _ _ _ h).mono ?_
  rintro e w1 ⟨n, rfl, hrd, hb, hs⟩
  go_wp2_with fail
  refine (words_any _ _ a n cap 0 14 (by omega) (by omega) hrd).mono ?_
  rintro e w2 ⟨a', n', c', l, hf, rfl, hown, hg⟩
  have hB := below_rdB hb hs hg
  have ho := own_under hown hb.size
  clear hg hb hs hrd h hown
  go_wp2
  go_ret
  exact ⟨_, _, _, l, hf, rfl, ho, hB.size, hB⟩

end Go.Proofs.Ytdcdminjoehiiaa
