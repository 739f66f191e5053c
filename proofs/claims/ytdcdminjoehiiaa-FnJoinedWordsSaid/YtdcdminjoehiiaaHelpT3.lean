/-
  The contracts of the laws' own helpers sameWords and sameSpans. Conditions: fewer than 2^40 elements.
-/
import Derived.Test.YtdcdminjoehiiaaSentences
import Derived.Test.YtdcdminjoehiiaaTexts
namespace Go.Proofs.Ytdcdminjoehiiaa
open Go.RowKit

/-- The cells of a slice of spans. -/
theorem CellsAt.span {w : World} {a : Option Addr} {l : List (Int × Int)} (h : CellsAt w a (spansC l)) (hne : l ≠ []) : ∃ b o, a = some ⟨b, o, none⟩ ∧ b < w.heap.size ∧
    ∀ k (hk : k < l.length), w.cell? ⟨b, o + k * 2, none⟩ = some (.int .i64 l[k].1) ∧ w.cell? ⟨b, o + k * 2 + 1, none⟩ = some (.int .i64 l[k].2) := by
  have hne2 : spansC l ≠ [] := by
    cases l with
    | nil => exact absurd rfl hne
    | cons x l => simp [spansC, spanC]
  have hl : ∀ x : Int × Int, (spanC x).length = 2 := fun x => rfl
  obtain ⟨b, o, ha, hb, hc⟩ := h.spot hne2
  refine ⟨b, o, ha, hb, fun k hk => ⟨?_, ?_⟩⟩
  · exact hc (k * 2) _ (by rw [spansC, show k * 2 = k * 2 + 0 from rfl, flat_get spanC 2 hl l k 0 hk (by decide)]; rfl)
  · rw [Nat.add_assoc]; exact hc (k * 2 + 1) _ (by rw [spansC, flat_get spanC 2 hl l k 1 hk (by decide)]; rfl)

set_option maxHeartbeats 1000000 in
theorem sameWords_same (a b : Option Addr) (n c d : Nat) (l : List WordM) (w : World) (hn : n = l.length) (hl : n < 1099511627776) (h1 : CellsAt w a (wordsC l)) (h2 : CellsAt w b (wordsC l)) :
    Calls Try.prog 13 #[.slice a n c, .slice b n d] w fun e w' => e = .returned (.bool true) ∧ ∃ q, w' = w.drewN q := by
  have HN := Lib.hid hn
  clear hn
  go_enter Try.func13, Try.ntmps13
  go_wp2
  go_loopw [5] (fun i wr => ∃ k : Nat, k ≤ n ∧ i = .int .i64 k ∧ ∃ q, wr = w.drewN q) (fun i _ => n - (intOf i).toNat)
  case atStart => exact ⟨0, Nat.zero_le _, rfl, 0, rfl⟩
  case round =>
    obtain ⟨k, hk, rfl, q, rfl⟩ := hrel
    by_cases hlt : k < n
    · have hkl : k < l.length := by rw [← HN.out]; exact hlt
      have hne : l ≠ [] := fun e => by rw [e] at hkl; simp at hkl
      obtain ⟨b1, o1, rfl, _, hc1⟩ := h1.word hne
      obtain ⟨b2, o2, rfl, _, hc2⟩ := h2.word hne
      obtain ⟨g1, g2, g3⟩ := hc1 k hkl
      obtain ⟨f1, f2, f3⟩ := hc2 k hkl
      obtain ⟨z, hz⟩ : ∃ z, l[k].text = z := ⟨_, rfl⟩
      obtain ⟨x, hx⟩ : ∃ x, l[k].fr = x := ⟨_, rfl⟩
      obtain ⟨y, hy⟩ : ∃ y, l[k].to = y := ⟨_, rfl⟩
      rw [hz] at g1 f1
      rw [hx] at g2 f2
      rw [hy] at g3 f3
      clear hz hx hy hc1 hc2 hne
      go_wp2
      go_quiet (fail)
      go_wp2
      go_roundw
      case rel => exact ⟨k + 1, by omega, by go_num, _, rfl⟩
      case measure => simp [intOf]; omega
    · go_wp2
      go_ret
      exact ⟨rfl, q, rfl⟩

set_option maxHeartbeats 1000000 in
theorem sameSpans_same (a b : Option Addr) (n c d : Nat) (l : List (Int × Int)) (w : World) (hn : n = l.length) (hl : n < 1099511627776) (h1 : CellsAt w a (spansC l)) (h2 : CellsAt w b (spansC l)) :
    Calls Try.prog 27 #[.slice a n c, .slice b n d] w fun e w' => e = .returned (.bool true) ∧ ∃ q, w' = w.drewN q := by
  have HN := Lib.hid hn
  clear hn
  go_enter Try.func27, Try.ntmps27
  go_wp2
  go_loopw [5] (fun i wr => ∃ k : Nat, k ≤ n ∧ i = .int .i64 k ∧ ∃ q, wr = w.drewN q) (fun i _ => n - (intOf i).toNat)
  case atStart => exact ⟨0, Nat.zero_le _, rfl, 0, rfl⟩
  case round =>
    obtain ⟨k, hk, rfl, q, rfl⟩ := hrel
    by_cases hlt : k < n
    · have hkl : k < l.length := by rw [← HN.out]; exact hlt
      have hne : l ≠ [] := fun e => by rw [e] at hkl; simp at hkl
      obtain ⟨b1, o1, rfl, _, hc1⟩ := h1.span hne
      obtain ⟨b2, o2, rfl, _, hc2⟩ := h2.span hne
      obtain ⟨g1, g2⟩ := hc1 k hkl
      obtain ⟨f1, f2⟩ := hc2 k hkl
      obtain ⟨x, hx⟩ : ∃ x, l[k].1 = x := ⟨_, rfl⟩
      obtain ⟨y, hy⟩ : ∃ y, l[k].2 = y := ⟨_, rfl⟩
      rw [hx] at g1 f1
      rw [hy] at g2 f2
      clear hx hy hc1 hc2 hne
      go_wp2
      go_quiet (fail)
      go_wp2
      go_roundw
      case rel => exact ⟨k + 1, by omega, by go_num, _, rfl⟩
      case measure => simp [intOf]; omega
    · go_wp2
      go_ret
      exact ⟨rfl, q, rfl⟩

end Go.Proofs.Ytdcdminjoehiiaa
