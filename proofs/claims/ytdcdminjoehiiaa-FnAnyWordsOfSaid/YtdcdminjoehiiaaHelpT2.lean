/-
  The contracts of the laws' own helpers sameTexts, sameWords, sameSpans. Conditions: fewer than 2^40 elements.
-/
import Derived.Test.YtdcdminjoehiiaaSentences
import Derived.Test.YtdcdminjoehiiaaTexts
namespace Go.Proofs.Ytdcdminjoehiiaa
open Go.RowKit

set_option maxHeartbeats 1000000 in
theorem sameTexts_same (a b : Option Addr) (n c d : Nat) (l : List ByteArray) (w : World) (hn : n = l.length) (hl : n < 1099511627776) (h1 : CellsAt w a (strsC l)) (h2 : CellsAt w b (strsC l)) :
    Calls Try.prog 20 #[.slice a n c, .slice b n d] w fun e w' => e = .returned (.bool true) ∧ ∃ q, w' = w.drewN q := by
  have HN := Lib.hid hn
  clear hn
  go_enter Try.func20, Try.ntmps20
  go_wp2
  go_loopw [5] (fun i wr => ∃ k : Nat, k ≤ n ∧ i = .int .i64 k ∧ ∃ q, wr = w.drewN q) (fun i _ => n - (intOf i).toNat)
  case atStart => exact ⟨0, Nat.zero_le _, rfl, 0, rfl⟩
  case round =>
    obtain ⟨k, hk, rfl, q, rfl⟩ := hrel
    by_cases hlt : k < n
    · have hkl : k < l.length := by rw [← HN.out]; exact hlt
      have hne : l ≠ [] := fun e => by rw [e] at hkl; simp at hkl
      obtain ⟨b1, o1, rfl, _, hc1⟩ := h1.str hne
      obtain ⟨b2, o2, rfl, _, hc2⟩ := h2.str hne
      have g1 := hc1 k hkl
      have g2 := hc2 k hkl
      obtain ⟨z, hz⟩ : ∃ z, l[k] = z := ⟨_, rfl⟩
      rw [hz] at g1 g2
      clear hz hc1 hc2 hne
      go_wp2
      go_quiet (fail)
      go_wp2
      go_roundw
      case rel => exact ⟨k + 1, by omega, by go_num, _, rfl⟩
      case measure => simp [intOf]; omega
    · go_wp2
      go_ret
      exact ⟨rfl, q, rfl⟩

end Go.Proofs.Ytdcdminjoehiiaa
