/-
  The contracts of the laws' own helpers sameInts and rising over slices of int. Conditions: fewer than 2^40 elements.
-/
import Derived.Test.YtehppjilnacjlaaProg
import Derived.Test.YtehppjilnacjlaaOwnA
import Derived.WalkKit
import Derived.Lib.Hide
import Derived.IntWalk
import Derived.Deep.QuietTactic
import Derived.BigQuiet
namespace Go.Proofs.Ytehppjilnacjlaa
open Go.RowKit

theorem sameInts_same (a b : Option Addr) (c d : Nat) (xs : List Int) (w : World) (hn : xs.length < 1099511627776) (h1 : IntsAt w a xs) (h2 : IntsAt w b xs) :
    Calls Try.prog 31 #[.slice a xs.length c, .slice b xs.length d] w fun e w' => e = .returned (.bool true) ∧ ∃ q, w' = w.drewN q := by
  obtain ⟨n, hxs⟩ : ∃ n, xs.length = n := ⟨_, rfl⟩
  rw [hxs] at hn ⊢
  by_cases h0 : n = 0
  · subst h0
    go_enter Try.func31, Try.ntmps31
    go_wp2
    refine wp_loop_rounds 1 ?_
    rw [rounds_succ]
    go_wp2
    go_ret
    exact ⟨rfl, 0, rfl⟩
  · have hne : xs ≠ [] := fun e => h0 (by rw [← hxs, e]; rfl)
    obtain ⟨b1, o1, rfl, hc1⟩ := h1.spot hne
    obtain ⟨b2, o2, rfl, hc2⟩ := h2.spot hne
    rw [hxs] at hc1 hc2
    have H1 := Lib.hid hc1
    have H2 := Lib.hid hc2
    have HX := Lib.hid hxs
    clear h1 h2 hc1 hc2 hne hxs
    go_enter Try.func31, Try.ntmps31
    go_wp2
    go_loopw [5] (fun i wr => ∃ k : Nat, k ≤ n ∧ i = .int .i64 k ∧ ∃ q, wr = w.drewN q) (fun i _ => n - (intOf i).toNat)
    case atStart => exact ⟨0, Nat.zero_le _, rfl, 0, rfl⟩
    case round =>
      obtain ⟨k, hk, rfl, q, rfl⟩ := hrel
      by_cases hlt : k < n
      · have g1 : w.cell? ⟨b1, o1 + k, none⟩ = some (.int .i64 (xs.getD k 0)) := H1.out k hlt
        have g2 : w.cell? ⟨b2, o2 + k, none⟩ = some (.int .i64 (xs.getD k 0)) := H2.out k hlt
        obtain ⟨z, hz⟩ : ∃ z, xs.getD k 0 = z := ⟨_, rfl⟩
        rw [hz] at g1 g2
        clear hz
        go_wp2
        go_quiet (fail)
        go_wp2
        go_roundw
        case rel => exact ⟨k + 1, by omega, by go_num, _, rfl⟩
        case measure => simp [intOf]; omega
      · go_wp2
        go_ret
        exact ⟨rfl, q, rfl⟩



end Go.Proofs.Ytehppjilnacjlaa
