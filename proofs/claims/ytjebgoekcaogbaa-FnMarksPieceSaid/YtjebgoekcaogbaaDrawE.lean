/-
  The contract of the model's draw of the marks of two texts, and of the laws' helper sameMarks. Condition: the bytes can be read.
-/
import Derived.Test.YtjebgoekcaogbaaDrawD
import Derived.Test.YtjebgoekcaogbaaMarks
namespace Go.Proofs.Ytjebgoekcaogbaa
open Go.RowKit

theorem DrawTwinsOf_any (w : World) (a : Option Addr) (len cap : Nat) (zs : List Int) (h : IsRowK .u8 w a len cap zs) :
    Calls Try.prog 28 #[.slice a len cap] w fun e w' => ∃ (t u : ByteArray) (k v : Int) (a1 : Option Addr) (n1 c1 : Nat) (a2 : Option Addr) (n2 c2 : Nat), t.size ≤ 24 ∧ u.size ≤ 36 ∧ e = .returned (.tuple #[.slice a1 n1 c1, .slice a2 n2 c2]) ∧
      n1 = (marksL t.data.toList k v).length ∧ n2 = (marksL u.data.toList k v).length ∧ CellsAt w' a1 (pairsC (marksL t.data.toList k v)) ∧ CellsAt w' a2 (pairsC (marksL u.data.toList k v)) ∧ Below w.heap.size w w' := by
  go_enter Try.func28, Try.ntmps28
  go_wp2_with fail
  refine (DrawMarksShared_any _ _ _ _ _ h).mono ?_
  rintro e w1 ⟨t, u, k, v, ht, hu, hk0, hk9, hv0, hv9, rfl, hb⟩
  clear h
  go_wp2_with fail
  refine (specMarks_any t k v _ _ rfl (by omega) (by omega)).mono ?_
  rintro e w2 ⟨a1, n1, c1, rfl, o1⟩
  have hb2 := hb.trans (o1.below.mono hb.size)
  go_wp2_with fail
  refine (specMarks_any u k v _ _ rfl (by omega) (by omega)).mono ?_
  rintro e w3 ⟨a2, n2, c2, rfl, o2⟩
  have HB3 := Lib.hid (hb2.trans (o2.below.mono hb2.size))
  have H1 := Lib.hid (pairs_len o1.own)
  have H2 := Lib.hid (pairs_len o2.own)
  have A1 := Lib.hid (cellsAt_own (o1.later o2.below).own)
  have A2 := Lib.hid (cellsAt_own o2.own)
  clear o1 o2 hb hb2
  go_wp2
  go_ret2
  exact ⟨t, u, k, v, a1, n1, c1, a2, n2, c2, ht, hu, rfl, H1.out, H2.out, A1.out, A2.out, HB3.out⟩

set_option maxHeartbeats 1000000 in
theorem sameMarks_b (a b : Option Addr) (n m c d : Nat) (l : List (Int × Int)) (w : World) (hn : n = l.length) (hm : m = l.length) (hl : n < 1099511627776) (h1 : CellsAt w a (pairsC l)) (h2 : CellsAt w b (pairsC l)) :
    Calls Try.prog 21 #[.slice a n c, .slice b m d] w fun e w' => e = .returned (.bool true) ∧ ∃ q, w' = w.drewN q := by
  obtain rfl : m = n := by omega
  have HN := Lib.hid hn
  clear hn hm
  go_enter Try.func21, Try.ntmps21
  go_wp2
  go_loopw [5] (fun i wr => ∃ k : Nat, k ≤ m ∧ i = .int .i64 k ∧ ∃ q, wr = w.drewN q) (fun i _ => m - (intOf i).toNat)
  case atStart => exact ⟨0, Nat.zero_le _, rfl, 0, rfl⟩
  case round =>
    obtain ⟨k, hk, rfl, q, rfl⟩ := hrel
    by_cases hlt : k < m
    · have hkl : k < l.length := by have := HN.out; omega
      have hne : l ≠ [] := fun e => by rw [e] at hkl; simp at hkl
      obtain ⟨b1, o1, rfl, _, hc1⟩ := h1.pair hne
      obtain ⟨b2, o2, rfl, _, hc2⟩ := h2.pair hne
      obtain ⟨r1, r2⟩ := hc1 k hkl
      obtain ⟨r3, r4⟩ := hc2 k hkl
      obtain ⟨x, hx⟩ : ∃ x, l[k].1 = x := ⟨_, rfl⟩
      obtain ⟨y, hy⟩ : ∃ y, l[k].2 = y := ⟨_, rfl⟩
      rw [hx] at r1 r3
      rw [hy] at r2 r4
      clear hc1 hc2 hne hx hy
      go_wp2
      go_quiet (fail)
      go_wp2
      go_roundw
      case rel => exact ⟨k + 1, by omega, by go_num, _, rfl⟩
      case measure => simp [intOf]; omega
    · go_wp2
      go_ret
      exact ⟨rfl, q, rfl⟩

end Go.Proofs.Ytjebgoekcaogbaa
