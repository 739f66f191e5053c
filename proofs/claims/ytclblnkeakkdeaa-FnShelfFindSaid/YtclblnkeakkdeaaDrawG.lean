/-
  The contracts of the model's draws of a shelf with a fingerprint, and of two entries; nothing that was there is written. Condition: the bytes can be read.
-/
import Derived.Test.YtclblnkeakkdeaaDrawF
import Derived.Deep.RegionWith
namespace Go.Proofs.Ytclblnkeakkdeaa
open Go.RowKit

theorem RdAt.drewR {w : World} {g : Nat} {a : Option Addr} {n c B : Nat} (h : RdAt w g a n c B) : RdAt w.drew g a n c B := ⟨h.row, h.bytes, h.few⟩
theorem grown_drewR {w w' : World} {row : Option Nat} (h : w.drew.grownBy w' row) : w.grownBy w' row := ⟨h.os, h.tape, h.output, h.size, h.block⟩

set_option maxRecDepth 4000 in
set_option maxHeartbeats 8000000 in
theorem DrawShelfFind_any (w : World) (a : Option Addr) (len cap : Nat) (zs : List Int) (h : IsRowK .u8 w a len cap zs) :
    Calls Try.prog 24 #[.slice a len cap] w fun e w' => ∃ (L : List En) (a1 : Option Addr) (n1 c1 : Nat) (p : Int), e = .returned (.tuple #[.slice a1 n1 c1, .int .i64 p]) ∧ L.length ≤ 40 ∧ c1 ≤ maxLen ∧ EnAt w' a1 n1 c1 L ∧ Below w.heap.size w w' := by
  go_enter Try.func24, Try.ntmps24
  go_wp2_with fail
  refine (open_any _ _ _ _ _ h).mono ?_
  rintro e w1 ⟨n, rfl, hrd, hb, hs⟩
  go_wp2_with fail
  refine (shelfD_any _ _ a n cap 0 12 (by omega) hrd (by omega)).mono ?_
  rintro e w2 ⟨L, a1, n1, c1, hL, rfl, ho1, hrd2, hg2⟩
  have HN := Lib.hid (ents_len ho1)
  have hn9 : n1 ≤ 40 := by have := HN.out; omega
  have hc1 := own_cap ho1
  have HC := Lib.hid hc1.2
  have tail : ∀ w5, w2.grownBy w5 (some w.heap.size) → L.length ≤ 40 ∧ c1 ≤ maxLen ∧ EnAt w5 a1 n1 c1 L ∧ Below w.heap.size w w5 := fun w5 hg5 =>
    ⟨hL, hc1.2, enAt_of (own_keptS ho1 hg5 (by omega)), below_rdD hb hs (grownBy_trans hg2 hg5)⟩
  have HT := Lib.hid tail
  clear tail hb hg2 h hrd hc1
  by_cases h0 : 0 < n1
  · have z0 : (0 : Int) < (n1 : Int) := by omega
    go_wp2_with fail
    refine (pick_pos _ _ a n cap _ 4 (by omega) hrd2 (by omega) (by omega)).mono ?_
    rintro e w3 ⟨r, hr, rfl, hrd3, hg3⟩
    by_cases hr0 : 0 < r
    · have z1 : (0 : Int) < (r : Int) := by omega
      have ho3 := own_keptS ho1 hg3 (by omega)
      have HP := Lib.hid (show ∀ w5, w3.grownBy w5 (some w.heap.size) → ∀ k, k < n1 → ∃ b o x, a1 = some ⟨b, o, none⟩ ∧ w5.cell? ⟨b, o + k * 3, none⟩ = some (.int .i64 x) from fun w5 hg5 k hk => by
        obtain ⟨b, o, h1, _, h2, _, _⟩ := ent_cells (cellsAt_own (own_keptS ho3 hg5 (by omega))) (show k < L.length by have := HN.out; omega) rfl
        exact ⟨b, o, _, h1, h2⟩)
      obtain ⟨b0, o0, x0, ha1, _⟩ := HP.out w3 (World.grownBy.refl _ _) 0 h0
      subst ha1
      have HP2 := Lib.hid (show ∀ w5, w3.grownBy w5 (some w.heap.size) → ∀ k, k < n1 → ∃ x, w5.cell? ⟨b0, o0 + k * 3, none⟩ = some (.int .i64 x) from fun w5 hg5 k hk => by
        obtain ⟨b, o, x, h1, h2⟩ := HP.out w5 hg5 k hk
        obtain ⟨rfl, rfl⟩ := (by simpa using h1 : b0 = b ∧ o0 = o)
        exact ⟨x, h2⟩)
      have HG3 := Lib.hid hg3
      clear hg3 hrd2 ho1 ho3 HP hr
      go_wp2_with fail
      go_region_with ((go_at_call 66; refine (pick_pos _ _ a n cap _ (n1 : Int) (by omega) hrd3.drewR (by omega) (by omega)).mono ?_; rintro e w5 ⟨s, hs9, rfl, hrd5, hg5⟩; have hg5' := (by first | exact grown_drewR hg5 | exact hg5 : w3.grownBy w5 (some w.heap.size)); obtain ⟨x, hx⟩ := HP2.out w5 hg5' s (by omega); have HG5 := Lib.hid hg5'; clear hg5 hg5'))
      all_goals (
        go_wp2
        go_ret2
        exact ⟨L, _, n1, c1, _, rfl, HT.out _ (by first | exact grownBy_trans HG3.out HG5.out | exact grownBy_trans (grownBy_trans HG3.out HG5.out) ⟨rfl, rfl, rfl, Nat.le_refl _, fun _ _ _ => rfl⟩)⟩)
    · obtain rfl : r = 0 := by omega
      have HG3 := Lib.hid hg3
      clear hg3 hrd2 ho1 hr
      go_wp2_with fail
      refine (short_any _ _ a n cap _ 3 (by omega) (by omega) hrd3).mono ?_
      rintro e w4 ⟨t, ht, rfl, _, hg4⟩
      have HG4 := Lib.hid (grownBy_trans HG3.out hg4)
      clear hg4 hrd3
      go_wp2_with fail
      refine (specPrintOf_is t _ _ (by omega) rfl).mono ?_
      rintro e w5 ⟨rfl, rfl⟩
      go_wp2
      go_ret2
      exact ⟨L, _, _, _, _, rfl, HT.out _ HG4.out⟩
  · obtain rfl : n1 = 0 := by omega
    clear ho1 h0
    go_wp2_with fail
    refine (short_any _ _ a n cap _ 3 (by omega) (by omega) hrd2).mono ?_
    rintro e w4 ⟨t, ht, rfl, _, hg4⟩
    have HG4 := Lib.hid hg4
    clear hg4 hrd2
    go_wp2_with fail
    refine (specPrintOf_is t _ _ (by omega) rfl).mono ?_
    rintro e w5 ⟨rfl, rfl⟩
    go_wp2
    go_ret2
    exact ⟨L, _, _, _, _, rfl, HT.out _ HG4.out⟩

end Go.Proofs.Ytclblnkeakkdeaa
