/-
  The contract of the model's draw of a text of few different letters: a text of at most as many bytes as asked. Condition: the reader can be read.
-/
import Derived.Test.YtehppjilnacjlaaRdText
import Derived.Test.YtehppjilnacjlaaMem
namespace Go.Proofs.Ytehppjilnacjlaa
open Go.RowKit

theorem Try.ulB3 : Try.prog.underlying 22 = some (.slice 5) := by kernel_rfl
theorem Try.ulb3 : Try.prog.underlying 5 = some (.int .u8) := by kernel_rfl
theorem Try.uls3 : Try.prog.underlying 9 = some .string := by kernel_rfl
theorem Try.infoB3 : (Try.prog.info? 5).map (fun i => (i.zero, i.size, i.bytes)) = some (some (.int .u8 0), 1, 1) := by kernel_rfl

theorem grown_ownS {w w2 w3 : World} {row : Option Nat} {B : Nat} {e : TypeId} {s : Nat} {v : Value} {n : Nat} {xs : List Value} (h : w.grownBy w2 row) (hown : w2.ownsRow B e s v n xs) (hB : w.heap.size ≤ B) (hg : w2.grownBy w3 v.ownBlock) : w.grownBy w3 row :=
  ⟨hg.os.trans h.os, hg.tape.trans h.tape, hg.output.trans h.output, Nat.le_trans h.size hg.size, fun k hk hr => (hg.block k (Nat.lt_of_lt_of_le hk h.size) (fun e => by have := (hown.lt k e.symm).1; omega)).trans (h.block k hk hr)⟩
theorem rd_ownS {w2 w3 : World} {g : Nat} {a : Option Addr} {n c b : Nat} {B : Nat} {e : TypeId} {s : Nat} {v : Value} {m : Nat} {xs : List Value} (h : RdAt w2 g a n c b) (hown : w2.ownsRow B e s v m xs) (hB : g < B) (hg : w2.grownBy w3 v.ownBlock) : RdAt w3 g a n c b :=
  h.kept (fun k hk => hg.block k (Nat.lt_of_le_of_lt hk h.lt) (fun e => by have := (hown.lt k e.symm).1; omega))
theorem byteCells_snoc (l : List UInt8) (b : UInt8) {x : Int} (hx : (b.toNat : Int) = x) : byteCells (l ++ [b]) = byteCells l ++ [.int .u8 x] := by
  subst hx; simp [byteCells]

set_option maxHeartbeats 4000000 in
theorem short_any (w : World) (g : Nat) (a : Option Addr) (n c B : Nat) (most : Nat) (hm : most ≤ 1000) (hB : B < 100000) (h : RdAt w g a n c B) :
    Calls Try.prog 38 #[.pointer (some ⟨g, 0, none⟩), .int .i64 most] w fun e w' => ∃ t : ByteArray, t.size ≤ most ∧ e = .returned (.string t) ∧ RdAt w' g a n c (B + 1 + most) ∧ w.grownBy w' (some g) := by
  obtain ⟨i0, hi0, hz0, hz1, hz2⟩ := info_parts Try.infoB3
  go_enter Try.func38, Try.ntmps38
  go_wp2_with fail
  refine (pick_pos _ g a n c B ((most : Int) + 1) (by omega) (rd_alloc h _) (by omega) (by omega)).mono ?_
  rintro e w1 ⟨k0, hk0, rfl, hrd1, hg1⟩
  have hlt := h.lt
  have hrow0 := ((World.ownsRow_lit (e := 5) (size := 1) w #[] 0 (Nat.le_refl _) (Nat.zero_le _) (by simp)).kept hg1 (.inr (by simp [Value.ownBlock]; omega)))
  have hG1 : w.grownBy w1 (some g) := grownBy_trans (World.grownBy_alloc w _ _) hg1
  clear hg1 h
  go_wp2
  go_loopw [5, 6] (fun v i wr => ∃ (k : Nat) (a1 : Option Addr) (n1 c1 : Nat) (l : List UInt8), k ≤ k0 ∧ i = .int .i64 k ∧ v = .slice a1 n1 c1 ∧ l.length ≤ k0 - k ∧ n1 ≤ 1000 ∧ wr.ownsRow w.heap.size 5 1 (.slice a1 n1 c1) n1 (byteCells l) ∧ RdAt wr g a n c (B + 1 + (k0 - k)) ∧ w.grownBy wr (some g)) (fun _ i _ => (intOf i).toNat)
  case atStart => exact ⟨k0, _, 0, _, [], Nat.le_refl _, rfl, rfl, by simp, by omega, hrow0, hrd1.more (by omega), hG1⟩
  case round =>
    clear hrow0 hrd1 hG1
    obtain ⟨k, a1, n1, c1, l, hk, rfl, rfl, hf, hn1, hown, hrd, hG⟩ := hrel
    by_cases hpos : 0 < k
    · go_wp2_with fail
      refine (pick_pos _ g a n c _ 7 (by omega) hrd (by omega) (by omega)).mono ?_
      rintro e w2 ⟨r, hr, rfl, hrd2, hg2⟩
      have hown2 := hown.kept hg2 (by
        cases hv : Value.ownBlock (.slice a1 n1 c1) with
        | none => exact Or.inl rfl
        | some q => right; have := (hown.lt q hv).1; simp; omega)
      have hG2 : w.grownBy w2 (some g) := grownBy_trans hG hg2
      have hlen : n1 ≤ k0 - k := by have h1 := hown2.1; simp [byteCells] at h1; omega
      clear hg2 hrd hown hG
      have hr7 : r = 0 ∨ r = 1 ∨ r = 2 ∨ r = 3 ∨ r = 4 ∨ r = 5 ∨ r = 6 := by omega
      clear hr
      rcases hr7 with rfl | rfl | rfl | rfl | rfl | rfl | rfl
      · have HC := Lib.hid (byteCells_snoc l 97 (x := 97) (by decide))
        go_wp2_with (at_builtin; refine wpList_append_one rfl (.tmp 16) (.tmp 20) 22 rfl w.heap.size 5 i0 _ 1 1 Try.ulB3 hi0 hz0 hz1 hz2 rfl (by decide) a1 n1 c1 _ rfl hown2 #[.int .u8 97] rfl rfl (by simp [Value.oneCell']) (by unfold maxLen; omega) (by omega) hG2.size ?_; intro a3 c3 w3 h3 hg3)
        have hG3 := grown_ownS hG2 hown2 (Nat.le_refl _) hg3
        have hrd3 := rd_ownS hrd2 hown2 hlt hg3
        clear hown2 hG2 hrd2 hg3
        go_roundw
        case rel => exact ⟨k - 1, _, _, _, l ++ [97], by omega, by go_num, rfl, by simp; omega, by omega, by rw [HC.out]; exact h3, hrd3.more (by omega), hG3⟩
        case measure => simp [intOf]; omega
      · have HC := Lib.hid (byteCells_snoc l 97 (x := 97) (by decide))
        go_wp2_with (at_builtin; refine wpList_append_one rfl (.tmp 16) (.tmp 20) 22 rfl w.heap.size 5 i0 _ 1 1 Try.ulB3 hi0 hz0 hz1 hz2 rfl (by decide) a1 n1 c1 _ rfl hown2 #[.int .u8 97] rfl rfl (by simp [Value.oneCell']) (by unfold maxLen; omega) (by omega) hG2.size ?_; intro a3 c3 w3 h3 hg3)
        have hG3 := grown_ownS hG2 hown2 (Nat.le_refl _) hg3
        have hrd3 := rd_ownS hrd2 hown2 hlt hg3
        clear hown2 hG2 hrd2 hg3
        go_roundw
        case rel => exact ⟨k - 1, _, _, _, l ++ [97], by omega, by go_num, rfl, by simp; omega, by omega, by rw [HC.out]; exact h3, hrd3.more (by omega), hG3⟩
        case measure => simp [intOf]; omega
      · have HC := Lib.hid (byteCells_snoc l 98 (x := 98) (by decide))
        go_wp2_with (at_builtin; refine wpList_append_one rfl (.tmp 16) (.tmp 20) 22 rfl w.heap.size 5 i0 _ 1 1 Try.ulB3 hi0 hz0 hz1 hz2 rfl (by decide) a1 n1 c1 _ rfl hown2 #[.int .u8 98] rfl rfl (by simp [Value.oneCell']) (by unfold maxLen; omega) (by omega) hG2.size ?_; intro a3 c3 w3 h3 hg3)
        have hG3 := grown_ownS hG2 hown2 (Nat.le_refl _) hg3
        have hrd3 := rd_ownS hrd2 hown2 hlt hg3
        clear hown2 hG2 hrd2 hg3
        go_roundw
        case rel => exact ⟨k - 1, _, _, _, l ++ [98], by omega, by go_num, rfl, by simp; omega, by omega, by rw [HC.out]; exact h3, hrd3.more (by omega), hG3⟩
        case measure => simp [intOf]; omega
      · have HC := Lib.hid (byteCells_snoc l 97 (x := 97) (by decide))
        go_wp2_with (at_builtin; refine wpList_append_one rfl (.tmp 16) (.tmp 20) 22 rfl w.heap.size 5 i0 _ 1 1 Try.ulB3 hi0 hz0 hz1 hz2 rfl (by decide) a1 n1 c1 _ rfl hown2 #[.int .u8 97] rfl rfl (by simp [Value.oneCell']) (by unfold maxLen; omega) (by omega) hG2.size ?_; intro a3 c3 w3 h3 hg3)
        have hG3 := grown_ownS hG2 hown2 (Nat.le_refl _) hg3
        have hrd3 := rd_ownS hrd2 hown2 hlt hg3
        clear hown2 hG2 hrd2 hg3
        go_roundw
        case rel => exact ⟨k - 1, _, _, _, l ++ [97], by omega, by go_num, rfl, by simp; omega, by omega, by rw [HC.out]; exact h3, hrd3.more (by omega), hG3⟩
        case measure => simp [intOf]; omega
      · have HC := Lib.hid (byteCells_snoc l 98 (x := 98) (by decide))
        go_wp2_with (at_builtin; refine wpList_append_one rfl (.tmp 16) (.tmp 20) 22 rfl w.heap.size 5 i0 _ 1 1 Try.ulB3 hi0 hz0 hz1 hz2 rfl (by decide) a1 n1 c1 _ rfl hown2 #[.int .u8 98] rfl rfl (by simp [Value.oneCell']) (by unfold maxLen; omega) (by omega) hG2.size ?_; intro a3 c3 w3 h3 hg3)
        have hG3 := grown_ownS hG2 hown2 (Nat.le_refl _) hg3
        have hrd3 := rd_ownS hrd2 hown2 hlt hg3
        clear hown2 hG2 hrd2 hg3
        go_roundw
        case rel => exact ⟨k - 1, _, _, _, l ++ [98], by omega, by go_num, rfl, by simp; omega, by omega, by rw [HC.out]; exact h3, hrd3.more (by omega), hG3⟩
        case measure => simp [intOf]; omega
      · have HC := Lib.hid (byteCells_snoc l 32 (x := 32) (by decide))
        go_wp2_with (at_builtin; refine wpList_append_one rfl (.tmp 16) (.tmp 20) 22 rfl w.heap.size 5 i0 _ 1 1 Try.ulB3 hi0 hz0 hz1 hz2 rfl (by decide) a1 n1 c1 _ rfl hown2 #[.int .u8 32] rfl rfl (by simp [Value.oneCell']) (by unfold maxLen; omega) (by omega) hG2.size ?_; intro a3 c3 w3 h3 hg3)
        have hG3 := grown_ownS hG2 hown2 (Nat.le_refl _) hg3
        have hrd3 := rd_ownS hrd2 hown2 hlt hg3
        clear hown2 hG2 hrd2 hg3
        go_roundw
        case rel => exact ⟨k - 1, _, _, _, l ++ [32], by omega, by go_num, rfl, by simp; omega, by omega, by rw [HC.out]; exact h3, hrd3.more (by omega), hG3⟩
        case measure => simp [intOf]; omega
      · have HC := Lib.hid (byteCells_snoc l 99 (x := 99) (by decide))
        go_wp2_with (at_builtin; refine wpList_append_one rfl (.tmp 16) (.tmp 20) 22 rfl w.heap.size 5 i0 _ 1 1 Try.ulB3 hi0 hz0 hz1 hz2 rfl (by decide) a1 n1 c1 _ rfl hown2 #[.int .u8 99] rfl rfl (by simp [Value.oneCell']) (by unfold maxLen; omega) (by omega) hG2.size ?_; intro a3 c3 w3 h3 hg3)
        have hG3 := grown_ownS hG2 hown2 (Nat.le_refl _) hg3
        have hrd3 := rd_ownS hrd2 hown2 hlt hg3
        clear hown2 hG2 hrd2 hg3
        go_roundw
        case rel => exact ⟨k - 1, _, _, _, l ++ [99], by omega, by go_num, rfl, by simp; omega, by omega, by rw [HC.out]; exact h3, hrd3.more (by omega), hG3⟩
        case measure => simp [intOf]; omega
    · obtain rfl : k = 0 := by omega
      have hconv := run_string_owned (P := Try.prog) 22 9 5 Try.ulB3 Try.ulb3 Try.uls3 hown
      have hrd9 := hrd.more (B' := B + 1 + most) (by omega)
      have hl9 : l.length ≤ most := by omega
      clear hown hrd hf
      go_wp2
      go_ret
      exact ⟨_, by show l.toArray.size ≤ most; simpa using hl9, rfl, hrd9, hG⟩

end Go.Proofs.Ytehppjilnacjlaa
