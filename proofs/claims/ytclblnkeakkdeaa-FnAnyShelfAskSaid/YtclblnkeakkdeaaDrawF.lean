/-
  The contracts of the model's draws of shelves: rows of at most 40 entries; nothing that was there is written. Condition: the bytes can be read.
-/
import Derived.Test.YtclblnkeakkdeaaDrawD
import Derived.Test.YtclblnkeakkdeaaShelfG
namespace Go.Proofs.Ytclblnkeakkdeaa
open Go.RowKit

theorem shelfL_len (d : Int) (M : List (Int × Int)) : (shelfL d M).length ≤ M.length := by
  by_cases h : d < 0
  · rw [shelfL_not h]; exact Nat.zero_le _
  · rw [shelfL_ok h]; have := rowE_len (M.map fun m => (m.1, d, m.2)); rwa [List.length_map] at this
theorem joinL5_len (a b : List En) : (joinL5 a b).length ≤ a.length + b.length := by
  by_cases h : shOk a ∧ shOk b
  · rw [joinL5_ok h.1 h.2]; have := rowE_len (a ++ b); rwa [List.length_append] at this
  · rw [joinL5_not h]; exact Nat.zero_le _
theorem loseL_len (l : List En) (d : Int) : (loseL l d).length ≤ l.length := by
  by_cases h : shOk l
  · rw [loseL_ok h]; exact List.length_filter_le _ _
  · rw [loseL_not h]; exact Nat.zero_le _
theorem marksL_room5 (s : List UInt8) (k w : Int) : (marksL s k w).length ≤ s.length := by
  rw [marksL, List.length_map]
  have h1 := chosenN_len (printsL s k) w
  have h2 := printsN_room s k
  unfold marksAt
  omega
theorem askL5_len (l : List En) (M : List (Int × Int)) : (askL5 l M).length ≤ l.length := by
  have h : ∀ D : List Int, (D.flatMap (askD l M)).length ≤ D.length := by
    intro D
    induction D with
    | nil => simp
    | cons d D ih =>
      rw [List.flatMap_cons, List.length_append, List.length_cons]
      have : (askD l M d).length ≤ 1 := by unfold askD; split <;> simp
      omega
  exact Nat.le_trans (h _) (docsL5_len l)

theorem RdAt.later {w w' : World} {g : Nat} {a : Option Addr} {n c B : Nat} (h : RdAt w g a n c B) (hb : Below w.heap.size w w') : RdAt w' g a n c B := h.kept (fun k hk => hb.block k (Nat.lt_of_le_of_lt hk h.lt))
theorem grown_later {w w2 w3 : World} {row : Option Nat} (h : w.grownBy w2 row) (hb : Below w2.heap.size w2 w3) : w.grownBy w3 row := grownBy_trans h ⟨hb.os, hb.tape, hb.output, hb.size, fun k hk _ => hb.block k hk⟩
theorem own_keptS {w w' : World} {B g : Nat} {e : TypeId} {s : Nat} {a1 : Option Addr} {n1 c1 : Nat} {xs : List Value} (h : w.ownsRow B e s (.slice a1 n1 c1) n1 xs) (hg : w.grownBy w' (some g)) (hB : g < B) : w'.ownsRow B e s (.slice a1 n1 c1) n1 xs :=
  h.kept hg (by
    cases hv : Value.ownBlock (.slice a1 n1 c1) with
    | none => exact Or.inl rfl
    | some q => right; have := (h.lt q hv).1; simp; omega)
theorem own_cap {w : World} {B : Nat} {e : TypeId} {s : Nat} {a : Option Addr} {n c : Nat} {xs : List Value} (h : w.ownsRow B e s (.slice a n c) n xs) : n ≤ c ∧ c ≤ maxLen := by
  rcases h.2 with ⟨hv, h0⟩ | ⟨g, cap', cur, hv, _, _, hc, hm, _⟩
  · obtain ⟨rfl, rfl, rfl⟩ := (by simpa using hv : a = none ∧ n = 0 ∧ c = 0)
    exact ⟨Nat.le_refl _, by decide⟩
  · obtain ⟨rfl, rfl⟩ := (by simpa using hv : a = some ⟨g, 0, none⟩ ∧ c = cap')
    exact ⟨hc, hm⟩

theorem odd_any (w : World) (g : Nat) (a : Option Addr) (n c B : Nat) (m : Nat) (hB : B < 1000000) (h : RdAt w g a n c B) (hm9 : m < 1000000) :
    Calls Try.prog 100 #[.pointer (some ⟨g, 0, none⟩), .int .i64 m] w fun e w' => ∃ b : Bool, e = .returned (.bool b) ∧ RdAt w' g a n c (B + 1) ∧ w.grownBy w' (some g) := by
  by_cases h0 : 0 < m
  · have z1 : (0 : Int) < (m : Int) := by omega
    go_enter Try.func100, Try.ntmps100
    go_wp2_with fail
    refine (pick_pos _ g a n c B (m : Int) hB h (by omega) (by omega)).mono ?_
    rintro e w2 ⟨r, hr, rfl, h2, g2⟩
    clear h
    go_wp2
    go_ret
    exact ⟨_, rfl, h2, g2⟩
  · obtain rfl : m = 0 := by omega
    go_enter Try.func100, Try.ntmps100
    go_wp2
    go_ret
    exact ⟨_, rfl, h.more (by omega), World.grownBy.refl _ _⟩

set_option maxRecDepth 4000 in
set_option maxHeartbeats 8000000 in
theorem shelfD_any (w : World) (g : Nat) (a : Option Addr) (n c B : Nat) (m : Nat) (hB : B < 10000) (h : RdAt w g a n c B) (hm9 : m < 1000000) :
    Calls Try.prog 65 #[.pointer (some ⟨g, 0, none⟩), .int .i64 m] w fun e w' => ∃ (L : List En) (a' : Option Addr) (n' c' : Nat), L.length ≤ 40 ∧ e = .returned (.slice a' n' c') ∧ w'.ownsRow w.heap.size 31 3 (.slice a' n' c') n' (entsC L) ∧ RdAt w' g a n c (B + 60) ∧ w.grownBy w' (some g) := by
  have hlt := h.lt
  obtain ⟨i0, hi0, hz0, hz1, hz2⟩ := info_parts Try.infoE5
  go_enter Try.func65, Try.ntmps65
  go_wp2_with fail
  refine (pick_pos _ g a n c B 4 (by omega) (rd_alloc h _) (by omega) (by omega)).mono ?_
  rintro e w1 ⟨k0, hk0, rfl, hrd1, hg1⟩
  have hrow0 : w1.ownsRow w.heap.size 31 3 (.slice (some ⟨w.heap.size, 0, none⟩) 0 0) 0 (entsC []) := own_keptS (World.ownsRow_lit (e := 31) (size := 3) w #[] 0 (Nat.le_refl _) (Nat.zero_le _) (by simp)) hg1 hlt
  have hG1 : w.grownBy w1 (some g) := grownBy_trans (World.grownBy_alloc w _ _) hg1
  have hk3 : k0 ≤ 3 := by omega
  clear hg1 h hk0
  go_wp2
  go_loopw [5, 6] (fun v i wr => ∃ (k : Nat) (a1 : Option Addr) (n1 c1 : Nat) (L : List En), k ≤ 3 ∧ i = .int .i64 k ∧ v = .slice a1 n1 c1 ∧ Hid (L.length ≤ 12 * (3 - k)) ∧ wr.ownsRow w.heap.size 31 3 (.slice a1 n1 c1) n1 (entsC L) ∧ RdAt wr g a n c (B + 1 + (3 - k) * 14) ∧ w.grownBy wr (some g)) (fun _ i _ => (intOf i).toNat)
  case atStart => exact ⟨k0, _, 0, _, [], hk3, rfl, rfl, Lib.hid (by simp), hrow0, hrd1.more (by omega), hG1⟩
  case round =>
    clear hrow0 hrd1 hG1
    obtain ⟨k, a1, n1, c1, L, hk, rfl, rfl, HL, hown, hrd, hG⟩ := hrel
    have HN := Lib.hid (ents_len hown)
    have hn1 : n1 ≤ 36 := by have := HN.out; have := HL.out; omega
    by_cases hpos : 0 < k
    · have z1 : (0 : Int) < (k : Int) := by omega
      go_wp2_with fail
      refine (pick_pos _ g a n c _ 4 (by omega) hrd (by omega) (by omega)).mono ?_
      rintro e w2 ⟨r, hr, rfl, hrd2, hg2⟩
      have hown2 := own_keptS hown hg2 hlt
      have hG2 : w.grownBy w2 (some g) := grownBy_trans hG hg2
      clear hg2 hrd hown hG
      go_wp2_with fail
      refine (short_any _ g a n c _ 12 (by omega) (by omega) hrd2).mono ?_
      rintro e w3 ⟨t, ht, rfl, hrd3, hg3⟩
      have hown3 := own_keptS hown2 hg3 hlt
      have hG3 : w.grownBy w3 (some g) := grownBy_trans hG2 hg3
      clear hg3 hrd2 hown2 hG2
      obtain ⟨M, hM⟩ : ∃ M, marksL t.data.toList 2 2 = M := ⟨_, rfl⟩
      have hMl : M.length ≤ 12 := by rw [← hM]; exact Nat.le_trans (marksL_room5 _ _ _) (by have : t.data.toList.length = t.size := rfl; omega)
      go_wp2_with fail
      refine (specShelfOf_any r t 2 2 M _ hM (by omega) (by omega)).mono ?_
      rintro e w4 ⟨gS, nS, cS, rfl, h4⟩
      have hown4 := ownsRow_below hown3 h4.below
      have hrd4 := hrd3.later h4.below
      have hG4 := grown_later hG3 h4.below
      have hS9 : (shelfL r M).length ≤ 12 := Nat.le_trans (shelfL_len _ _) hMl
      have hnS := ents_len h4.own
      have d5 := specJoin5_any L (shelfL r M) a1 (some ⟨gS, 0, none⟩) n1 c1 nS cS w4 HN.out hnS (by omega) (by omega) (cellsAt_own hown4) h4.at_
      have HJ := Lib.hid (show (joinL5 L (shelfL r M)).length ≤ 12 * (3 - (k - 1)) by
        have h1 := joinL5_len L (shelfL r M)
        have h2 := HL.out
        omega)
      clear hown3 hrd3 hG3 h4 hS9 hnS hM hMl ht hown4 hr
      go_wp2_with fail
      refine d5.mono ?_
      rintro e w5 ⟨a5, n5, c5, rfl, h5⟩
      have hrd5 := hrd4.later h5.below
      have hG5 := grown_later hG4 h5.below
      have hown5 := own_under h5.own hG4.size
      clear h5 hrd4 hG4 d5
      go_wp2
      go_roundw
      case rel => exact ⟨k - 1, a5, n5, c5, joinL5 L (shelfL r M), by omega, by go_num, rfl, HJ, hown5, hrd5.more (by omega), hG5⟩
      case measure => simp [intOf]; omega
    · obtain rfl : k = 0 := by omega
      have HL40 := Lib.hid (show L.length ≤ 36 by have := HL.out; omega)
      go_wp2_with fail
      refine (odd_any _ g a n c _ m (by omega) hrd (by omega)).mono ?_
      rintro e w2 ⟨b, rfl, hrd2, hg2⟩
      have hown2 := own_keptS hown hg2 hlt
      have hG2 : w.grownBy w2 (some g) := grownBy_trans hG hg2
      clear hg2 hrd hown hG HL
      cases b with
      | false =>
        go_wp2
        go_ret
        exact ⟨L, a1, n1, c1, by have := HL40.out; omega, rfl, hown2, hrd2.more (by omega), hG2⟩
      | true =>
        go_wp2_with fail
        refine (pick_pos _ g a n c _ 5 (by omega) (rd_alloc hrd2 _) (by omega) (by omega)).mono ?_
        rintro e w3 ⟨r, hr, rfl, hrd3, hg3⟩
        have hrow := laid_row hg3 hrd2.lt
        have hown3 := own_keptS (hown2.alloc _) hg3 hlt
        have hG3 : w.grownBy w3 (some g) := grownBy_trans (grownBy_trans hG2 (World.grownBy_alloc w2 _ _)) hg3
        obtain ⟨hs, hhs⟩ : ∃ hs, w2.heap.size = hs := ⟨_, rfl⟩
        rw [hhs] at hrow
        rw [hhs]
        have kc := fun j => cell_of_row w3 hs j _ _ _ hrow
        obtain ⟨x, y, z, q1, q2, q3⟩ : ∃ x y z : Int, w3.cell? ⟨hs, r * 3, none⟩ = some (.int .i64 x) ∧ w3.cell? ⟨hs, r * 3 + 1, none⟩ = some (.int .i64 y) ∧ w3.cell? ⟨hs, r * 3 + 2, none⟩ = some (.int .i64 z) := by
          rw [kc, kc, kc]
          have : r = 0 ∨ r = 1 ∨ r = 2 ∨ r = 3 ∨ r = 4 := by omega
          rcases this with rfl | rfl | rfl | rfl | rfl
          all_goals exact ⟨_, _, _, rfl, rfl, rfl⟩
        have hE : entsC (L ++ [(x, y, z)]) = entsC L ++ [.int .i64 x, .int .i64 y, .int .i64 z] := entsC_snoc _ _
        have HE := Lib.hid hE
        have z2 : (r : Int) < 5 := by omega
        have z3 : (0 : Int) ≤ (r : Int) := by omega
        clear hown2 hG2 hrd2 hg3 hrow kc hE hhs
        go_wp2_with (at_builtin; refine wpList_append_one rfl (.tmp 24) (.tmp 35) 23 rfl w.heap.size 31 i0 _ 3 24 Try.ulE5 hi0 hz0 hz1 hz2 rfl (by decide) a1 n1 c1 _ rfl hown3 #[.int .i64 x, .int .i64 y, .int .i64 z] rfl rfl (by simp [Value.oneCell']) (by unfold maxLen; omega) (by omega) hG3.size ?_; intro a4 c4 w4 h4 hg4)
        have hG4 := grown_ownS hG3 hown3 (Nat.le_refl _) hg4
        have hrd4 := rd_ownS hrd3 hown3 hlt hg4
        clear hown3 hG3 hrd3 hg4
        go_ret
        exact ⟨L ++ [(x, y, z)], by have := HL40.out; simp; omega, a4, n1 + 1, c4, rfl, by rw [HE.out]; exact h4, hrd4.more (by omega), hG4⟩

/-- A row of entries that can be read. -/
structure EnAt (w : World) (a : Option Addr) (n c : Nat) (L : List En) : Prop where
  len : n = L.length
  cap : n ≤ c
  at_ : CellsAt w a (entsC L)
theorem enAt_of {w : World} {B : Nat} {a : Option Addr} {n c : Nat} {L : List En} (h : w.ownsRow B 31 3 (.slice a n c) n (entsC L)) : EnAt w a n c L := ⟨ents_len h, (own_cap h).1, cellsAt_own h⟩
theorem EnAt.later {w w' : World} {a : Option Addr} {n c : Nat} {L : List En} (h : EnAt w a n c L) (hb : Below w.heap.size w w') : EnAt w' a n c L := ⟨h.len, h.cap, h.at_.below hb⟩
theorem enAt_nil (w : World) : EnAt w none 0 0 [] := ⟨rfl, Nat.le_refl _, cellsAt_nil _ _⟩


theorem DrawShelfDocs_any (w : World) (a : Option Addr) (len cap : Nat) (zs : List Int) (h : IsRowK .u8 w a len cap zs) :
    Calls Try.prog 27 #[.slice a len cap] w fun e w' => ∃ (L : List En) (a1 : Option Addr) (n1 c1 : Nat), e = .returned (.slice a1 n1 c1) ∧ L.length ≤ 40 ∧ EnAt w' a1 n1 c1 L ∧ Below w.heap.size w w' := by
  go_enter Try.func27, Try.ntmps27
  go_wp2_with fail
  refine (open_any _ _ _ _ _ h).mono ?_
  rintro e w1 ⟨n, rfl, hrd, hb, hs⟩
  go_wp2_with fail
  refine (shelfD_any _ _ a n cap 0 12 (by omega) hrd (by omega)).mono ?_
  rintro e w2 ⟨L, a2, n2, c2, hL, rfl, ho, _, hg⟩
  have hB := below_rdD hb hs hg
  have hS := enAt_of ho
  clear hg hrd h hb hs ho
  go_wp2
  go_ret
  exact ⟨L, _, _, _, rfl, hL, hS, hB⟩



theorem DrawShelfLose_any (w : World) (a : Option Addr) (len cap : Nat) (zs : List Int) (h : IsRowK .u8 w a len cap zs) :
    Calls Try.prog 16 #[.slice a len cap] w fun e w' => ∃ (L : List En) (a1 : Option Addr) (n1 c1 : Nat) (d : Int), e = .returned (.tuple #[.slice a1 n1 c1, .int .i64 d]) ∧ L.length ≤ 40 ∧ EnAt w' a1 n1 c1 L ∧ Below w.heap.size w w' := by
  go_enter Try.func16, Try.ntmps16
  go_wp2_with fail
  refine (open_any _ _ _ _ _ h).mono ?_
  rintro e w1 ⟨n, rfl, hrd, hb, hs⟩
  go_wp2_with fail
  refine (shelfD_any _ _ a n cap 0 12 (by omega) hrd (by omega)).mono ?_
  rintro e w2 ⟨L1, a1, n1, c1, hL1, rfl, ho1, hrd2, hg2⟩
  go_wp2_with fail
  refine (pick_pos _ _ a n cap _ 6 (by omega) hrd2 (by omega) (by omega)).mono ?_
  rintro e w3 ⟨r, hr, rfl, _, hg3⟩
  have hB := below_rdD hb hs (grownBy_trans hg2 hg3)
  have hS1 := enAt_of (own_keptS ho1 hg3 (by omega))
  clear hg2 hg3 hrd hrd2 h hb hs ho1
  go_wp2
  go_ret2
  exact ⟨L1, _, _, _, _, rfl, hL1, hS1, hB⟩

theorem DrawShelfAsk_any (w : World) (a : Option Addr) (len cap : Nat) (zs : List Int) (h : IsRowK .u8 w a len cap zs) :
    Calls Try.prog 31 #[.slice a len cap] w fun e w' => ∃ (L : List En) (a1 : Option Addr) (n1 c1 : Nat) (M : List (Int × Int)) (a2 : Option Addr) (n2 c2 : Nat), e = .returned (.tuple #[.slice a1 n1 c1, .slice a2 n2 c2]) ∧ L.length ≤ 40 ∧ c1 ≤ maxLen ∧ EnAt w' a1 n1 c1 L ∧ n2 = M.length ∧ M.length ≤ 14 ∧ CellsAt w' a2 (pairsC M) ∧ Below w.heap.size w w' := by
  go_enter Try.func31, Try.ntmps31
  go_wp2_with fail
  refine (open_any _ _ _ _ _ h).mono ?_
  rintro e w1 ⟨n, rfl, hrd, hb, hs⟩
  go_wp2_with fail
  refine (shelfD_any _ _ a n cap 0 12 (by omega) hrd (by omega)).mono ?_
  rintro e w2 ⟨L1, a1, n1, c1, hL1, rfl, ho1, hrd2, hg2⟩
  go_wp2_with fail
  refine (short_any _ _ a n cap _ 14 (by omega) (by omega) hrd2).mono ?_
  rintro e w3 ⟨t, ht, rfl, _, hg3⟩
  have hB := below_rdD hb hs (grownBy_trans hg2 hg3)
  have hS1 := enAt_of (own_keptS ho1 hg3 (by omega))
  have hc9 := (own_cap ho1).2
  clear hg2 hg3 hrd hrd2 h hb hs ho1
  obtain ⟨M, hM⟩ : ∃ M, marksL t.data.toList 2 2 = M := ⟨_, rfl⟩
  have hMl : M.length ≤ 14 := by rw [← hM]; exact Nat.le_trans (marksL_room5 _ _ _) (by have : t.data.toList.length = t.size := rfl; omega)
  go_wp2_with fail
  refine (specMarks_any t 2 2 M _ hM (by omega) (by omega)).mono ?_
  rintro e w4 ⟨a2, n2, c2, rfl, o2⟩
  have hB4 := hB.trans (o2.below.mono hB.size)
  have hS4 := hS1.later o2.below
  have H2 := Lib.hid (pairs_len o2.own)
  have A2 := Lib.hid o2.at_
  clear o2 hB hS1 hM ht
  go_wp2
  go_ret2
  exact ⟨L1, _, _, _, M, _, _, _, rfl, hL1, hc9, hS4, H2.out, hMl, A2.out, hB4⟩


end Go.Proofs.Ytclblnkeakkdeaa
