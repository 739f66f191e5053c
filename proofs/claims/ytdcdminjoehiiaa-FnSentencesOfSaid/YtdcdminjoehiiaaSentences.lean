/-
  The contracts of the functions SentencesOf: they return the spans of the sentences of a text, in memory of their own; nothing that was there is written. Condition: the text has at most 2^20 bytes.
-/
import Derived.Test.YtdcdminjoehiiaaGap
import Derived.Test.YtdcdminjoehiiaaMem
namespace Go.Proofs.Ytdcdminjoehiiaa
open Go.RowKit

theorem Try.ulP : Try.prog.underlying 41 = some (.slice 45) := by kernel_rfl
theorem Try.infoP : (Try.prog.info? 45).map (fun i => (i.zero, i.size, i.bytes)) = some (some (.agg #[.int .i64 0, .int .i64 0]), 2, 16) := by kernel_rfl

/-- A span as data: two numbers. -/
def spanC (x : Int × Int) : List Value := [.int .i64 x.1, .int .i64 x.2]
theorem spanC_len (x : Int × Int) : (spanC x).length = 2 := rfl
def spansC (l : List (Int × Int)) : List Value := l.flatMap spanC
def spanM (p : Nat × Nat) : Int × Int := (p.1, p.2)
def sentB (s : ByteArray) : List (Int × Int) := (sentL s.data.toList).map spanM

/-- The cells of the sentences that ended ahead of k. -/
def sentK (s : ByteArray) (k : Nat) : List Value := spansC ((stN s.data.toList k).out.map spanM)

theorem sentK_len (s : ByteArray) (k : Nat) : (sentK s k).length = (stN s.data.toList k).out.length * 2 := by
  rw [sentK, spansC, flat_len spanC 2 spanC_len, List.length_map]

theorem sentK_same {s : ByteArray} {k : Nat} (h : (stN s.data.toList (k + 1)).out = (stN s.data.toList k).out) : sentK s (k + 1) = sentK s k := by rw [sentK, h, sentK]
theorem sentK_more {s : ByteArray} {k f t : Nat} (h : (stN s.data.toList (k + 1)).out = (stN s.data.toList k).out ++ [(f, t)]) : sentK s (k + 1) = sentK s k ++ [.int .i64 f, .int .i64 t] := by
  rw [sentK, h, sentK, spansC, spansC, List.map_append, List.flatMap_append]; rfl
theorem sentB_none {s : ByteArray} (h : (stN s.data.toList s.size).cur = none) : spansC (sentB s) = sentK s s.size := by
  have hsz : s.data.toList.length = s.size := rfl
  rw [sentB, sentL, hsz, h, sentK]; simp
theorem sentB_some {s : ByteArray} {f t : Nat} (h : (stN s.data.toList s.size).cur = some (f, t)) : spansC (sentB s) = sentK s s.size ++ [.int .i64 f, .int .i64 t] := by
  have hsz : s.data.toList.length = s.size := rfl
  rw [sentB, sentL, hsz, h, sentK, spansC, spansC, List.map_append, List.flatMap_append]; rfl

theorem Try.gapI (s : ByteArray) (k : Nat) (hk : k < s.size) (g : Bool) (h : gapB (at0 s.data.toList k) = g) : gapB s[k] = g := by rw [← at0_get s k hk]; exact h
theorem Try.endI (s : ByteArray) (k : Nat) (hk : k < s.size) (g : Bool) (h : endB (at0 s.data.toList k) = g) : endB s[k] = g := by rw [← at0_get s k hk]; exact h

set_option maxHeartbeats 8000000 in
theorem implSentencesOf_any (s : ByteArray) (w : World) (hs : s.size ≤ 1048576) :
    Calls Try.prog 26 #[.string s] w fun e w' => ∃ a n c, e = .returned (.slice a n c) ∧
      One w w.heap.size w' 45 2 a n c (spansC (sentB s)) := by
  go_enter Try.func26, Try.ntmps26
  go_wp2
  go_loopw [3, 4, 5, 6] (fun v f t i wr => ∃ k x y : Nat, k ≤ s.size ∧ i = .int .i64 k ∧ f = .int .i64 x ∧ t = .int .i64 y ∧ Hid ((stN s.data.toList k).cur = none ∧ x = y ∧ y ≤ k ∨ (stN s.data.toList k).cur = some (x, y)) ∧
      ∃ a n c, v = .slice a n c ∧ One w w.heap.size wr 45 2 a n c (sentK s k))
    (fun _ _ _ i _ => s.size - (intOf i).toNat)
  case atStart => exact ⟨0, 0, 0, Nat.zero_le _, rfl, rfl, rfl, Lib.hid (.inl ⟨rfl, rfl, Nat.le_refl _⟩), none, 0, 0, rfl, One.nil _ _ _⟩
  case round =>
    obtain ⟨k, x, y, hk, rfl, rfl, rfl, HC, a, n, c, rfl, hone⟩ := hrel
    have hn : n ≤ 1048576 := by
      have h1 := hone.len
      rw [sentK_len] at h1
      have h2 := stN_room s.data.toList k
      omega
    by_cases hlt : k < s.size
    · have hb : (s[k].toNat : Int) ≤ 255 := by have := s[k].toNat_lt; omega
      by_cases hg : gapB (at0 s.data.toList k) = true
      · have HG := Lib.hid (Try.gapI s k hlt _ hg)
        by_cases he : endB (at0 s.data.toList k) = true
        · have HE := Lib.hid (Try.endI s k hlt _ he)
          rcases HC.out with ⟨hc, rfl, hy⟩ | hc
          · have HX := stN_end_none he hc
            have HX1 := Lib.hid (sentK_same HX.1)
            have HX2 := Lib.hid HX.2
            clear HX hc hg he
            go_wp2_with fail
            refine (isGapByte_is _ _ _ HG.out).mono ?_
            rintro e1 w1 ⟨rfl, rfl⟩
            go_wp2_with fail
            refine (endsSentence_is _ _ _ HE.out).mono ?_
            rintro e1 w1 ⟨rfl, q, rfl⟩
            go_wp2
            go_roundw
            case rel => exact ⟨k + 1, x, x, by omega, by go_num, rfl, rfl, Lib.hid (.inl ⟨HX2.out, rfl, by omega⟩), _, _, _, rfl, by rw [HX1.out]; exact ⟨hone.own, hone.base, below_drewN' hone.below q⟩⟩
            case measure => simp [intOf]; omega
          · have hxy := stN_cur s.data.toList k _ hc
            have HX := stN_end_some he hc
            have HX1 := Lib.hid (sentK_more HX.1)
            have HX2 := Lib.hid HX.2
            obtain ⟨hxy1, hxy2⟩ := hxy
            simp only at hxy1 hxy2
            clear HX hc hg he
            go_wp2_with fail
            refine (isGapByte_is _ _ _ HG.out).mono ?_
            rintro e1 w1 ⟨rfl, rfl⟩
            go_wp2_with fail
            refine (endsSentence_is _ _ _ HE.out).mono ?_
            rintro e1 w1 ⟨rfl, q, rfl⟩
            have hone2 : One w w.heap.size (wr.drewN q) 45 2 a n c (sentK s k) := ⟨hone.own, hone.base, below_drewN' hone.below q⟩
            clear hone
            go_wp2_with (at_builtin; refine wpList_append_row rfl (.tmp 33) (.tmp 37) 41 rfl Try.ulP Try.infoP rfl (by decide) hone2 rfl #[.int .i64 x, .int .i64 y] rfl rfl (by simp [Value.oneCell']) (by unfold maxLen; omega) (by omega) ?_; intro a3 c3 w3 h3)
            go_roundw
            case rel => exact ⟨k + 1, y, y, by omega, by go_num, rfl, rfl, Lib.hid (.inl ⟨HX2.out, rfl, by omega⟩), _, _, _, rfl, by rw [HX1.out]; exact h3⟩
            case measure => simp [intOf]; omega
        · have he' : endB (at0 s.data.toList k) = false := by simpa using he
          have HE := Lib.hid (Try.endI s k hlt _ he')
          have HX := stN_gap he' hg
          have HX1 := Lib.hid (sentK_same (congrArg SS.out HX))
          have HC2 : Hid ((stN s.data.toList (k + 1)).cur = none ∧ x = y ∧ y ≤ k + 1 ∨ (stN s.data.toList (k + 1)).cur = some (x, y)) := Lib.hid (by
            rw [HX]
            rcases HC.out with ⟨h1, h2, h3⟩ | h1
            · exact .inl ⟨h1, h2, by omega⟩
            · exact .inr h1)
          clear hg he he' HX HC
          go_wp2_with fail
          refine (isGapByte_is _ _ _ HG.out).mono ?_
          rintro e1 w1 ⟨rfl, rfl⟩
          go_wp2_with fail
          refine (endsSentence_is _ _ _ HE.out).mono ?_
          rintro e1 w1 ⟨rfl, q, rfl⟩
          go_wp2
          go_roundw
          case rel => exact ⟨k + 1, x, y, by omega, by go_num, rfl, rfl, HC2, _, _, _, rfl, by rw [HX1.out]; exact ⟨hone.own, hone.base, below_drewN' hone.below q⟩⟩
          case measure => simp [intOf]; omega
      · have hg' : gapB (at0 s.data.toList k) = false := by simpa using hg
        have HG := Lib.hid (Try.gapI s k hlt _ hg')
        rcases HC.out with ⟨hc, rfl, hy⟩ | hc
        · have HX := stN_new hg' hc
          have HX1 := Lib.hid (sentK_same HX.1)
          have HX2 := Lib.hid HX.2
          clear HX hc hg hg' HC
          go_wp2_with fail
          refine (isGapByte_is _ _ _ HG.out).mono ?_
          rintro e1 w1 ⟨rfl, rfl⟩
          go_wp2
          go_roundw
          case rel => exact ⟨k + 1, k, k + 1, by omega, by go_num, rfl, by go_num, Lib.hid (.inr HX2.out), _, _, _, rfl, by rw [HX1.out]; exact hone⟩
          case measure => simp [intOf]; omega
        · have hxy := stN_cur s.data.toList k _ hc
          have HX := stN_on hg' hc
          have HX1 := Lib.hid (sentK_same HX.1)
          have HX2 := Lib.hid HX.2
          obtain ⟨hxy1, hxy2⟩ := hxy
          simp only at hxy1 hxy2
          have t1 : ((x : Int) == (y : Int)) = false := by simp; omega
          clear HX hc hg hg' HC
          go_wp2_with fail
          refine (isGapByte_is _ _ _ HG.out).mono ?_
          rintro e1 w1 ⟨rfl, rfl⟩
          go_wp2
          go_roundw
          case rel => exact ⟨k + 1, x, k + 1, by omega, by go_num, rfl, by go_num, Lib.hid (.inr HX2.out), _, _, _, rfl, by rw [HX1.out]; exact hone⟩
          case measure => simp [intOf]; omega
    · obtain rfl : k = s.size := by omega
      rcases HC.out with ⟨hc, rfl, hy⟩ | hc
      · have HX := Lib.hid (sentB_none hc)
        clear hc HC
        go_wp2
        go_ret
        exact ⟨_, _, _, rfl, by rw [HX.out]; exact hone⟩
      · have hxy := stN_cur s.data.toList s.size _ hc
        have HX := Lib.hid (sentB_some hc)
        obtain ⟨hxy1, hxy2⟩ := hxy
        simp only at hxy1 hxy2
        clear hc HC
        go_wp2_with (at_builtin; refine wpList_append_row rfl (.tmp 43) (.tmp 47) 41 rfl Try.ulP Try.infoP rfl (by decide) hone rfl #[.int .i64 x, .int .i64 y] rfl rfl (by simp [Value.oneCell']) (by unfold maxLen; omega) (by omega) ?_; intro a3 c3 w3 h3)
        go_ret
        exact ⟨_, _, _, rfl, by rw [HX.out]; exact h3⟩


set_option maxHeartbeats 8000000 in
theorem specSentencesOf_any (s : ByteArray) (w : World) (hs : s.size ≤ 1048576) :
    Calls Try.prog 28 #[.string s] w fun e w' => ∃ a n c, e = .returned (.slice a n c) ∧
      One w w.heap.size w' 45 2 a n c (spansC (sentB s)) := by
  go_enter Try.func28, Try.ntmps28
  go_wp2
  go_loopw [3, 4, 5, 6] (fun v f t i wr => ∃ k : Nat, ∃ x y : Int, i = .int .i64 k ∧ f = .int .i64 x ∧ t = .int .i64 y ∧ -1 ≤ y ∧ y ≤ 1048576 ∧ ∃ a n c, v = .slice a n c ∧
        Hid ((k ≤ s.size ∧ ((stN s.data.toList k).cur = none ∧ x = -1 ∨ ∃ p q : Nat, (stN s.data.toList k).cur = some (p, q) ∧ x = p ∧ y = q - 1) ∧ One w w.heap.size wr 45 2 a n c (sentK s k)) ∨
          (k = s.size + 1 ∧ One w w.heap.size wr 45 2 a n c (spansC (sentB s)))))
    (fun _ _ _ i _ => s.size + 1 - (intOf i).toNat)
  case atStart => exact ⟨0, -1, -1, rfl, rfl, rfl, by omega, by omega, _, _, _, rfl, Lib.hid (.inl ⟨Nat.zero_le _, .inl ⟨rfl, rfl⟩, One.empty _ _ _⟩)⟩
  case round =>
    obtain ⟨k, x, y, rfl, rfl, rfl, hy1, hy2, a, n, c, rfl, HR⟩ := hrel
    rcases HR.out with ⟨hk, hcur, hone⟩ | ⟨rfl, hone⟩
    · clear HR
      have hn : n ≤ 1048576 := by
        have h1 := hone.len
        rw [sentK_len] at h1
        have h2 := stN_room s.data.toList k
        omega
      by_cases hlt : k < s.size
      · have hb : (s[k].toNat : Int) ≤ 255 := by have := s[k].toNat_lt; omega
        have hne : ((k : Int) == (s.size : Int)) = false := by simp; omega
        by_cases he : endB (at0 s.data.toList k) = true
        · have HE := Lib.hid (Try.endI s k hlt _ he)
          rcases hcur with ⟨hc, rfl⟩ | ⟨p, q, hc, rfl, rfl⟩
          · have HX := stN_end_none he hc
            have HX1 := Lib.hid (sentK_same HX.1)
            have HX2 := Lib.hid HX.2
            clear HX hc he
            go_wp2_with fail
            refine (l2Ends_is _ _ _ HE.out).mono ?_
            rintro e1 w1 ⟨rfl, q, rfl⟩
            go_wp2
            go_roundw
            case rel => exact ⟨k + 1, -1, y, by go_num, rfl, rfl, hy1, hy2, _, _, _, rfl, Lib.hid (.inl ⟨by omega, .inl ⟨HX2.out, rfl⟩, by rw [HX1.out]; exact ⟨hone.own, hone.base, below_drewN' hone.below q⟩⟩)⟩
            case measure => simp [intOf]; omega
          · have hxy := stN_cur s.data.toList k _ hc
            have HX := stN_end_some he hc
            have HX1 := Lib.hid (sentK_more HX.1)
            have HX2 := Lib.hid HX.2
            obtain ⟨hxy1, hxy2⟩ := hxy
            simp only at hxy1 hxy2
            have e1 : IntKind.i64.wrap ((q : Int) - 1 + 1) = q := by rw [IntWalk.i64_in _ (by omega)]; omega
            clear HX hc he
            go_wp2_with fail
            refine (l2Ends_is _ _ _ HE.out).mono ?_
            rintro e1 w1 ⟨rfl, z, rfl⟩
            have hone2 : One w w.heap.size (wr.drewN z) 45 2 a n c (sentK s k) := ⟨hone.own, hone.base, below_drewN' hone.below z⟩
            clear hone
            go_wp2_with (at_builtin; refine wpList_append_row rfl (.tmp 26) (.tmp 31) 41 rfl Try.ulP Try.infoP rfl (by decide) hone2 rfl #[.int .i64 p, .int .i64 q] rfl rfl (by simp [Value.oneCell']) (by unfold maxLen; omega) (by omega) ?_; intro a3 c3 w3 h3)
            go_roundw
            case rel => exact ⟨k + 1, -1, (q : Int) - 1, by go_num, rfl, rfl, hy1, hy2, _, _, _, rfl, Lib.hid (.inl ⟨by omega, .inl ⟨HX2.out, rfl⟩, by rw [HX1.out]; exact h3⟩)⟩
            case measure => simp [intOf]; omega
        · have he' : endB (at0 s.data.toList k) = false := by simpa using he
          have HE := Lib.hid (Try.endI s k hlt _ he')
          by_cases hg : gapB (at0 s.data.toList k) = true
          · have HG := Lib.hid (Try.gapI s k hlt _ hg)
            have HX := stN_gap he' hg
            have HX1 := Lib.hid (sentK_same (congrArg SS.out HX))
            rw [← HX] at hcur
            have HC := Lib.hid hcur
            clear hg he he' HX hcur
            go_wp2_with fail
            refine (l2Ends_is _ _ _ HE.out).mono ?_
            rintro e1 w1 ⟨rfl, z, rfl⟩
            go_wp2_with fail
            refine (l1Gap_is _ _ _ HG.out).mono ?_
            rintro e1 w1 ⟨rfl, rfl⟩
            go_wp2
            go_roundw
            case rel => exact ⟨k + 1, x, y, by go_num, rfl, rfl, hy1, hy2, _, _, _, rfl, Lib.hid (.inl ⟨by omega, HC.out, by rw [HX1.out]; exact ⟨hone.own, hone.base, below_drewN' hone.below z⟩⟩)⟩
            case measure => simp [intOf]; omega
          · have hg' : gapB (at0 s.data.toList k) = false := by simpa using hg
            have HG := Lib.hid (Try.gapI s k hlt _ hg')
            rcases hcur with ⟨hc, rfl⟩ | ⟨p, q, hc, rfl, rfl⟩
            · have HX := stN_new hg' hc
              have HX1 := Lib.hid (sentK_same HX.1)
              have HX2 := Lib.hid HX.2
              clear HX hc hg hg' he he'
              go_wp2_with fail
              refine (l2Ends_is _ _ _ HE.out).mono ?_
              rintro e1 w1 ⟨rfl, z, rfl⟩
              go_wp2_with fail
              refine (l1Gap_is _ _ _ HG.out).mono ?_
              rintro e1 w1 ⟨rfl, rfl⟩
              go_wp2
              go_roundw
              case rel => exact ⟨k + 1, k, k, by go_num, rfl, rfl, by omega, by omega, _, _, _, rfl, Lib.hid (.inl ⟨by omega, .inr ⟨k, k + 1, HX2.out, rfl, by omega⟩, by rw [HX1.out]; exact ⟨hone.own, hone.base, below_drewN' hone.below z⟩⟩)⟩
              case measure => simp [intOf]; omega
            · have HX := stN_on hg' hc
              have HX1 := Lib.hid (sentK_same HX.1)
              have HX2 := Lib.hid HX.2
              clear HX hc hg hg' he he'
              go_wp2_with fail
              refine (l2Ends_is _ _ _ HE.out).mono ?_
              rintro e1 w1 ⟨rfl, z, rfl⟩
              go_wp2_with fail
              refine (l1Gap_is _ _ _ HG.out).mono ?_
              rintro e1 w1 ⟨rfl, rfl⟩
              go_wp2
              go_roundw
              case rel => exact ⟨k + 1, p, k, by go_num, rfl, rfl, by omega, by omega, _, _, _, rfl, Lib.hid (.inl ⟨by omega, .inr ⟨p, k + 1, HX2.out, rfl, by omega⟩, by rw [HX1.out]; exact ⟨hone.own, hone.base, below_drewN' hone.below z⟩⟩)⟩
              case measure => simp [intOf]; omega
      · obtain rfl : k = s.size := by omega
        rcases hcur with ⟨hc, rfl⟩ | ⟨p, q, hc, rfl, rfl⟩
        · have HX := Lib.hid (sentB_none hc)
          clear hc
          go_wp2
          go_roundw
          case rel => exact ⟨s.size + 1, -1, y, by go_num, rfl, rfl, hy1, hy2, _, _, _, rfl, Lib.hid (.inr ⟨rfl, by rw [HX.out]; exact hone⟩)⟩
          case measure => simp [intOf] <;> omega
        · have hxy := stN_cur s.data.toList s.size _ hc
          have HX := Lib.hid (sentB_some hc)
          obtain ⟨hxy1, hxy2⟩ := hxy
          simp only at hxy1 hxy2
          have e1 : IntKind.i64.wrap ((q : Int) - 1 + 1) = q := by rw [IntWalk.i64_in _ (by omega)]; omega
          clear hc
          go_wp2_with (at_builtin; refine wpList_append_row rfl (.tmp 26) (.tmp 31) 41 rfl Try.ulP Try.infoP rfl (by decide) hone rfl #[.int .i64 p, .int .i64 q] rfl rfl (by simp [Value.oneCell']) (by unfold maxLen; omega) (by omega) ?_; intro a3 c3 w3 h3)
          go_roundw
          case rel => exact ⟨s.size + 1, -1, (q : Int) - 1, by go_num, rfl, rfl, hy1, hy2, _, _, _, rfl, Lib.hid (.inr ⟨rfl, by rw [HX.out]; exact h3⟩)⟩
          case measure => simp [intOf] <;> omega
    · clear HR
      go_wp2
      go_ret
      exact ⟨_, _, _, rfl, hone⟩

end Go.Proofs.Ytdcdminjoehiiaa
