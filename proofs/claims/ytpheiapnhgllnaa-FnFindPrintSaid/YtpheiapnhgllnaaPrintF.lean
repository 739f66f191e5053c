/-
  The contracts of FindPrint, the program's and the model's: they return the places of a piece. Condition: both texts have at most 2^20 bytes.
-/
import Derived.Test.YtpheiapnhgllnaaPrintK
namespace Go.Proofs.Ytpheiapnhgllnaa
open Go.RowKit

theorem Try.ulsP : Try.prog.underlying 9 = some .string := by kernel_rfl

set_option maxHeartbeats 2000000 in
theorem specFindPrint_any (s p : ByteArray) (w : World) (hs : s.size ≤ 1048576) (hp : p.size ≤ 1048576) :
    Calls Try.prog 28 #[.string s, .string p] w fun e w' => ∃ a n c, e = .returned (.slice a n c) ∧ One w w.heap.size w' 3 1 a n c (intCells (findL s.data.toList p.data.toList)) := by
  obtain ⟨L, hL⟩ : ∃ L, printsL s.data.toList (p.size : Int) = L := ⟨_, rfl⟩
  obtain ⟨f, hf⟩ : ∃ f, prN p.data.toList = f := ⟨_, rfl⟩
  have HK := Lib.hid (find_known s p L f hL hf)
  have c1 := fun w => specPrintsOf_is s (p.size : Int) L w hs hL
  have c2 := fun w => specPrintOf_is p f w (by omega) hf
  clear hL hf
  go_enter Try.func28, Try.ntmps28
  go_wp2_with fail
  refine (c1 _).mono ?_
  rintro e w2 ⟨la, m, lc, rfl, h2⟩
  go_wp2_with fail
  refine (c2 _).mono ?_
  rintro e w3 ⟨rfl, rfl⟩
  have hone0 : One w w.heap.size w2 3 1 (some ⟨w.heap.size, 0, none⟩) 0 0 (intCells (findTo s.data.toList p.data.toList 0)) := (One.empty w 3 1).later h2.below
  have hbes : Beside w2 la (intCells L) (.slice (some ⟨w.heap.size, 0, none⟩) 0 0) := ⟨cellsAt_own h2.own, fun _ b o ha e => by
    subst ha
    have h := (h2.own.lt b (by simp [Value.ownBlock])).1
    simp [Value.ownBlock] at e h
    omega⟩
  have hl : m = L.length := by have h := h2.own.1; simp only [intCells, List.length_map] at h; omega
  have HL := Lib.hid hl
  have hm : m ≤ 1048576 := by have := HK.out.len; omega
  clear hl c1 c2
  go_wp2
  go_loopw [5, 8] (fun v q_ wr => ∃ i : Nat, i ≤ m ∧ q_ = .int .i64 i ∧ ∃ a n c, v = .slice a n c ∧ One w w.heap.size wr 3 1 a n c (intCells (findTo s.data.toList p.data.toList i)) ∧ Beside wr la (intCells L) (.slice a n c))
    (fun v q_ _ => m - (intOf q_).toNat)
  case atStart => exact ⟨0, Nat.zero_le _, rfl, _, _, _, rfl, hone0, hbes⟩
  case round =>
    obtain ⟨i, hi, rfl, a, n, c, rfl, hone, hinv⟩ := hrel
    by_cases hlt : i < m
    · have hil : i < L.length := by have := HL.out; omega
      have hfit := HK.out.fits i hil
      have hn : n ≤ i := by
        have h := hone.own.1
        have h2 := findTo_len s.data.toList p.data.toList i
        simp only [intCells, List.length_map] at h
        omega
      obtain ⟨b, o, rfl, hb0, hc⟩ := hinv.at_.spot (fun e => by have := congrArg List.length e; simp [intCells] at this; rw [this] at hil; simp at hil)
      obtain ⟨x, hx⟩ : ∃ x, L.getD i 0 = x := ⟨_, rfl⟩
      have hcell := cells_int i x hx hil hc
      have hxf : pieceL s.data.toList p.data.toList.length i = p.data.toList → x = f := fun e => by
        rw [← hx, HK.out.print i hil, HK.out.one, show p.size = p.data.toList.length from rfl, e]
      have sl1 : ∀ w, (Instr.slice 9 (.string s) (some (.int .i64 i)) (some (.int .i64 ((i : Int) + (p.size : Int)))) none).run Try.prog w = .ok (.string (s.extract i (i + p.size))) w := fun w => by
        have := run_slice_string (P := Try.prog) w 9 s .i64 .i64 i ((i : Int) + (p.size : Int)) Try.ulsP (by omega) (by omega) (by omega)
        rwa [Int.toNat_natCast, show ((i : Int) + (p.size : Int)).toNat = i + p.size by omega] at this
      have HX := Lib.hid hxf
      clear hx hc hxf
      by_cases hpc : pieceL s.data.toList p.data.toList.length i = p.data.toList
      · have hxx := HX.out hpc
        have hss := (piece_iff s p i).2 hpc
        have HN := Lib.hid (findTo_yes hpc)
        rw [hss] at sl1
        have t1 : (x == (f : Int)) = true := by rw [hxx]; exact beq_self_eq_true _
        have t2 : (p.toList == p.toList) = true := beq_self_eq_true _
        clear hpc hss hxx
        go_wp2_with (at_builtin; refine wpList_append_apart rfl (.tmp 39) (.tmp 41) 32 rfl Try.ulI3 Try.infoI3 rfl (by decide) hone rfl #[.int .i64 i] rfl rfl (by simp [Value.oneCell']) (by unfold maxLen; omega) (by omega) ?_; intro a5 c5 w5 h5 g5 p5)
        go_roundw
        case rel => exact ⟨i + 1, by omega, by go_num, a5, n + 1, c5, rfl, by rw [HN.out]; exact h5, hinv.grow g5 p5⟩
        case measure => simp [intOf]; omega
      · have hss : s.extract i (i + p.size) ≠ p := fun e => hpc ((piece_iff s p i).1 e)
        have HN := Lib.hid (findTo_no hpc)
        have t2 := eqP_no hss
        obtain ⟨y, hy⟩ : ∃ y, s.extract i (i + p.size) = y := ⟨_, rfl⟩
        rw [hy] at sl1 t2
        clear hpc hss hy
        by_cases hxe : x = (f : Int)
        · have t1 : (x == (f : Int)) = true := by rw [hxe]; exact beq_self_eq_true _
          clear hxe
          go_wp2
          go_roundw
          case rel => exact ⟨i + 1, by omega, by go_num, a, n, c, rfl, by rw [HN.out]; exact hone, hinv⟩
          case measure => simp [intOf]; omega
        · have t1 : (x == (f : Int)) = false := by simpa using hxe
          clear hxe
          go_wp2
          go_roundw
          case rel => exact ⟨i + 1, by omega, by go_num, a, n, c, rfl, by rw [HN.out]; exact hone, hinv⟩
          case measure => simp [intOf]; omega
    · have hie : i = L.length := by have := HL.out; omega
      have hout : One w w.heap.size wr 3 1 a n c (intCells (findL s.data.toList p.data.toList)) := by
        have h := hone
        rw [hie, HK.out.all] at h
        exact h
      have HO := Lib.hid hout
      clear hout hone hinv hie
      go_wp2
      go_ret
      exact ⟨_, _, _, rfl, HO.out⟩

set_option maxHeartbeats 2000000 in
theorem implFindPrint_any (s p : ByteArray) (w : World) (hs : s.size ≤ 1048576) (hp : p.size ≤ 1048576) :
    Calls Try.prog 27 #[.string s, .string p] w fun e w' => ∃ a n c, e = .returned (.slice a n c) ∧ One w w.heap.size w' 3 1 a n c (intCells (findL s.data.toList p.data.toList)) := by
  obtain ⟨L, hL⟩ : ∃ L, printsL s.data.toList (p.size : Int) = L := ⟨_, rfl⟩
  obtain ⟨f, hf⟩ : ∃ f, prN p.data.toList = f := ⟨_, rfl⟩
  have HK := Lib.hid (find_known s p L f hL hf)
  have c1 := fun w => implPrintsOf_is s (p.size : Int) L w hs hL
  have c2 := fun w => implPrintOf_is p f w (by omega) hf
  clear hL hf
  go_enter Try.func27, Try.ntmps27
  go_wp2_with fail
  refine (c2 _).mono ?_
  rintro e w1 ⟨rfl, rfl⟩
  go_wp2_with fail
  refine (c1 _).mono ?_
  rintro e w2 ⟨la, m, lc, rfl, h2⟩
  have hone0 : One w2 w2.heap.size w2 3 1 none 0 0 (intCells (findTo s.data.toList p.data.toList 0)) := One.nil _ _ _
  have hl : m = L.length := by have h := h2.own.1; simp only [intCells, List.length_map] at h; omega
  have HL := Lib.hid hl
  have hm : m ≤ 1048576 := by have := HK.out.len; omega
  clear hl c1 c2
  go_wp2
  go_loopw [7, 17] (fun v q_ wr => ∃ i : Nat, i ≤ m ∧ q_ = .int .i64 i ∧ ∃ a n c, v = .slice a n c ∧ One w2 w2.heap.size wr 3 1 a n c (intCells (findTo s.data.toList p.data.toList i)) )
    (fun v q_ _ => m - (intOf q_).toNat)
  case atStart => exact ⟨0, Nat.zero_le _, rfl, _, _, _, rfl, hone0⟩
  case round =>
    obtain ⟨i, hi, rfl, a, n, c, rfl, hone⟩ := hrel
    by_cases hlt : i < m
    · have hil : i < L.length := by have := HL.out; omega
      have hfit := HK.out.fits i hil
      have hn : n ≤ i := by
        have h := hone.own.1
        have h2 := findTo_len s.data.toList p.data.toList i
        simp only [intCells, List.length_map] at h
        omega
      obtain ⟨b, o, rfl, hb0, hc⟩ := ((cellsAt_own h2.own).below hone.below).spot (fun e => by have := congrArg List.length e; simp [intCells] at this; rw [this] at hil; simp at hil)
      obtain ⟨x, hx⟩ : ∃ x, L.getD i 0 = x := ⟨_, rfl⟩
      have hcell := cells_int i x hx hil hc
      have hxf : pieceL s.data.toList p.data.toList.length i = p.data.toList → x = f := fun e => by
        rw [← hx, HK.out.print i hil, HK.out.one, show p.size = p.data.toList.length from rfl, e]
      have sl1 : ∀ w, (Instr.slice 9 (.string s) (some (.int .i64 i)) (some (.int .i64 ((i : Int) + (p.size : Int)))) none).run Try.prog w = .ok (.string (s.extract i (i + p.size))) w := fun w => by
        have := run_slice_string (P := Try.prog) w 9 s .i64 .i64 i ((i : Int) + (p.size : Int)) Try.ulsP (by omega) (by omega) (by omega)
        rwa [Int.toNat_natCast, show ((i : Int) + (p.size : Int)).toNat = i + p.size by omega] at this
      have HX := Lib.hid hxf
      clear hx hc hxf
      by_cases hpc : pieceL s.data.toList p.data.toList.length i = p.data.toList
      · have hxx := HX.out hpc
        have hss := (piece_iff s p i).2 hpc
        have HN := Lib.hid (findTo_yes hpc)
        rw [hss] at sl1
        have t1 : (x == (f : Int)) = true := by rw [hxx]; exact beq_self_eq_true _
        have t2 : (p.toList == p.toList) = true := beq_self_eq_true _
        clear hpc hss hxx
        go_wp2_with (at_builtin; refine wpList_append_apart rfl (.tmp 37) (.tmp 39) 32 rfl Try.ulI3 Try.infoI3 rfl (by decide) hone rfl #[.int .i64 i] rfl rfl (by simp [Value.oneCell']) (by unfold maxLen; omega) (by omega) ?_; intro a5 c5 w5 h5 g5 p5)
        go_roundw
        case rel => exact ⟨i + 1, by omega, by go_num, a5, n + 1, c5, rfl, by rw [HN.out]; exact h5⟩
        case measure => simp [intOf]; omega
      · have hss : s.extract i (i + p.size) ≠ p := fun e => hpc ((piece_iff s p i).1 e)
        have HN := Lib.hid (findTo_no hpc)
        have t2 := eqP_no hss
        obtain ⟨y, hy⟩ : ∃ y, s.extract i (i + p.size) = y := ⟨_, rfl⟩
        rw [hy] at sl1 t2
        clear hpc hss hy
        by_cases hxe : x = (f : Int)
        · have t1 : (x == (f : Int)) = true := by rw [hxe]; exact beq_self_eq_true _
          clear hxe
          go_wp2
          go_roundw
          case rel => exact ⟨i + 1, by omega, by go_num, a, n, c, rfl, by rw [HN.out]; exact hone⟩
          case measure => simp [intOf]; omega
        · have t1 : (x == (f : Int)) = false := by simpa using hxe
          clear hxe
          go_wp2
          go_roundw
          case rel => exact ⟨i + 1, by omega, by go_num, a, n, c, rfl, by rw [HN.out]; exact hone⟩
          case measure => simp [intOf]; omega
    · have hie : i = L.length := by have := HL.out; omega
      have hout : One w w.heap.size wr 3 1 a n c (intCells (findL s.data.toList p.data.toList)) := by
        have h := hone
        rw [hie, HK.out.all] at h
        exact h.under h2.below h2.base
      have HO := Lib.hid hout
      clear hout hone hie
      go_wp2
      go_ret
      exact ⟨_, _, _, rfl, HO.out⟩

end Go.Proofs.Ytpheiapnhgllnaa
