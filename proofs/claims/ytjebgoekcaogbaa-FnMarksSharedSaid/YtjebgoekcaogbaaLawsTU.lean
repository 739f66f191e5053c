/-
  The walks of chapter 4's laws MarksOf and MarksPiece: each returns true, and nothing that was there is written. No conditions.
-/
import Derived.Test.YtjebgoekcaogbaaLawsTS
namespace Go.Proofs.Ytjebgoekcaogbaa
open Go.RowKit

theorem Try.ulsU : Try.prog.underlying 9 = some .string := by kernel_rfl

/-- A row of pairs that is only read. -/
structure RdM (w wr : World) (a : Option Addr) (M : List (Int × Int)) : Prop where
  below : Below w.heap.size w wr
  at_ : CellsAt wr a (pairsC M)
theorem RdM.drewN {w wr : World} {a : Option Addr} {M : List (Int × Int)} (h : RdM w wr a M) (q : Nat) : RdM w (wr.drewN q) a M := ⟨below_drewN' h.below q, h.at_.drewN q⟩
theorem RdM.later {w wr w2 : World} {a : Option Addr} {M : List (Int × Int)} (h : RdM w wr a M) (hb : Below wr.heap.size wr w2) : RdM w w2 a M := ⟨h.below.trans (hb.mono h.below.size), h.at_.below hb⟩
theorem pair_cells {w : World} {a : Option Addr} {M : List (Int × Int)} (h : CellsAt w a (pairsC M)) {i : Nat} {p x : Int} (hi : i < M.length) (hm : M[i] = (p, x)) : ∃ b o, a = some ⟨b, o, none⟩ ∧ w.cell? ⟨b, o + i * 2, none⟩ = some (.int .i64 p) ∧ w.cell? ⟨b, o + i * 2 + 1, none⟩ = some (.int .i64 x) := by
  obtain ⟨b, o, ha, _, hc⟩ := h.pair (fun e => by rw [e] at hi; simp at hi)
  have h1 := hc i hi
  rw [hm] at h1
  exact ⟨b, o, ha, h1.1, h1.2⟩

/-- What is known of a mark of a text. -/
theorem marks_known (s : List UInt8) (K V : Int) (M : List (Int × Int)) (hM : marksL s K V = M) (i : Nat) (hi : i < M.length) :
    ∃ k x : Nat, K = k ∧ 1 ≤ k ∧ M[i] = (((prN (pieceL s k x) : Nat) : Int), (x : Int)) ∧ x + k ≤ s.length ∧ x ∈ marksAt s K V := by
  subst hM
  have hl : i < (marksAt s K V).length := by rw [marksL, List.length_map] at hi; exact hi
  have hmem := List.getElem_mem hl
  have hK : 1 ≤ K := by
    by_cases h : K < 1
    · exfalso
      have h1 := chosenN_len (printsL s K) V
      rw [printsL_bad (.inl h)] at h1
      unfold marksAt at hl
      rw [printsL_bad (.inl h)] at hl
      simp at h1
      rw [h1] at hl
      simp at hl
    · omega
  obtain ⟨k, rfl⟩ : ∃ k : Nat, K = k := ⟨K.toNat, by omega⟩
  have h2 := marksAt_lt s k V (by omega) _ hmem
  refine ⟨k, (marksAt s k V)[i], rfl, by omega, ?_, h2, hmem⟩
  simp only [marksL, List.getElem_map]
  rw [printsN_get _ _ _ (by omega) h2]

theorem marks_some (s : List UInt8) (k v : Nat) (hk : 1 ≤ k) (hv : 1 ≤ v) : 0 < (marksL s k v).length ↔ k + v - 1 ≤ s.length := by
  rw [marksL, List.length_map]
  unfold marksAt
  have hp := printsN_len s k (by omega)
  constructor
  · intro h
    by_cases hc : k + v - 1 ≤ s.length
    · exact hc
    · rw [chosenN_few (.inr (by rw [hp]; omega))] at h
      simp at h
  · intro h
    have h1 : leastTo (printsL s k) 0 v ∈ chosenN (printsL s k) v := by
      rw [chosenN_ok (by omega)]
      exact (chN_mem _ _ _ _).2 ⟨0, by rw [hp]; omega, rfl⟩
    exact List.length_pos_of_mem h1

set_option maxHeartbeats 8000000 in
theorem walkFnMarksOf (a : Option Addr) (len cap : Nat) (zs : List Int) (w : World) (h : IsRowK .u8 w a len cap zs) :
    Calls Try.prog 4 #[.slice a len cap] w fun e w' => e = .returned (.bool true) ∧ Below w.heap.size w w' := by
  by_cases hs : 1048576 < len
  · have h2 : (1048576 : Int) < (len : Int) := by omega
    go_enter Try.func4, Try.ntmps4
    go_wp2
    go_ret
    exact ⟨rfl, Below.refl _ _⟩
  go_enter Try.func4, Try.ntmps4
  go_wp2_with fail
  refine (DrawMarksOf_any _ _ _ _ _ h).mono ?_
  rintro e w1 ⟨t, K, V, ht, hk0, hk9, hv0, hv9, rfl, hb⟩
  clear h
  obtain ⟨M, hM⟩ : ∃ M, marksL t.data.toList K V = M := ⟨_, rfl⟩
  have hlen : M.length ≤ 30 := by
    have h := marksL_roomT t.data.toList K V
    rw [hM] at h
    have e1 : t.data.toList.length = t.size := rfl
    omega
  have c1 := fun w => implMarks_any t K V M w hM (by omega) (by omega)
  have c2 := fun w => specMarks_any t K V M w hM (by omega) (by omega)
  have HM := Lib.hid hM
  clear hM
  go_wp2_with fail
  refine (c1 _).mono ?_
  rintro e w2 ⟨a1, n1, d1, rfl, o1⟩
  have HN1 := Lib.hid (pairs_len o1.own)
  have hn9 : n1 ≤ 30 := by have := HN1.out; omega
  have hb2 := hb.trans (o1.below.mono hb.size)
  clear hb
  go_wp2_with fail
  refine (c2 _).mono ?_
  rintro e w3 ⟨a2, n2, d2, rfl, o2⟩
  have HN2 := Lib.hid (pairs_len o2.own)
  have o12 := o1.later o2.below
  have hb3 := hb2.trans (o2.below.mono hb2.size)
  clear hb2 o1 hlen
  go_wp2_with fail
  refine (sameMarks_b _ _ _ _ _ _ M _ HN1.out HN2.out (by omega) o12.at_ o2.at_).mono ?_
  rintro e w4 ⟨rfl, q4, rfl⟩
  have R : RdM w (w3.drewN q4) a1 M := ⟨below_drewN' hb3 _, o12.at_.drewN _⟩
  obtain ⟨w4, HW⟩ : ∃ w4, Hid (w3.drewN q4 = w4) := ⟨_, Lib.hid rfl⟩
  rw [HW.out] at R ⊢
  clear hb3 o12 o2 HN2 HW c1 c2
  go_wp2
  go_loopw [7] (fun i_ wr => ∃ i : Nat, i ≤ n1 ∧ i_ = .int .i64 i ∧ RdM w wr a1 M) (fun i_ _ => n1 - (intOf i_).toNat)
  case atStart => exact ⟨0, Nat.zero_le _, rfl, R⟩
  case round =>
    clear R
    obtain ⟨i, hi, rfl, R⟩ := hrel
    by_cases hli : i < n1
    · have hiM : i < M.length := by have := HN1.out; omega
      obtain ⟨k, x, rfl, hk1, hm, hxk, _⟩ := marks_known _ _ _ _ HM.out i hiM
      have hxk : x + k ≤ t.size := hxk
      obtain ⟨p, hp⟩ : ∃ p, t.extract x (x + k) = p := ⟨_, rfl⟩
      obtain ⟨y, hy⟩ : ∃ y, prN (pieceL t.data.toList k x) = y := ⟨_, rfl⟩
      have hpy : prN p.data.toList = y := by rw [← hp, extract_piece]; exact hy
      rw [hy] at hm
      obtain ⟨gb, go, rfl, g1, g2⟩ := pair_cells R.at_ hiM hm
      have hsz : p.size ≤ 4194305 := by rw [← hp]; simp only [ByteArray.size_extract]; omega
      have c3 := fun w => implPrintOf_is p y w hsz hpy
      have sl1 : ∀ w, (Instr.slice 9 (.string t) (some (.int .i64 x)) (some (.int .i64 ((x : Int) + (k : Int)))) none).run Try.prog w = .ok (.string p) w := fun w => by
        have := run_slice_string (P := Try.prog) w 9 t .i64 .i64 x ((x : Int) + (k : Int)) Try.ulsU (by omega) (by omega) (by omega)
        rwa [Int.toNat_natCast, show ((x : Int) + (k : Int)).toNat = x + k by omega, hp] at this
      have y1 : (i : Int) < (n1 : Int) := by omega
      have t1 : decide ((x : Int) < 0) = false := decide_eq_false (by omega)
      have t2 : decide ((t.size : Int) < (x : Int) + (k : Int)) = false := decide_eq_false (by omega)
      have e1 : IntKind.i64.wrap ((x : Int) + (k : Int)) = (x : Int) + (k : Int) := IntWalk.i64_in _ (by omega)
      clear hp hy hpy hm hsz
      go_wp2
      go_quiet ((go_at_call 23; exact Calls.quiet_of_same ((c3 _).mono (fun _ _ h => ⟨h.1, h.2.symm⟩))))
      go_wp2
      go_roundw
      case rel => exact ⟨i + 1, by omega, by go_num, R.drewN _⟩
      case measure => simp [intOf]; omega
    · by_cases hbad : K < 1 ∨ V < 1
      · have c4 := fun w => implSure_no K V w (by omega)
        clear hbad
        go_wp2_with fail
        refine (c4 _).mono ?_
        rintro e w5 ⟨rfl, rfl⟩
        go_wp2_with fail
        refine (alive_any _).mono ?_
        rintro e w5 ⟨rfl, rfl⟩
        go_wp2
        go_ret
        exact ⟨rfl, R.below⟩
      obtain ⟨k, rfl⟩ : ∃ k : Nat, K = k := ⟨K.toNat, by omega⟩
      obtain ⟨v, rfl⟩ : ∃ v : Nat, V = v := ⟨V.toNat, by omega⟩
      have hm := marks_some t.data.toList k v (by omega) (by omega)
      rw [HM.out, ← HN1.out] at hm
      have hm : 0 < n1 ↔ k + v - 1 ≤ t.size := hm
      have c4 := fun w => implSure_yes k v w (by omega) (by omega) (by omega) (by omega)
      have t0 : ((k : Int) + (v : Int) - 1 == 0) = false := by simp; omega
      by_cases hpos : 0 < n1
      · have t1 : (0 : Int) < (n1 : Int) := by omega
        have t2 : (k : Int) + (v : Int) - 1 ≤ (t.size : Int) := by have := hm.1 hpos; omega
        clear hm hbad
        go_wp2_with fail
        refine (c4 _).mono ?_
        rintro e w5 ⟨rfl, rfl⟩
        go_wp2_with fail
        refine (c4 _).mono ?_
        rintro e w5 ⟨rfl, rfl⟩
        go_wp2_with fail
        refine (alive_any _).mono ?_
        rintro e w5 ⟨rfl, rfl⟩
        go_wp2
        go_ret
        exact ⟨rfl, R.below⟩
      · have t1 : (n1 : Int) ≤ 0 := by omega
        have t2 : (t.size : Int) < (k : Int) + (v : Int) - 1 := by
          by_cases h : k + v - 1 ≤ t.size
          · exact absurd (hm.2 h) hpos
          · omega
        have t3 : decide ((k : Int) + (v : Int) - 1 ≤ (t.size : Int)) = false := decide_eq_false (by omega)
        have t4 : decide (k + v ≤ t.size + 1) = false := decide_eq_false (by omega)
        clear hm hbad
        go_wp2_with fail
        refine (c4 _).mono ?_
        rintro e w5 ⟨rfl, rfl⟩
        go_wp2_with fail
        refine (c4 _).mono ?_
        rintro e w5 ⟨rfl, rfl⟩
        go_wp2_with fail
        refine (alive_any _).mono ?_
        rintro e w5 ⟨rfl, rfl⟩
        go_wp2
        go_ret
        exact ⟨by first | rfl | (show Ending.returned (.bool (!decide (k + v ≤ t.size + 1))) = _; rw [t4]; rfl), R.below⟩

/-- A mark of a piece is one of the text, further on. -/
theorem piece_mark (t : ByteArray) (K V : Int) (M P : List (Int × Int)) (f g : Nat) (hfg : f ≤ g) (hg : g ≤ t.size) (hM : marksL t.data.toList K V = M) (hP : marksL (t.extract f g).data.toList K V = P) (i : Nat) (hi : i < P.length) :
    ∃ j, ∃ h : j < M.length, M[j] = (P[i].1, P[i].2 + f) ∧ 0 ≤ P[i].2 ∧ P[i].2 ≤ t.size := by
  have hpc : (t.extract f g).data.toList = pieceL t.data.toList (g - f) f := by
    have h := extract_piece t f (g - f)
    rwa [show f + (g - f) = g by omega] at h
  rw [hpc] at hP
  have hl : t.data.toList.length = t.size := rfl
  obtain ⟨k, x, rfl, hk, hm, hx, hmem⟩ := marks_known _ _ _ _ hP i hi
  have hV : 1 ≤ V := by
    by_cases h : V < 1
    · unfold marksAt at hmem
      rw [chosenN_few (.inl h)] at hmem
      simp at hmem
    · omega
  obtain ⟨v, rfl⟩ : ∃ v : Nat, V = v := ⟨V.toNat, by omega⟩
  obtain ⟨h1, h2⟩ := marksAt_piece t.data.toList k v f (g - f) (by omega) (by omega) (by omega) x hmem
  obtain ⟨j, hj, he⟩ := List.getElem_of_mem h1
  have hjM : j < M.length := by rw [← hM, marksL, List.length_map]; exact hj
  have hpp : pieceL (pieceL t.data.toList (g - f) f) k x = pieceL t.data.toList k (f + x) := by
    unfold pieceL
    rw [List.drop_take, List.take_take, List.drop_drop, Nat.min_eq_left (by omega)]
  rw [hm]
  refine ⟨j, hjM, ?_, by omega, ?_⟩
  · have h3 : M[j] = ((printsL t.data.toList k).getD (marksAt t.data.toList k v)[j] 0, (((marksAt t.data.toList k v)[j] : Nat) : Int)) := by subst hM; simp [marksL]
    rw [h3, he, printsN_get _ _ _ (by omega) (by omega), ← hpp]
    simp; omega
  · show (x : Int) ≤ _
    have : (pieceL t.data.toList (g - f) f).length ≤ t.data.toList.length := by simp [pieceL]; omega
    omega

set_option maxRecDepth 4000 in
set_option maxHeartbeats 8000000 in
theorem walkFnMarksPiece (a : Option Addr) (len cap : Nat) (zs : List Int) (w : World) (h : IsRowK .u8 w a len cap zs) :
    Calls Try.prog 6 #[.slice a len cap] w fun e w' => e = .returned (.bool true) ∧ Below w.heap.size w w' := by
  by_cases hs : 1048576 < len
  · have h2 : (1048576 : Int) < (len : Int) := by omega
    go_enter Try.func6, Try.ntmps6
    go_wp2
    go_ret
    exact ⟨rfl, Below.refl _ _⟩
  go_enter Try.func6, Try.ntmps6
  go_wp2_with fail
  refine (DrawMarksOf_any _ _ _ _ _ h).mono ?_
  rintro e w1 ⟨t, K, V, ht, hk0, hk9, hv0, hv9, rfl, hb⟩
  clear h
  obtain ⟨M, hM⟩ : ∃ M, marksL t.data.toList K V = M := ⟨_, rfl⟩
  have hlen : M.length ≤ 30 := by
    have h := marksL_roomT t.data.toList K V
    rw [hM] at h
    have e1 : t.data.toList.length = t.size := rfl
    omega
  have c1 := fun w => implMarks_any t K V M w hM (by omega) (by omega)
  have c2 := fun w => specMarks_any t K V M w hM (by omega) (by omega)
  have HM := Lib.hid hM
  clear hM
  go_wp2_with fail
  refine (c1 _).mono ?_
  rintro e w2 ⟨a1, n1, d1, rfl, o1⟩
  have HN1 := Lib.hid (pairs_len o1.own)
  have hn9 : n1 ≤ 30 := by have := HN1.out; omega
  have R : RdM w w2 a1 M := ⟨hb.trans (o1.below.mono hb.size), o1.at_⟩
  have HLM := Lib.hid hlen
  clear hb o1 c1 hlen
  go_wp2
  go_loopw [7] (fun f_ wr => ∃ f : Nat, f ≤ t.size + 3 ∧ f_ = .int .i64 f ∧ RdM w wr a1 M) (fun f_ _ => t.size + 1 - (intOf f_).toNat)
  case atStart => exact ⟨0, Nat.zero_le _, rfl, R⟩
  case round =>
    clear R
    obtain ⟨f, hf, rfl, R⟩ := hrel
    by_cases hlf : f ≤ t.size
    · go_wp2
      go_loopw [8] (fun g_ wr => ∃ g : Nat, f ≤ g ∧ g ≤ t.size + 4 ∧ g_ = .int .i64 g ∧ RdM w wr a1 M) (fun g_ _ => t.size + 1 - (intOf g_).toNat)
      case atStart => exact ⟨f, Nat.le_refl _, by omega, rfl, R⟩
      case round =>
        clear R
        obtain ⟨g, hfg, hg, rfl, R⟩ := hrel
        by_cases hlg : g ≤ t.size
        · obtain ⟨pc, hpc⟩ : ∃ pc, t.extract f g = pc := ⟨_, rfl⟩
          have hpsz : pc.size ≤ 30 := by rw [← hpc]; simp only [ByteArray.size_extract]; omega
          obtain ⟨P, hP⟩ : ∃ P, marksL pc.data.toList K V = P := ⟨_, rfl⟩
          have hPl : P.length ≤ 30 := by
            have h := marksL_roomT pc.data.toList K V
            rw [hP] at h
            have e1 : pc.data.toList.length = pc.size := rfl
            omega
          have c3 := fun w => implMarks_any pc K V P w hP (by omega) (by omega)
          have HPM := Lib.hid (fun i hi => piece_mark t K V M P f g hfg hlg HM.out (by rw [hpc]; exact hP) i hi)
          have HPl := Lib.hid hPl
          have sl1 : ∀ w, (Instr.slice 9 (.string t) (some (.int .i64 f)) (some (.int .i64 g)) none).run Try.prog w = .ok (.string pc) w := fun w => by
            have := run_slice_string (P := Try.prog) w 9 t .i64 .i64 f (g : Int) Try.ulsU (by omega) (by omega) (by omega)
            rwa [Int.toNat_natCast, Int.toNat_natCast, hpc] at this
          clear hpc hP hPl hpsz
          go_wp2_with fail
          refine (c3 _).mono ?_
          rintro e w5 ⟨a5, n5, d5, rfl, o5⟩
          have HN5 := Lib.hid (pairs_len o5.own)
          have hn59 : n5 ≤ 30 := by have := HN5.out; have := HPl.out; omega
          have R5 := R.later o5.below
          have P5 := o5.at_
          clear R o5 c3 sl1
          go_wp2
          go_loopw [10] (fun i_ wr => ∃ i : Nat, i ≤ n5 ∧ i_ = .int .i64 i ∧ RdM w wr a1 M ∧ CellsAt wr a5 (pairsC P)) (fun i_ _ => n5 - (intOf i_).toNat)
          case atStart => exact ⟨0, Nat.zero_le _, rfl, R5, P5⟩
          case round =>
            clear R5 P5
            obtain ⟨i, hi, rfl, R, R5⟩ := hrel
            by_cases hli : i < n5
            · have hiP : i < P.length := by have := HN5.out; omega
              obtain ⟨j0, hj0, hmj, hx0, hx9⟩ := HPM.out i hiP
              obtain ⟨p, hp⟩ : ∃ p, P[i].1 = p := ⟨_, rfl⟩
              obtain ⟨x, hx⟩ : ∃ x, P[i].2 = x := ⟨_, rfl⟩
              rw [hp, hx] at hmj
              rw [hx] at hx0 hx9
              have HPI := Lib.hid (show P[i] = (p, x) by rw [← hp, ← hx])
              have HMJ := Lib.hid hmj
              have HJ0 := Lib.hid hj0
              have e1 : IntKind.i64.wrap (x + (f : Int)) = x + (f : Int) := IntWalk.i64_in _ (by omega)
              have y1 : (i : Int) < (n5 : Int) := by omega
              have y2 : (0 : Int) ≤ (i : Int) := by omega
              have hj0n : j0 < n1 := by have := HN1.out; omega
              clear hp hx hmj
              go_wp2
              go_loopw [11, 12] (fun b_ j_ wr => ∃ (j : Nat) (b : Bool), j ≤ n1 ∧ j_ = .int .i64 j ∧ b_ = .bool b ∧ Hid (j0 < j → b = true) ∧ RdM w wr a1 M ∧ CellsAt wr a5 (pairsC P)) (fun _ j_ _ => n1 - (intOf j_).toNat)
              case atStart => exact ⟨0, false, Nat.zero_le _, rfl, rfl, Lib.hid (fun h => absurd h (Nat.not_lt_zero _)), R, R5⟩
              case round =>
                clear R R5
                obtain ⟨j, b, hj, rfl, rfl, HB, R, R5⟩ := hrel
                by_cases hlj : j < n1
                · have hjM : j < M.length := by have := HN1.out; omega
                  obtain ⟨p', hp'⟩ : ∃ p', M[j].1 = p' := ⟨_, rfl⟩
                  obtain ⟨x', hx'⟩ : ∃ x', M[j].2 = x' := ⟨_, rfl⟩
                  have hmj : M[j] = (p', x') := by rw [← hp', ← hx']
                  have HQ := Lib.hid (show j = j0 → p' = p ∧ x' = x + f from fun e => by
                    subst e
                    have h1 := HMJ.out
                    rw [hmj] at h1
                    exact ⟨by injection h1, by injection h1⟩)
                  obtain ⟨gb, go, rfl, g1, g2⟩ := pair_cells R.at_ hjM hmj
                  obtain ⟨gb5, go5, rfl, g3, g4⟩ := pair_cells R5 hiP HPI.out
                  have y3 : (j : Int) < (n1 : Int) := by omega
                  have y4 : (0 : Int) ≤ (j : Int) := by omega
                  clear hp' hx' hmj
                  cases b with
                  | true =>
                    go_wp2
                    go_quiet (fail)
                    go_wp2
                    go_roundw
                    case rel => exact ⟨j + 1, true, by omega, by go_num, rfl, Lib.hid (fun _ => rfl), R.drewN _, R5.drewN _⟩
                    case measure => simp [intOf]; omega
                  | false =>
                    have hnj : ¬ j0 < j := fun h => by have := HB.out h; cases this
                    by_cases hxe : x' = x + f
                    · by_cases hpe : p' = p
                      · have t1 : (x' == x + (f : Int)) = true := by rw [hxe]; exact beq_self_eq_true _
                        have t2 : (p' == p) = true := by rw [hpe]; exact beq_self_eq_true _
                        clear hxe hpe
                        go_wp2
                        go_quiet (fail)
                        go_wp2
                        go_roundw
                        case rel => exact ⟨j + 1, true, by omega, by go_num, rfl, Lib.hid (fun _ => rfl), R.drewN _, R5.drewN _⟩
                        case measure => simp [intOf]; omega
                      · have t1 : (x' == x + (f : Int)) = true := by rw [hxe]; exact beq_self_eq_true _
                        have t2 : (p' == p) = false := by simpa using hpe
                        have HB2 := Lib.hid (show j0 < j + 1 → false = true from fun h => absurd (HQ.out (by omega)).1 hpe)
                        clear hxe hpe
                        go_wp2
                        go_quiet (fail)
                        go_wp2
                        go_roundw
                        case rel => exact ⟨j + 1, false, by omega, by go_num, rfl, HB2, R.drewN _, R5.drewN _⟩
                        case measure => simp [intOf]; omega
                    · have t1 : (x' == x + (f : Int)) = false := by simpa using hxe
                      have HB2 := Lib.hid (show j0 < j + 1 → false = true from fun h => absurd (HQ.out (by omega)).2 hxe)
                      clear hxe
                      go_wp2
                      go_quiet (fail)
                      go_wp2
                      go_roundw
                      case rel => exact ⟨j + 1, false, by omega, by go_num, rfl, HB2, R.drewN _, R5.drewN _⟩
                      case measure => simp [intOf]; omega
                · obtain rfl : b = true := HB.out (by omega)
                  clear HB
                  go_wp2
                  go_roundw
                  case rel => exact ⟨i + 1, by omega, by go_num, R, R5⟩
                  case measure => simp [intOf]; omega
            · go_wp2
              go_roundw
              case rel => exact ⟨g + 4, by omega, by omega, by go_num, R⟩
              case measure => simp [intOf]; omega
        · have hlg2 : (t.size : Int) < (g : Int) := by omega
          clear hlg hg hfg
          go_wp2
          go_roundw
          case rel => exact ⟨f + 3, by omega, by go_num, R⟩
          case measure => simp [intOf]; omega
    · go_wp2_with fail
      refine (c2 _).mono ?_
      rintro e w3 ⟨a2, n2, d2, rfl, o2⟩
      have HN2 := Lib.hid (pairs_len o2.own)
      have R2 := R.later o2.below
      go_wp2_with fail
      refine (sameMarks_b _ _ _ _ _ _ M _ HN1.out HN2.out (by omega) R2.at_ o2.at_).mono ?_
      rintro e w4 ⟨rfl, q4, rfl⟩
      have R4 := (R2.drewN q4).below
      clear R R2 o2
      go_wp2_with fail
      refine (alive_any _).mono ?_
      rintro e w5 ⟨rfl, rfl⟩
      go_wp2
      go_ret
      exact ⟨rfl, R4⟩

end Go.Proofs.Ytjebgoekcaogbaa
