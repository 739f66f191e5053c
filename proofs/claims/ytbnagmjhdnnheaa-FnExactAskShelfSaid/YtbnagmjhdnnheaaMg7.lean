/-
  The contracts of the program's functions placesBelow, withPlace and ChosenOf. Condition: rows have at most 2^22 numbers.
  Plain mathematics of marks that grow with a text: each fresh mark is put behind the last unless it is that one. No conditions.
  The contracts of the program's functions isSize, SureLength and MarksOf. Condition: texts have at most 2^22 bytes.
  The contract of the program's function TwinsOf. Condition: rows have at most 2^20 marks.
  The contracts of the program's functions isTrueTwin, shiftsOf, grownAround, FoundBy and FalseTwins. Condition: texts have at most 2^20 bytes.
  The contracts of the program's functions PiecesOf and LongestPiece. Condition: texts have at most 2^20 bytes. (Written by wip/tools/ch7_pieces_impl.py.)
  The contracts of the program's functions withFound and AskAll. Conditions: texts have at most 2^20 bytes together.
  The contracts of the program's functions EntryLess, isEntry and ShelfOk. Condition: rows have at most 2^22 entries.
  The contracts of the program's functions joinedEntries, sortedEntries and ShelfJoin. Condition: rows have at most 2^22 entries.
-/
import Derived.Test.YtbnagmjhdnnheaaMg2
import Derived.Test.YtbnagmjhdnnheaaMg6
import Derived.Test.YtbnagmjhdnnheaaMg5
import Derived.Test.YtbnagmjhdnnheaaMg4
import Derived.StillTailTactics
import Derived.Test.YtbnagmjhdnnheaaMg3
import Derived.Test.YtbnagmjhdnnheaaMg1
namespace Go.Proofs.Ytbnagmjhdnnheaa
open Go.RowKit

theorem natC_cell {w : World} {b o : Nat} {P : List Nat} (hc : ∀ j v, (natC P)[j]? = some v → w.cell? ⟨b, o + j, none⟩ = some v) (p : Nat) (hp : p < P.length) : w.cell? ⟨b, o + p, none⟩ = some (.int .i64 (P.getD p 0 : Nat)) := by
  apply hc
  simp [natC, intCells, List.getD_eq_getElem?_getD, hp]

set_option maxHeartbeats 1000000 in
theorem implBelow_any (L : List Int) (P : List Nat) (a : Option Addr) (n c : Nat) (aL : Option Addr) (nL cL : Nat) (x : Int) (w : World) (hn : n = P.length) (hl : n ≤ 4194304) (hnc : n ≤ c) (hnL : nL = L.length) (hP : ∀ i, i < P.length → P.getD i 0 < nL)
    (hat : CellsAt w a (natC P)) (hatL : CellsAt w aL (intCells L)) :
    Calls Try.prog 110 #[.slice a n c, .slice aL nL cL, .int .i64 x] w fun e w' => e = .returned (.slice a (cutN L x P n) c) ∧ w' = w := by
  go_enter Try.func110, Try.ntmps110
  have HN := Lib.hid hn
  have HL := Lib.hid hnL
  have HP := Lib.hid hP
  have HC := Lib.hid hat
  have HCL := Lib.hid hatL
  clear hn hnL hP hat hatL
  go_wp2
  go_loopw [7] (fun l_ wr => ∃ m : Nat, m ≤ n ∧ l_ = .int .i64 m ∧ Hid (cutN L x P m = cutN L x P n) ∧ Hid (wr = w)) (fun l_ _ => (intOf l_).toNat)
  case atStart => exact ⟨n, Nat.le_refl _, rfl, Lib.hid rfl, Lib.hid rfl⟩
  case round =>
    obtain ⟨m, hm, rfl, HM, HW⟩ := hrel
    by_cases h0 : m = 0
    · subst h0
      go_wp2
      go_ret
      exact ⟨by rw [← HM.out]; rfl, HW.out⟩
    · obtain ⟨p, rfl⟩ : ∃ p, m = p + 1 := ⟨m - 1, by omega⟩
      have hpP : p < P.length := by have := HN.out; omega
      obtain ⟨b, o, rfl, _, hc⟩ := HC.out.spot (fun e => by have := congrArg List.length e; simp [natC, intCells] at this; rw [this] at hpP; simp at hpP)
      have hy9 := HP.out p hpP
      have g1 := natC_cell hc p hpP
      have hLne : intCells L ≠ [] := fun e => by have h1 := congrArg List.length e; have h2 := HL.out; simp [intCells] at h1; rw [h1] at h2; simp at h2; omega
      obtain ⟨bL, oL, rfl, _, hcL⟩ := HCL.out.spot hLne
      have g2 : w.cell? ⟨bL, oL + P.getD p 0, none⟩ = some (.int .i64 (L.getD (P.getD p 0) 0)) := cells_int _ _ rfl (by have := HL.out; have := HP.out p hpP; omega) hcL
      obtain ⟨z, hz⟩ : ∃ z, L.getD (P.getD p 0) 0 = z := ⟨_, rfl⟩
      have hcut : (x ≤ z → cutN L x P (p + 1) = cutN L x P p) ∧ (¬ x ≤ z → cutN L x P (p + 1) = p + 1) := ⟨fun h => cutN_step (by rw [hz]; exact h), fun h => cutN_stop (by rw [hz]; exact h)⟩
      rw [hz] at g2
      obtain ⟨y, hy⟩ : ∃ y, P.getD p 0 = y := ⟨_, rfl⟩
      rw [hy] at g1 g2 hy9
      have z0 : (0 : Int) ≤ p := by omega
      have z1 : (p : Int) < n := by omega
      have z2 : (y : Int) < nL := by omega
      clear hz hy hc hcL hLne
      obtain rfl := HW.out
      by_cases hxz : x ≤ z
      · have HS := Lib.hid (hcut.1 hxz)
        clear hcut
        go_wp2
        go_roundw
        case rel => exact ⟨p, by omega, by go_num, Lib.hid (by rw [← HM.out, HS.out]), Lib.hid (by trivial)⟩
        case measure => simp [intOf]
      · have HS := Lib.hid (hcut.2 hxz)
        clear hcut
        go_wp2
        go_ret
        exact ⟨by rw [← HM.out, HS.out]; rfl, rfl⟩

/-- The places with one more behind them, unless it is the last already. -/
def putLast (P : List Nat) (x : Nat) : List Nat := if P.getLast? = some x then P else P ++ [x]
theorem putLast_same {P : List Nat} {x : Nat} (h : P.getLast? = some x) : putLast P x = P := by rw [putLast, if_pos h]
theorem putLast_new {P : List Nat} {x : Nat} (h : ¬ P.getLast? = some x) : natC (putLast P x) = natC P ++ [.int .i64 x] := by
  rw [putLast, if_neg h, natC, List.map_append, intCells_append]; rfl
theorem chN_put (L : List Int) (w k : Nat) : chN L w (k + 1) = putLast (chN L w k) (leastTo L k w) := by rw [chN]; rfl

set_option maxHeartbeats 1000000 in
theorem implWith_any (P : List Nat) (a : Option Addr) (n c x B : Nat) (w : World) (hl : n ≤ 4194304) (hown : w.ownsRow B 3 1 (.slice a n c) n (natC P)) (hB : B ≤ w.heap.size) :
    Calls Try.prog 111 #[.slice a n c, .int .i64 x] w fun e w' => ∃ a' n' c', e = .returned (.slice a' n' c') ∧ w'.ownsRow B 3 1 (.slice a' n' c') n' (natC (putLast P x)) ∧
      w.grownBy w' (Value.ownBlock (.slice a n c)) ∧ Stayed w (.slice a n c) (.slice a' n' c') := by
  have hlen : P.length = n := by
    have h := hown.1
    simp only [natC, intCells, List.length_map] at h
    omega
  by_cases hn0 : n = 0
  · subst hn0
    have hnil : P = [] := List.length_eq_zero_iff.1 hlen
    have HS := Lib.hid (putLast_new (P := P) (x := x) (by rw [hnil]; simp))
    clear hnil hlen
    go_enter Try.func111, Try.ntmps111
    go_wp2_with (at_builtin; refine wpList_append_own1 rfl (.tmp 19) (.tmp 21) 30 rfl Try.ulI3 Try.infoI3 rfl (by decide) hown hB rfl #[.int .i64 x] rfl rfl (by simp [Value.oneCell']) (by unfold maxLen; omega) (by omega) ?_; intro a5 c5 w5 h5 h6 h7)
    go_ret
    exact ⟨a5, 1, c5, rfl, by rw [HS.out]; exact h5, h6, h7⟩
  · obtain ⟨p, rfl⟩ : ∃ p, n = p + 1 := ⟨n - 1, by omega⟩
    obtain ⟨g, rfl⟩ := own_addr hown (by omega)
    have hpP : p < P.length := by omega
    have hcell : w.cell? ⟨g, p, none⟩ = some (.int .i64 (P.getD p 0 : Nat)) := by
      rw [hown.cellAt p (by omega)]
      simp [natC, intCells, List.getD_eq_getElem?_getD, hpP]
    have hlast : P.getLast? = some (P.getD p 0) := by
      rw [List.getLast?_eq_getElem?, show P.length - 1 = p by omega, List.getD_eq_getElem?_getD, List.getElem?_eq_getElem hpP]
      simp
    obtain ⟨y, hy⟩ : ∃ y, P.getD p 0 = y := ⟨_, rfl⟩
    rw [hy] at hcell hlast
    have z0 : (0 : Int) ≤ p := by omega
    have z1 : (p : Int) < (p : Int) + 1 := by omega
    clear hy hpP hlen
    by_cases hxy : y = x
    · have t1 : ((y : Int) == (x : Int)) = true := by rw [hxy]; exact beq_self_eq_true _
      have HS := Lib.hid (putLast_same (P := P) (x := x) (by rw [hlast, hxy]))
      clear hxy hlast
      go_enter Try.func111, Try.ntmps111
      go_wp2
      go_ret
      exact ⟨_, _, _, rfl, by rw [HS.out]; exact hown, World.grownBy.refl _ _, .inl rfl⟩
    · have t1 : ((y : Int) == (x : Int)) = false := by simp; omega
      have HS := Lib.hid (putLast_new (P := P) (x := x) (by rw [hlast]; simpa using hxy))
      clear hxy hlast
      go_enter Try.func111, Try.ntmps111
      go_wp2_with (at_builtin; refine wpList_append_own1 rfl (.tmp 19) (.tmp 21) 30 rfl Try.ulI3 Try.infoI3 rfl (by decide) hown hB rfl #[.int .i64 x] rfl rfl (by simp [Value.oneCell']) (by unfold maxLen; omega) (by omega) ?_; intro a5 c5 w5 h5 h6 h7)
      go_ret
      exact ⟨a5, p + 1 + 1, c5, rfl, by rw [HS.out]; exact h5, h6, h7⟩

/-- Where ChosenOf stands behind so many numbers. -/
structure Watch (w wr : World) (L : List Int) (v k : Nat) (P : List Nat) (a : Option Addr) (n c : Nat) (a' : Option Addr) (n' c' : Nat) : Prop where
  q : IsQ L v k P
  seg : Seg wr w.heap.size 3 a n c (natC P)
  one : One w w.heap.size wr 3 1 a' n' c' (natC (chN L v (k + 1 - v)))
  part : Parted (.slice a n c) (.slice a' n' c')

theorem ownBlock_len (a : Option Addr) (n m c c' : Nat) : Value.ownBlock (.slice a n c) = Value.ownBlock (.slice a m c') := by cases a <;> rfl

theorem Watch.start (w : World) (L : List Int) (v : Nat) (hv : 0 < v) : Watch w w L v 0 [] none 0 0 none 0 0 :=
  ⟨IsQ.nil L v, Seg.nil _ _ _, by rw [show 0 + 1 - v = 0 by omega]; exact One.nil w _ 1, fun k h => by simp [Value.ownBlock] at h⟩

theorem One.far {W : World} {B : Nat} {w w' : World} {e : TypeId} {s : Nat} {a : Option Addr} {n c : Nat} {xs : List Value} {row : Option Nat} (h : One W B w e s a n c xs) (hg : w.grownBy w' row) (hr : ∀ k, row = some k → B ≤ k) (hne : ∀ k, row = some k → Value.ownBlock (.slice a n c) ≠ some k) : One W B w' e s a n c xs := by
  refine ⟨h.own.kept hg ?_, Nat.le_trans h.base hg.size, h.below.grown hg h.base hr⟩
  cases hv : Value.ownBlock (.slice a n c) with
  | none => exact .inl rfl
  | some k => exact .inr (fun e => hne k e.symm hv)

/-- The next place is put behind those that are left. -/
theorem Watch.push {w wr w5 : World} {L : List Int} {v k : Nat} {P : List Nat} {a : Option Addr} {n c : Nat} {a' : Option Addr} {n' c' m : Nat} {a5 : Option Addr} {c5 : Nat} (h : Watch w wr L v k P a n c a' n' c') (hm : m = cutN L (L.getD k 0) P n)
    (hseg : Seg w5 w.heap.size 3 a5 (m + 1) c5 (natC (P.take m) ++ [.int .i64 k])) (hg : wr.grownBy w5 (Value.ownBlock (.slice a m c))) (hst : Stayed wr (.slice a m c) (.slice a5 (m + 1) c5)) :
    ∃ g o, a5 = some ⟨g, o, none⟩ ∧ w5.cell? ⟨g, o, none⟩ = some (.int .i64 ((pushQ L k P).getD 0 0 : Nat)) ∧ Seg w5 w.heap.size 3 (some ⟨g, o, none⟩) (m + 1) c5 (natC (pushQ L k P)) ∧ m + 1 = (pushQ L k P).length ∧
      One w w.heap.size w5 3 1 a' n' c' (natC (chN L v (k + 1 - v))) ∧ Parted (.slice (some ⟨g, o, none⟩) (m + 1) c5) (.slice a' n' c') := by
  have hn : n = P.length := by
    have := h.seg.len
    simp only [natC, intCells, List.length_map] at this
    exact this.symm
  have hp : natC (P.take m) ++ [.int .i64 (k : Nat)] = natC (pushQ L k P) := by
    rw [pushQ, hm, hn]
    simp [natC, intCells]
  rw [hp] at hseg
  have hl : m + 1 = (pushQ L k P).length := by rw [pushQ_len, hm, hn]
  obtain ⟨g, o, rfl, _, hc⟩ := hseg.at_.spot (fun e => by have := congrArg List.length e; simp [natC, intCells] at this; rw [this] at hl; simp at hl)
  rw [ownBlock_len a m n c c] at hg
  have hB : ∀ j, Value.ownBlock (.slice a n c) = some j → w.heap.size ≤ j ∧ j < wr.heap.size := fun j hj => h.seg.lt j hj
  refine ⟨g, o, rfl, natC_cell hc 0 (by omega), hseg, hl, h.one.far hg (fun j hj => (hB j hj).1) (fun j hj => h.part j hj), ?_⟩
  have hpa : Parted (.slice a' n' c') (.slice a m c) := fun j hj e => h.part j (by rw [ownBlock_len a n m c c]; exact e) hj
  exact (hpa.stayed (w := wr) (fun j hj => (h.one.own.lt j hj).2) hst).symm

/-- The first of them is left out. -/
theorem seg_leave {w5 : World} {B g o n c : Nat} {e : TypeId} {R : List Nat} (h : Seg w5 B e (some ⟨g, o, none⟩) n c (natC R)) (h2 : 2 ≤ R.length) :
    Seg w5 B e (some ⟨g, o + 1, none⟩) (n - 1) (c - 1) (natC (R.drop 1)) ∧ w5.cell? ⟨g, o + 1, none⟩ = some (.int .i64 ((R.drop 1).getD 0 0 : Nat)) ∧ n = R.length := by
  have hn : n = R.length := by
    have := h.len
    simp only [natC, intCells, List.length_map] at this
    exact this.symm
  have h3 := h.next (by omega)
  have e : (natC R).drop 1 = natC (R.drop 1) := by simp [natC, intCells]
  rw [e] at h3
  obtain ⟨g', o', ha, _, hc⟩ := h3.at_.spot (fun e => by have := congrArg List.length e; simp [natC, intCells] at this; omega)
  obtain ⟨rfl, rfl⟩ := (by simpa using ha : g = g' ∧ o + 1 = o')
  exact ⟨h3, natC_cell hc 0 (by rw [List.length_drop]; omega), hn⟩

/-- A place is chosen. -/
theorem Watch.emit {w w5 w6 : World} {L : List Int} {v k : Nat} {R : List Nat} {a : Option Addr} {n c : Nat} {a' : Option Addr} {n' c' : Nat} {a6 : Option Addr} {n6 c6 : Nat} (hQ : IsQ L v (k + 1) R) (hs : Seg w5 w.heap.size 3 a n c (natC R))
    (h1 : One w w.heap.size w5 3 1 a' n' c' (natC (chN L v (k + 1 - v)))) (hp : Parted (.slice a n c) (.slice a' n' c')) (hv : v ≤ k + 1)
    (hown : w6.ownsRow w.heap.size 3 1 (.slice a6 n6 c6) n6 (natC (putLast (chN L v (k + 1 - v)) (leastTo L (k + 1 - v) v)))) (hg : w5.grownBy w6 (Value.ownBlock (.slice a' n' c'))) (hst : Stayed w5 (.slice a' n' c') (.slice a6 n6 c6)) :
    Watch w w6 L v (k + 1) R a n c a6 n6 c6 := by
  refine ⟨hQ, hs.kept hg (fun j hj => hp j hj), ⟨?_, Nat.le_trans h1.base hg.size, below_grown_own h1.below h1.own hg (Nat.le_refl _) h1.base⟩, hp.stayed (w := w5) (fun j hj => (hs.lt j hj).2) hst⟩
  rw [show k + 1 + 1 - v = (k + 1 - v) + 1 by omega, chN_put]
  exact hown

set_option maxHeartbeats 4000000 in
theorem implChosen_any (L : List Int) (a : Option Addr) (n c : Nat) (v : Int) (w : World) (hn : n = L.length) (hl : n ≤ 4194304) (hv9 : v ≤ 9223372036854775807) (hat : CellsAt w a (intCells L)) :
    Calls Try.prog 95 #[.slice a n c, .int .i64 v] w fun e w' => ∃ a' n' c', e = .returned (.slice a' n' c') ∧ One w w.heap.size w' 3 1 a' n' c' (natC (chosenN L v)) := by
  by_cases hv : v < 1
  · rw [chosenN_few (.inl hv)]
    go_enter Try.func95, Try.ntmps95
    go_wp2
    go_ret
    exact ⟨_, _, _, rfl, One.nil _ _ _⟩
  by_cases hvn : (n : Int) < v
  · rw [chosenN_few (.inr (by omega))]
    clear hn
    go_enter Try.func95, Try.ntmps95
    go_wp2
    go_ret
    exact ⟨_, _, _, rfl, One.nil _ _ _⟩
  obtain ⟨v, rfl⟩ : ∃ u : Nat, v = u := ⟨v.toNat, by omega⟩
  have hv1 : 1 ≤ v := by omega
  have hvn2 : v ≤ n := by omega
  have HE := Lib.hid (chosenN_ok (L := L) (w := v) (by omega))
  obtain ⟨b, o, rfl, hb9, hc⟩ := hat.spot (fun e => by have h1 := congrArg List.length e; simp [intCells] at h1; rw [h1] at hn; simp at hn; omega)
  have HC := Lib.hid (show ∀ j, j < L.length → w.cell? ⟨b, o + j, none⟩ = some (.int .i64 (L.getD j 0)) from fun j hj => cells_int j _ rfl hj hc)
  have HN := Lib.hid hn
  have HAT := Lib.hid hat
  clear hv hn hc hat
  go_enter Try.func95, Try.ntmps95
  go_wp2
  go_loopw [5, 6, 18] (fun q_ c_ k_ wr => ∃ k : Nat, k ≤ n ∧ k_ = .int .i64 k ∧ ∃ P aq nq cq a' n' c', q_ = .slice aq nq cq ∧ c_ = .slice a' n' c' ∧ Watch w wr L v k P aq nq cq a' n' c') (fun _ _ k_ _ => n - (intOf k_).toNat)
  case atStart => exact ⟨0, Nat.zero_le _, rfl, _, _, _, _, _, _, _, rfl, rfl, Watch.start w L v (by omega)⟩
  case round =>
    obtain ⟨k, hk, rfl, P, aq, nq, cq, a', n', c', rfl, rfl, hW⟩ := hrel
    by_cases hlt : k < n
    · have hnq : nq = P.length := by
        have := hW.seg.len
        simp only [natC, intCells, List.length_map] at this
        exact this.symm
      have hnq9 : nq ≤ k := by have := hW.q.len; omega
      have hn'9 : n' ≤ k := by
        have h1 := hW.one.own.1
        have h2 := chN_len L v (k + 1 - v)
        simp only [natC, intCells, List.length_map] at h1
        omega
      obtain ⟨x, hx⟩ : ∃ x, L.getD k 0 = x := ⟨_, rfl⟩
      have g1 : wr.cell? ⟨b, o + k, none⟩ = some (.int .i64 x) := by
        have h1 := HC.out k (by have := HN.out; omega)
        rw [hx] at h1
        exact (hW.one.below.cell hb9).trans h1
      have c1 := implBelow_any L P aq nq cq (some ⟨b, o, none⟩) n c x wr hnq (by omega) hW.seg.room HN.out (fun i hi => by have := ((hW.q.mem _).1 (getD_mem hi)).1; omega) hW.seg.at_ (HAT.out.below hW.one.below)
      have hm9 : cutN L x P nq ≤ nq := cutN_le L x P nq
      obtain ⟨m, hm⟩ : ∃ m, cutN L x P nq = m := ⟨_, rfl⟩
      rw [hm] at c1 hm9
      have HM := Lib.hid (show m = cutN L (L.getD k 0) P nq by rw [hx, hm])
      have hseg := hW.seg.take m hm9
      have htk : (natC P).take m = natC (P.take m) := by simp [natC, intCells, List.map_take]
      rw [htk] at hseg
      clear htk hx hm hnq
      have z0 : (0 : Int) ≤ k := by omega
      have z1 : (k : Int) < n := by omega
      by_cases hA : (pushQ L k P).getD 0 0 + v ≤ k
      · obtain ⟨hQ, h2⟩ := hW.q.leave (by omega) hA
        have hF := hQ.first (by omega) (by omega)
        obtain ⟨y, hy⟩ : ∃ y, (pushQ L k P).getD 0 0 = y := ⟨_, rfl⟩
        rw [hy] at hA
        have t1 : (y : Int) ≤ (k : Int) - (v : Int) := by omega
        have t2 : (v : Int) - 1 ≤ (k : Int) := by omega
        clear hA
        obtain ⟨z, hz⟩ : ∃ z, leastTo L (k + 1 - v) v = z := ⟨_, rfl⟩
        have hz9 : z ≤ 4194304 := by have := (leastTo_is L (k + 1 - v) v (by omega)).hi; omega
        have HZ := Lib.hid hz
        have HR := Lib.hid (hF.2.trans hz)
        clear hF hz
        have hF9 : ∀ a5 c5 w5, Seg w5 w.heap.size 3 a5 (m + 1) c5 (natC (P.take m) ++ [.int .i64 k]) → wr.grownBy w5 (Value.ownBlock (.slice aq m cq)) → Stayed wr (.slice aq m cq) (.slice a5 (m + 1) c5) →
            ∃ g o5, a5 = some ⟨g, o5, none⟩ ∧ w5.cell? ⟨g, o5, none⟩ = some (.int .i64 (y : Nat)) ∧ w5.cell? ⟨g, o5 + 1, none⟩ = some (.int .i64 (z : Nat)) ∧ m + 1 ≤ c5 ∧ 1 ≤ m ∧
              Seg w5 w.heap.size 3 (some ⟨g, o5 + 1, none⟩) m (c5 - 1) (natC ((pushQ L k P).drop 1)) ∧ One w w.heap.size w5 3 1 a' n' c' (natC (chN L v (k + 1 - v))) ∧ Parted (.slice (some ⟨g, o5 + 1, none⟩) m (c5 - 1)) (.slice a' n' c') := by
          intro a5 c5 w5 h5 h6 h7
          obtain ⟨g, o5, rfl, r1, r2, r3, r4, r5⟩ := hW.push HM.out h5 h6 h7
          obtain ⟨r6, r7, _⟩ := seg_leave r2 h2
          rw [hy] at r1
          rw [HR.out] at r7
          exact ⟨g, o5, rfl, r1, r7, r2.room, by omega, r6, r4, r5⟩
        have HF9 := Lib.hid hF9
        have HQ := Lib.hid hQ
        clear hF9 hy h2 hQ
        go_wp2_with fail
        refine c1.mono ?_
        rintro e w2 ⟨rfl, rfl⟩
        clear c1
        go_wp2_with (at_builtin; refine wpList_append_seg w.heap.size rfl (.tmp 27) (.tmp 29) 30 rfl Try.ulI3 Try.infoI3 rfl hseg hW.one.base rfl (.int .i64 k) rfl (by simp [Value.oneCell']) (by unfold maxLen; omega) (by omega) ?_; intro a5 c5 w5 h5 h6 h7; obtain ⟨g, o5, rfl, r1, r7, r8, h2', r6, r4, r5⟩ := HF9.out a5 c5 w5 h5 h6 h7; clear h5 h6 h7 HF9 hW hseg)
        clear r7
        refine (implWith_any (chN L v (k + 1 - v)) a' n' c' z w.heap.size w5 (by omega) r4.own r4.base).mono ?_
        rintro e w6 ⟨a6, n6, c6, rfl, q1, q2, q3⟩
        have HF := Lib.hid (Watch.emit HQ.out r6 r4 r5 (by omega) (by rw [HZ.out]; exact q1) q2 q3)
        clear q1 q2 q3 r1 r4 r5 r6
        go_wp2
        go_roundw
        case rel => exact ⟨k + 1, by omega, by go_num, _, _, _, _, _, _, _, rfl, rfl, HF.out⟩
        case measure => simp [intOf]; omega
      · have hQ := hW.q.stay (by omega) (by omega)
        by_cases hB : v ≤ k + 1
        · have hF := hQ.first (by omega) (by omega)
          obtain ⟨z, hz⟩ : ∃ z, leastTo L (k + 1 - v) v = z := ⟨_, rfl⟩
          have hz9 : z ≤ 4194304 := by have := (leastTo_is L (k + 1 - v) v (by omega)).hi; omega
          have hy : (pushQ L k P).getD 0 0 = z := hF.2.trans hz
          rw [hy] at hA
          have t1 : (k : Int) - (v : Int) < (z : Int) := by omega
          have t2 : (v : Int) - 1 ≤ (k : Int) := by omega
          have HZ := Lib.hid hz
          have HQ := Lib.hid hQ
          clear hF hz hA hQ
          have hF9 : ∀ a5 c5 w5, Seg w5 w.heap.size 3 a5 (m + 1) c5 (natC (P.take m) ++ [.int .i64 k]) → wr.grownBy w5 (Value.ownBlock (.slice aq m cq)) → Stayed wr (.slice aq m cq) (.slice a5 (m + 1) c5) →
              ∃ g o5, a5 = some ⟨g, o5, none⟩ ∧ w5.cell? ⟨g, o5, none⟩ = some (.int .i64 (z : Nat)) ∧ Seg w5 w.heap.size 3 (some ⟨g, o5, none⟩) (m + 1) c5 (natC (pushQ L k P)) ∧ One w w.heap.size w5 3 1 a' n' c' (natC (chN L v (k + 1 - v))) ∧ Parted (.slice (some ⟨g, o5, none⟩) (m + 1) c5) (.slice a' n' c') := by
            intro a5 c5 w5 h5 h6 h7
            obtain ⟨g, o5, rfl, r1, r2, r3, r4, r5⟩ := hW.push HM.out h5 h6 h7
            rw [hy] at r1
            exact ⟨g, o5, rfl, r1, r2, r4, r5⟩
          have HF9 := Lib.hid hF9
          clear hF9 hy
          go_wp2_with fail
          refine c1.mono ?_
          rintro e w2 ⟨rfl, rfl⟩
          clear c1
          go_wp2_with (at_builtin; refine wpList_append_seg w.heap.size rfl (.tmp 27) (.tmp 29) 30 rfl Try.ulI3 Try.infoI3 rfl hseg hW.one.base rfl (.int .i64 k) rfl (by simp [Value.oneCell']) (by unfold maxLen; omega) (by omega) ?_; intro a5 c5 w5 h5 h6 h7; obtain ⟨g, o5, rfl, r1, r6, r4, r5⟩ := HF9.out a5 c5 w5 h5 h6 h7; clear h5 h6 h7 HF9 hW hseg)
          refine (implWith_any (chN L v (k + 1 - v)) a' n' c' z w.heap.size w5 (by omega) r4.own r4.base).mono ?_
          rintro e w6 ⟨a6, n6, c6, rfl, q1, q2, q3⟩
          have HF := Lib.hid (Watch.emit HQ.out r6 r4 r5 (by omega) (by rw [HZ.out]; exact q1) q2 q3)
          clear q1 q2 q3 r1 r4 r5 r6
          go_wp2
          go_roundw
          case rel => exact ⟨k + 1, by omega, by go_num, _, _, _, _, _, _, _, rfl, rfl, HF.out⟩
          case measure => simp [intOf]; omega
        · obtain ⟨z, hy⟩ : ∃ z, (pushQ L k P).getD 0 0 = z := ⟨_, rfl⟩
          rw [hy] at hA
          have t1 : (k : Int) - (v : Int) < (z : Int) := by omega
          have t2 : (k : Int) < (v : Int) - 1 := by omega
          have HQ := Lib.hid hQ
          clear hA hQ
          have hF9 : ∀ a5 c5 w5, Seg w5 w.heap.size 3 a5 (m + 1) c5 (natC (P.take m) ++ [.int .i64 k]) → wr.grownBy w5 (Value.ownBlock (.slice aq m cq)) → Stayed wr (.slice aq m cq) (.slice a5 (m + 1) c5) →
              ∃ g o5, a5 = some ⟨g, o5, none⟩ ∧ w5.cell? ⟨g, o5, none⟩ = some (.int .i64 (z : Nat)) ∧ Seg w5 w.heap.size 3 (some ⟨g, o5, none⟩) (m + 1) c5 (natC (pushQ L k P)) ∧ One w w.heap.size w5 3 1 a' n' c' (natC (chN L v (k + 1 - v))) ∧ Parted (.slice (some ⟨g, o5, none⟩) (m + 1) c5) (.slice a' n' c') := by
            intro a5 c5 w5 h5 h6 h7
            obtain ⟨g, o5, rfl, r1, r2, r3, r4, r5⟩ := hW.push HM.out h5 h6 h7
            rw [hy] at r1
            exact ⟨g, o5, rfl, r1, r2, r4, r5⟩
          have HF9 := Lib.hid hF9
          clear hF9 hy
          go_wp2_with fail
          refine c1.mono ?_
          rintro e w2 ⟨rfl, rfl⟩
          clear c1
          go_wp2_with (at_builtin; refine wpList_append_seg w.heap.size rfl (.tmp 27) (.tmp 29) 30 rfl Try.ulI3 Try.infoI3 rfl hseg hW.one.base rfl (.int .i64 k) rfl (by simp [Value.oneCell']) (by unfold maxLen; omega) (by omega) ?_; intro a5 c5 w5 h5 h6 h7; obtain ⟨g, o5, rfl, r1, r6, r4, r5⟩ := HF9.out a5 c5 w5 h5 h6 h7; clear h5 h6 h7 HF9 hW hseg)
          have HF : Hid (Watch w w5 L v (k + 1) (pushQ L k P) (some ⟨g, o5, none⟩) (m + 1) c5 a' n' c') := Lib.hid ⟨HQ.out, r6, by rw [show k + 1 + 1 - v = k + 1 - v by omega]; exact r4, r5⟩
          clear r1 r4 r5 r6
          go_roundw
          case rel => exact ⟨k + 1, by omega, by go_num, _, _, _, _, _, _, _, rfl, rfl, HF.out⟩
          case measure => simp [intOf]; omega
    · have hke : k + 1 - v = L.length + 1 - v := by have := HN.out; omega
      have HO := Lib.hid (show One w w.heap.size wr 3 1 a' n' c' (natC (chosenN L v)) by rw [HE.out, ← hke]; exact hW.one)
      clear hW hke
      go_wp2
      go_ret
      exact ⟨_, _, _, rfl, HO.out⟩

end Go.Proofs.Ytbnagmjhdnnheaa

namespace Go.Proofs.Ytbnagmjhdnnheaa

/-- Places behind others: each one that is not the last. -/
def putNew (old : List Nat) : List Nat → List Nat
  | [] => old
  | x :: xs => putNew (if old = [] ∨ old.getLastD 0 ≠ x then old ++ [x] else old) xs

theorem putNew_snoc (old xs : List Nat) (x : Nat) : putNew old (xs ++ [x]) = if putNew old xs = [] ∨ (putNew old xs).getLastD 0 ≠ x then putNew old xs ++ [x] else putNew old xs := by
  induction xs generalizing old with
  | nil => rfl
  | cons y ys ih => exact ih _

theorem putNew_chN (B C : List Int) (w f n : Nat) (hw : 0 < w) (he : ∀ i, i < n → leastTo B (f + i) w = f + leastTo C i w) :
    putNew (chN B w f) ((chN C w n).map (f + ·)) = chN B w (f + n) := by
  induction n with
  | zero => simp [chN, putNew]
  | succ n ih =>
    have hn := he n (by omega)
    have ih' := ih (fun i hi => he i (by omega))
    rw [show f + (n + 1) = f + n + 1 from rfl]
    by_cases hc : (chN C w n).getLast? = some (leastTo C n w)
    · rw [chN_same hc, ih']
      cases n with
      | zero => simp [chN] at hc
      | succ m =>
        rw [chN_last] at hc
        have hm := he m (by omega)
        injection hc with hc
        have hb : (chN B w (f + (m + 1))).getLast? = some (leastTo B (f + (m + 1)) w) := by
          rw [show f + (m + 1) = f + m + 1 from rfl, chN_last, hm, show f + m + 1 = f + (m + 1) from rfl, hn, hc]
        exact (chN_same hb).symm
    · rw [chN_new hc, List.map_append, List.map_singleton, putNew_snoc, ih', ← hn]
      by_cases hb : (chN B w (f + n)).getLast? = some (leastTo B (f + n) w)
      · rw [chN_same hb, if_neg]
        rintro (h | h)
        · exact ne_nil_of hb h
        · rw [getLastD_of hb] at h; exact h rfl
      · rw [chN_new hb, if_pos]
        by_cases h0 : f + n = 0
        · left; rw [h0]; rfl
        · right
          obtain ⟨m, hm⟩ : ∃ m, f + n = m + 1 := ⟨f + n - 1, by omega⟩
          rw [hm] at hb ⊢
          rw [getLastD_of (chN_last B w m)]
          rw [chN_last] at hb
          have := leastTo_mono B m w hw
          have hne : leastTo B m w ≠ leastTo B (m + 1) w := fun e => hb (by rw [e])
          omega

theorem marksAt_afterQ (s t : List UInt8) (k w f : Nat) (hk : 0 < k) (hw : 0 < w) (hf : f = s.length + 1 - (k + w - 1)) :
    putNew (marksAt s k w) ((marksAt ((s ++ t).drop f) k w).map (f + ·)) = marksAt (s ++ t) k w ∧ ∃ r, marksAt (s ++ t) k w = marksAt s k w ++ r := by
  have la := printsN_len s k hk
  have lb := printsN_len (s ++ t) k hk
  have lc := printsN_len ((s ++ t).drop f) k hk
  rw [List.length_append] at lb
  rw [List.length_drop, List.length_append] at lc
  have fa : (printsL s (k : Int)).length + 1 - w = f := by omega
  obtain ⟨n, hn⟩ : ∃ n, (printsL (s ++ t) (k : Int)).length + 1 - w = f + n := ⟨(printsL (s ++ t) (k : Int)).length + 1 - w - f, by omega⟩
  have fc : (printsL ((s ++ t).drop f) (k : Int)).length + 1 - w = n := by omega
  have e1 : marksAt s k w = chN (printsL (s ++ t) k) w f := by
    unfold marksAt
    rw [chosenN_ok hw, fa]
    refine (chN_same_rows _ _ w f fun i hi => ?_).symm
    have := leastTo_shift (L := printsL s k) (M := printsL (s ++ t) k) (f := i) (g := i) hw (fun d hd => by
      rw [printsN_get _ _ _ hk (by rw [List.length_append]; omega), printsN_get _ _ _ hk (by omega), pieceL_append _ _ _ _ (by omega)])
    have := (leastTo_is (printsL s k) i w hw).lo
    omega
  have e2 : marksAt (s ++ t) k w = chN (printsL (s ++ t) k) w (f + n) := by
    unfold marksAt
    rw [chosenN_ok hw, hn]
  have e3 : marksAt ((s ++ t).drop f) k w = chN (printsL ((s ++ t).drop f) k) w n := by
    unfold marksAt
    rw [chosenN_ok hw, fc]
  rw [e1, e2, e3]
  refine ⟨putNew_chN _ _ w f n hw fun i hi => ?_, chN_prefix _ w f n⟩
  have h := leastTo_shift (L := printsL ((s ++ t).drop f) k) (M := printsL (s ++ t) k) (f := i) (g := f + i) hw (fun d hd => by
    have := @List.length_append _ s t
    rw [printsN_get _ _ _ hk (by omega), printsN_get _ _ _ hk (by rw [List.length_drop]; omega), pieceL_drop, Nat.add_assoc])
  have := (leastTo_is (printsL ((s ++ t).drop f) k) i w hw).lo
  omega

/-- One mark behind others, unless it is the last of them. -/
def stepQ (f : Int) (out : List (Int × Int)) (x : Int × Int) : List (Int × Int) := if out = [] ∨ (out.getLastD (0, 0)).2 ≠ x.2 + f then out ++ [(x.1, x.2 + f)] else out

theorem putNew_pairs (g h : Nat → Int) (f : Nat) (old xs : List Nat) (he : ∀ x ∈ xs, h x = g (f + x)) :
    (xs.map fun x => (h x, (x : Int))).foldl (stepQ f) (old.map fun x => (g x, (x : Int))) = (putNew old (xs.map (f + ·))).map fun x => (g x, (x : Int)) := by
  induction xs generalizing old with
  | nil => rfl
  | cons x xs ih =>
    have hx := he x (by simp)
    have e : stepQ f (old.map fun x => (g x, (x : Int))) (h x, (x : Int)) = (if old = [] ∨ old.getLastD 0 ≠ f + x then old ++ [f + x] else old).map fun x => (g x, (x : Int)) := by
      unfold stepQ
      by_cases h0 : old = []
      · subst h0; simp [hx]; omega
      · have hl : ((old.map fun x => (g x, (x : Int))).getLastD (0, 0)).2 = ((old.getLastD 0 : Nat) : Int) := by
          rw [List.getLastD_eq_getLast?, List.getLastD_eq_getLast?, List.getLast?_map, List.getLast?_eq_some_getLast h0]
          rfl
        simp only [hl, List.map_eq_nil_iff, h0, false_or]
        by_cases hc : old.getLastD 0 ≠ f + x
        · rw [if_pos (by omega), if_pos hc, List.map_append, hx]
          simp; omega
        · rw [if_neg (by omega), if_neg hc]
    rw [List.map_cons, List.foldl_cons, e, List.map_cons]
    exact ih _ (fun y hy => he y (by simp [hy]))

theorem marksL_afterQ (s t : List UInt8) (k w f : Nat) (hk : 0 < k) (hw : 0 < w) (hf : f = s.length + 1 - (k + w - 1)) :
    (marksL ((s ++ t).drop f) k w).foldl (stepQ f) (marksL s k w) = marksL (s ++ t) k w ∧ ∃ r, marksL (s ++ t) k w = marksL s k w ++ r := by
  obtain ⟨h1, r, h2⟩ := marksAt_afterQ s t k w f hk hw hf
  have eold : marksL s k w = (marksAt s k w).map fun x => ((printsL (s ++ t) k).getD x 0, (x : Int)) := by
    refine List.map_congr_left fun x hx => ?_
    have := marksAt_lt s k w hk x hx
    rw [printsN_get _ _ _ hk this, printsN_get _ _ _ hk (by rw [List.length_append]; omega), pieceL_append _ _ _ _ this]
  constructor
  · rw [eold]
    unfold marksL
    rw [putNew_pairs, h1]
    intro x hx
    have := marksAt_lt _ k w hk x hx
    rw [List.length_drop] at this
    rw [printsN_get _ _ _ hk (by rw [List.length_drop]; omega), printsN_get _ _ _ hk (by omega), pieceL_drop]
  · refine ⟨r.map fun x => ((printsL (s ++ t) k).getD x 0, (x : Int)), ?_⟩
    rw [eold]
    unfold marksL
    rw [h2, List.map_append]

theorem stepQ_len (f : Int) (out : List (Int × Int)) (x : Int × Int) : (stepQ f out x).length ≤ out.length + 1 := by
  unfold stepQ; split
  · simp
  · omega
theorem foldQ_next (f : Int) (old fresh : List (Int × Int)) (i : Nat) (hi : i < fresh.length) : (fresh.take (i + 1)).foldl (stepQ f) old = stepQ f ((fresh.take i).foldl (stepQ f) old) fresh[i] := by
  rw [List.take_succ_eq_append_getElem hi, List.foldl_append]; rfl
theorem foldQ_len (f : Int) (old fresh : List (Int × Int)) (i : Nat) (hi : i ≤ fresh.length) : ((fresh.take i).foldl (stepQ f) old).length ≤ old.length + i := by
  induction i with
  | zero => simp
  | succ i ih =>
    rw [foldQ_next f old fresh i (by omega)]
    have h1 := ih (by omega)
    have h2 := stepQ_len f ((fresh.take i).foldl (stepQ f) old) fresh[i]
    omega

end Go.Proofs.Ytbnagmjhdnnheaa

namespace Go.Proofs.Ytbnagmjhdnnheaa
open Go.RowKit



set_option maxHeartbeats 4000000 in
theorem implMarks_any (s : ByteArray) (k v : Int) (M : List (Int × Int)) (w : World) (hM : marksL s.data.toList k v = M) (hs : s.size ≤ 4194304) (hv9 : v ≤ 9223372036854775807) :
    Calls Try.prog 69 #[.string s, .int .i64 k, .int .i64 v] w fun e w' => ∃ a n c, e = .returned (.slice a n c) ∧ One w w.heap.size w' 74 2 a n c (pairsC M) := by
  obtain ⟨P, hP⟩ : ∃ P, printsL s.data.toList k = P := ⟨_, rfl⟩
  have hPl : P.length ≤ 4194304 := by
    have h := printsN_room s.data.toList k
    rw [hP] at h
    have : s.data.toList.length = s.size := rfl
    omega
  obtain ⟨C, hC⟩ : ∃ C, chosenN P v = C := ⟨_, rfl⟩
  have hCl : C.length ≤ P.length := by rw [← hC]; exact chosenN_len P v
  have HCx := Lib.hid (show ∀ i (h : i < C.length), C[i] < P.length from fun i h => by subst hC; exact chosenN_lt P v _ (List.getElem_mem h))
  have hML : M = C.map fun x => (P.getD x 0, (x : Int)) := by rw [← hM, marksL, marksAt, hP, hC]
  have HM := Lib.hid hML
  have hMl : M.length = C.length := by rw [hML, List.length_map]
  have HMl := Lib.hid hMl
  have c1 := fun w => implPrintsOf_is s k P w hs hP
  have HCe := Lib.hid hC
  have HPl := Lib.hid hPl
  have HCl := Lib.hid hCl
  clear hM hML hMl hC hP hPl hCl
  go_enter Try.func69, Try.ntmps69
  go_wp2_with fail
  refine (c1 _).mono ?_
  rintro e w2 ⟨la, ln, lc, rfl, h2⟩
  have hln : ln = P.length := by have h := h2.own.1; simp only [intCells, List.length_map] at h; omega
  have HLN := Lib.hid hln
  have hln9 : ln ≤ 4194304 := by have := HPl.out; omega
  clear hln
  go_wp2_with fail
  refine (implChosen_any P la ln lc v w2 HLN.out hln9 hv9 (cellsAt_own h2.own)).mono ?_
  rintro e w3 ⟨ca, cn, cc, rfl, h3⟩
  rw [HCe.out] at h3
  have hcn : cn = C.length := by have h := h3.own.1; rw [natC_len] at h; omega
  have HCN := Lib.hid hcn
  have hcn9 : cn ≤ 4194304 := by have := HCl.out; have := HPl.out; omega
  have hone0 : One w w.heap.size w3 74 2 none 0 0 (pairsC (M.take 0)) := ((One.nil w 74 2).later h2.below).later h3.below
  have hl0 : w3.ownsRow w.heap.size 3 1 (.slice la ln lc) ln (intCells P) := ownsRow_below h2.own h3.below
  have hc0 : w3.ownsRow w.heap.size 3 1 (.slice ca cn cc) cn (natC C) := own_under h3.own h2.base
  clear h2 h3 hcn c1
  go_wp2
  go_loopw [8, 18] (fun o_ i_ wr => ∃ i : Nat, i ≤ cn ∧ i_ = .int .i64 i ∧ ∃ a c, o_ = .slice a i c ∧ One w w.heap.size wr 74 2 a i c (pairsC (M.take i)) ∧ wr.ownsRow w.heap.size 3 1 (.slice la ln lc) ln (intCells P) ∧ wr.ownsRow w.heap.size 3 1 (.slice ca cn cc) cn (natC C)) (fun _ i_ _ => cn - (intOf i_).toNat)
  case atStart => exact ⟨0, Nat.zero_le _, rfl, _, _, rfl, hone0, hl0, hc0⟩
  case round =>
    clear hone0 hl0 hc0
    obtain ⟨i, hi, rfl, a, c, rfl, hone, hlr, hcr⟩ := hrel
    by_cases hlt : i < cn
    · have hic : i < C.length := by have := HCN.out; omega
      have hx := HCx.out i hic
      have hcg := natC_get C i hic
      have hmi : M[i]'(by rw [HMl.out]; exact hic) = (P.getD C[i] 0, (C[i] : Int)) := by simp [HM.out]
      obtain ⟨x, hxe⟩ : ∃ x, C[i] = x := ⟨_, rfl⟩
      rw [hxe] at hx hcg hmi
      obtain ⟨p, hp⟩ : ∃ p, P.getD x 0 = p := ⟨_, rfl⟩
      rw [hp] at hmi
      have hlg := intC_get P x p hx hp
      have hxl : x < ln := by have := HLN.out; omega
      obtain ⟨lg, rfl⟩ := own_addr hlr (by omega)
      obtain ⟨cg, rfl⟩ := own_addr hcr (by omega)
      have k1 : wr.cell? ⟨cg, i, none⟩ = some (.int .i64 (x : Int)) := by rw [hcr.cellAt i (by omega)]; exact hcg
      have k2 : wr.cell? ⟨lg, x, none⟩ = some (.int .i64 p) := by rw [hlr.cellAt x (by omega)]; exact hlg
      have HS := Lib.hid (pairs_take (by rw [HMl.out]; exact hic) hmi)
      have z1 : (0 : Int) ≤ (x : Int) := by omega
      have z2 : (x : Int) < (ln : Int) := by omega
      have z3 : (i : Int) < (cn : Int) := by omega
      clear hcg hmi hlg hxe hp hx
      go_wp2_with (at_builtin; refine wpList_append_apart rfl (.tmp 22) (.tmp 29) 39 rfl Try.ulM4 Try.infoM4 rfl (by decide) hone rfl #[.int .i64 p, .int .i64 (x : Int)] rfl rfl (by simp [Value.oneCell']) (by unfold maxLen; omega) (by omega) ?_; intro a5 c5 w5 h5 g5 p5)
      go_roundw
      case rel => exact ⟨i + 1, by omega, by go_num, a5, c5, rfl, by rw [HS.out]; exact h5, ownsRow_kept_apart hlr hone.own (by decide) g5, ownsRow_kept_apart hcr hone.own (by decide) g5⟩
      case measure => simp [intOf]; omega
    · have hie : i = M.length := by have := HMl.out; have := HCN.out; omega
      have HO := Lib.hid (show One w w.heap.size wr 74 2 a i c (pairsC M) by
        have h := hone
        rw [List.take_of_length_le (by omega)] at h
        exact h)
      clear hone hlr hcr hie
      go_wp2
      go_ret
      exact ⟨_, _, _, rfl, HO.out⟩

end Go.Proofs.Ytbnagmjhdnnheaa

namespace Go.Proofs.Ytbnagmjhdnnheaa
open Go.RowKit

set_option maxHeartbeats 4000000 in
theorem implTwins_any (A B : List (Int × Int)) (a : Option Addr) (n c : Nat) (b : Option Addr) (m d : Nat) (w : World) (hn : n = A.length) (hm : m = B.length) (hn9 : n ≤ 1048576) (hm9 : m ≤ 1048576) (hA : CellsAt w a (pairsC A)) (hB : CellsAt w b (pairsC B)) :
    Calls Try.prog 68 #[.slice a n c, .slice b m d] w fun e w' => ∃ a' n' c', e = .returned (.slice a' n' c') ∧ One w w.heap.size w' 86 2 a' n' c' (pairsC (twinsL A B)) := by
  have HN := Lib.hid hn
  have HM := Lib.hid hm
  clear hn hm
  go_enter Try.func68, Try.ntmps68
  go_wp2
  go_loopw [5, 10] (fun o_ i_ wr => ∃ i : Nat, i ≤ n ∧ i_ = .int .i64 i ∧ ∃ a' n' c', o_ = .slice a' n' c' ∧ n' ≤ i * 1048576 ∧ One w w.heap.size wr 86 2 a' n' c' (pairsC (twinsL (A.take i) B))) (fun _ i_ _ => n - (intOf i_).toNat)
  case atStart => exact ⟨0, Nat.zero_le _, rfl, _, 0, _, rfl, by omega, One.nil _ _ _⟩
  case round =>
    obtain ⟨i, hi, rfl, a1, n1, c1, rfl, hn1, hone⟩ := hrel
    by_cases hlt : i < n
    · have hiA : i < A.length := by have := HN.out; omega
      obtain ⟨ab, ao, rfl, hab, hac⟩ := hA.pair (fun e => by rw [e] at hiA; simp at hiA)
      have hai := hac i hiA
      obtain ⟨p, hp⟩ : ∃ p, A[i].1 = p := ⟨_, rfl⟩
      obtain ⟨x, hx⟩ : ∃ x, A[i].2 = x := ⟨_, rfl⟩
      rw [hp, hx] at hai
      have HA := Lib.hid (show ∀ w', Below w.heap.size w w' → w'.cell? ⟨ab, ao + i * 2, none⟩ = some (.int .i64 p) ∧ w'.cell? ⟨ab, ao + i * 2 + 1, none⟩ = some (.int .i64 x) from fun w' h => ⟨(h.cell (p := ⟨ab, ao + i * 2, none⟩) hab).trans hai.1, (h.cell (p := ⟨ab, ao + i * 2 + 1, none⟩) hab).trans hai.2⟩)
      have HE := Lib.hid (show A[i] = (p, x) by rw [← hp, ← hx])
      have H0 := Lib.hid (show One w w.heap.size wr 86 2 a1 n1 c1 (pairsC (twinsL (A.take i) B ++ rowT (p, x) (B.take 0))) by simpa [rowT] using hone)
      clear hac hai hp hx hone
      go_wp2
      go_loopw [5, 15] (fun o_ k_ wr => ∃ k : Nat, k ≤ m ∧ k_ = .int .i64 k ∧ ∃ a' n' c', o_ = .slice a' n' c' ∧ n' ≤ i * 1048576 + k ∧ One w w.heap.size wr 86 2 a' n' c' (pairsC (twinsL (A.take i) B ++ rowT (p, x) (B.take k)))) (fun _ k_ _ => m - (intOf k_).toNat)
      case atStart => exact ⟨0, Nat.zero_le _, rfl, _, _, _, rfl, Nat.le_trans hn1 (Nat.le_add_right _ _), H0.out⟩
      case round =>
        clear H0
        obtain ⟨k, hk, rfl, a2, n2, c2, rfl, hn2, hone⟩ := hrel
        by_cases hlk : k < m
        · have hkB : k < B.length := by have := HM.out; omega
          obtain ⟨bb, bo, rfl, hbb, hbc⟩ := hB.pair (fun e => by rw [e] at hkB; simp at hkB)
          have hbk := hbc k hkB
          obtain ⟨q, hq⟩ : ∃ q, B[k].1 = q := ⟨_, rfl⟩
          obtain ⟨y, hy⟩ : ∃ y, B[k].2 = y := ⟨_, rfl⟩
          have hyes := rowT_yes (p, x) B k hkB
          have hno := rowT_no (p, x) B k hkB
          rw [hq, hy] at hbk
          rw [hq] at hyes hno
          rw [hy] at hyes
          have HB := Lib.hid (show ∀ w', Below w.heap.size w w' → w'.cell? ⟨bb, bo + k * 2, none⟩ = some (.int .i64 q) ∧ w'.cell? ⟨bb, bo + k * 2 + 1, none⟩ = some (.int .i64 y) from fun w' h => ⟨(h.cell (p := ⟨bb, bo + k * 2, none⟩) hbb).trans hbk.1, (h.cell (p := ⟨bb, bo + k * 2 + 1, none⟩) hbb).trans hbk.2⟩)
          obtain ⟨r1, r2⟩ := HA.out _ hone.below
          obtain ⟨r3, r4⟩ := HB.out _ hone.below
          clear hbc hbk hq hy
          by_cases hpq : p = q
          · have t1 : (p == q) = true := by rw [hpq]; exact beq_self_eq_true _
            have HS := Lib.hid (show pairsC (twinsL (A.take i) B ++ rowT (p, x) (B.take (k + 1))) = pairsC (twinsL (A.take i) B ++ rowT (p, x) (B.take k)) ++ [.int .i64 x, .int .i64 y] by rw [hyes hpq, ← List.append_assoc, pairsC_append]; rfl)
            clear hpq hyes hno
            go_wp2
            go_quiet (fail)
            go_wp2
            go_region_held3 (fun w' => w'.cell? ⟨ab, ao + i * 2 + 1, none⟩ = some (.int .i64 x) ∧ w'.cell? ⟨bb, bo + k * 2 + 1, none⟩ = some (.int .i64 y)) (first | go_keep | exact ⟨(HA.out _ h3.below).2, (HB.out _ h3.below).2⟩)
              ((refine step_append_to w w.heap.size a2 n2 c2 (pairsC (twinsL (A.take i) B ++ rowT (p, x) (B.take k))) (some ⟨wr.heap.size, 0, none⟩) 1 1 [.int .i64 x, .int .i64 y] (n2 + 1) (pairsC (twinsL (A.take i) B ++ rowT (p, x) (B.take (k + 1)))) (by rfl) (by exact HS.out.symm) (by rfl) (.tmp 29) (.tmp 41) 82 (by rfl) (by rfl) (by rfl) Try.ulT4 Try.infoT4 rfl (by decide) (by rfl) (by simp [Value.oneCell']) (by unfold maxLen; omega) (by omega) (by repeat (first | exact hone | refine One.drew ?_ | exact One.drewN hone _ | refine One.alloc ?_ _)) (by repeat (first | exact cellsAt_lit _ _ _ _ rfl | refine CellsAt.drewW ?_)) ?_; intro a3 c3 w3 h3 g3))
            go_wp2
            go_roundw
            case rel => exact ⟨k + 1, by omega, by go_num, a3, n2 + 1, c3, rfl, by omega, h3⟩
            case measure => simp [intOf]; omega
          · have t1 : (p == q) = false := by simpa using hpq
            have HS := Lib.hid (show pairsC (twinsL (A.take i) B ++ rowT (p, x) (B.take (k + 1))) = pairsC (twinsL (A.take i) B ++ rowT (p, x) (B.take k)) by rw [hno hpq])
            clear hpq hyes hno
            go_wp2
            go_quiet (fail)
            go_wp2
            go_roundw
            case rel => exact ⟨k + 1, by omega, by go_num, a2, n2, c2, rfl, by omega, by rw [HS.out]; exact hone.drewN _⟩
            case measure => simp [intOf]; omega
        · have HO := Lib.hid (show One w w.heap.size wr 86 2 a2 n2 c2 (pairsC (twinsL (A.take (i + 1)) B)) by
            rw [twinsL_next A B i hiA, HE.out]
            rw [show B.take k = B from List.take_of_length_le (by have := HM.out; omega)] at hone
            exact hone)
          clear hone
          go_wp2
          go_roundw
          case rel => exact ⟨i + 1, by omega, by go_num, a2, n2, c2, rfl, by omega, HO.out⟩
          case measure => simp [intOf]; omega
    · have HO := Lib.hid (show One w w.heap.size wr 86 2 a1 n1 c1 (pairsC (twinsL A B)) by
        rw [show A.take i = A from List.take_of_length_le (by have := HN.out; omega)] at hone
        exact hone)
      clear hone
      go_wp2
      go_ret
      exact ⟨_, _, _, rfl, HO.out⟩

end Go.Proofs.Ytbnagmjhdnnheaa

namespace Go.Proofs.Ytbnagmjhdnnheaa
open Go.RowKit

theorem implTrue8_is (r : Bool) (s t : ByteArray) (x y k : Int) (w : World) (hr : r = true ↔ okP s t (x, y, k)) (hx : x ≤ 9223372036854775807) (hy : y ≤ 9223372036854775807) (hs : s.size ≤ 1048576) (ht : t.size ≤ 1048576) :
    Calls Try.prog 71 #[.string s, .string t, .agg #[.int .i64 x, .int .i64 y], .int .i64 k] w fun e w' => e = .returned (.bool r) ∧ Below w.heap.size w w' := by
  have c := fun w => implPieceOk_is r s t x y k w hr hx hy (by omega) (by omega)
  clear hr
  have ha := (Below.refl w.heap.size w).alloc (Nat.le_refl _) (.cells #[.int .i64 x, .int .i64 y] 86)
  go_enter Try.func71, Try.ntmps71
  go_wp2_with fail
  refine (c _).mono ?_
  rintro e w2 ⟨rfl, hb2⟩
  have hbb := ha.trans (hb2.mono ha.size)
  clear ha hb2 c
  go_wp2
  go_ret
  exact ⟨rfl, hbb⟩

/-- The shifts of the first twins, and zeros behind. -/
def shTo (T : List (Int × Int)) (i e : Nat) : Int := if e < i then (T.getD e (0, 0)).1 - (T.getD e (0, 0)).2 else 0
theorem shTo_zero (T : List (Int × Int)) (e : Nat) : shTo T 0 e = 0 := by simp [shTo]
theorem shTo_all (T : List (Int × Int)) : vecI T.length (shTo T T.length) = T.map fun x => x.1 - x.2 := by
  apply List.ext_getElem
  · simp [vecI_len]
  · intro e h1 h2
    have he : e < T.length := by simpa using h2
    rw [vecI_get _ _ _ he]
    simp [shTo, he]

set_option maxRecDepth 4000 in
set_option maxHeartbeats 8000000 in
theorem implShifts_any (T : List (Int × Int)) (a : Option Addr) (n c : Nat) (w : World) (hn : n = T.length) (h9 : n ≤ 1099511627776) (hP : PosT T) (hat : CellsAt w a (pairsC T)) :
    Calls Try.prog 91 #[.slice a n c] w fun e w' => ∃ a' n' c', e = .returned (.slice a' n' c') ∧ One w w.heap.size w' 3 1 a' n' c' (intCells (rowI (T.map fun x => x.1 - x.2))) := by
  have HN := Lib.hid hn
  have HAT := Lib.hid hat
  have HP := Lib.hid hP
  obtain ⟨w1, hmk, hone⟩ := make_zeros w n (by omega)
  obtain ⟨g, hg⟩ : ∃ g, w.heap.size = g := ⟨_, rfl⟩
  have HG := Lib.hid hg
  rw [hg] at hmk
  have hone1 : One w w.heap.size w1 3 1 (some ⟨g, 0, none⟩) n n (intCells (vecI n (shTo T 0))) := by
    rw [hg] at hone ⊢
    rw [vecI_same (f := shTo T 0) (g := fun _ => 0) (fun i _ => shTo_zero T i)]
    exact hone
  clear hn hat hP hg hone
  go_enter Try.func91, Try.ntmps91
  go_wp2
  clear hmk
  go_loopw [10] (fun j_ wr => ∃ j : Nat, j ≤ n ∧ j_ = .int .i64 j ∧ One w w.heap.size wr 3 1 (some ⟨g, 0, none⟩) n n (intCells (vecI n (shTo T j)))) (fun j_ _ => n - (intOf j_).toNat)
  case atStart => exact ⟨0, Nat.zero_le _, rfl, hone1⟩
  case round =>
    clear hone1
    obtain ⟨j, hj, rfl, hone⟩ := hrel
    by_cases hlj : j < n
    · have hjT : j < T.length := by have := HN.out; omega
      obtain ⟨x, hx⟩ : ∃ x, T[j].1 = x := ⟨_, rfl⟩
      obtain ⟨y, hy⟩ : ∃ y, T[j].2 = y := ⟨_, rfl⟩
      obtain ⟨b, o, rfl, hb9, hc⟩ := (HAT.out.below hone.below).pair (fun e => by rw [e] at hjT; simp at hjT)
      obtain ⟨e1, e2⟩ := hc j hjT
      rw [hx] at e1
      rw [hy] at e2
      have hp := HP.out T[j] (List.getElem_mem hjT)
      rw [hx, hy] at hp
      have v1 : IntKind.i64.wrap (x - y) = x - y := IntWalk.i64_in _ (by omega)
      have z1 : (j : Int) < (n : Int) := by omega
      have z0 : (0 : Int) ≤ (j : Int) := by omega
      obtain ⟨v, hv⟩ : ∃ v, shTo T j j = v := ⟨_, rfl⟩
      have kc := vec_cell hone hlj hv
      have hfz := hone.frozen j
      have hnx : shTo T (j + 1) j = x - y := by
        rw [shTo, if_pos (by omega), ← hx, ← hy, List.getD_eq_getElem?_getD, List.getElem?_eq_getElem hjT]; rfl
      have HST := Lib.hid (show ∀ s, One w w.heap.size ((wr.setCell ⟨g, j, none⟩ (.int .i64 (x - y))).drewN s) 3 1 (some ⟨g, 0, none⟩) n n (intCells (vecI n (shTo T (j + 1)))) from fun s =>
        (vec_stored hone hnx (fun i hi hne => by unfold shTo; by_cases h : i < j
                                                 · rw [if_pos (by omega), if_pos h]
                                                 · rw [if_neg (by omega), if_neg h])).drewN s)
      clear hx hy hc hone hnx hv hjT hp
      go_wp2
      go_still_tail 14, (by kernel_rfl)
      change wpList _ _ _ _ _ wr.drew
      go_wp2
      go_roundw
      case rel => exact ⟨j + 1, by omega, by go_num, HST.out 1⟩
      case measure => simp [intOf]; omega
    · obtain rfl : j = n := by omega
      have HO := Lib.hid (show One w w.heap.size wr 3 1 (some ⟨g, 0, none⟩) j j (intCells (T.map fun x => x.1 - x.2)) by
        have h := hone
        rw [HN.out] at h ⊢
        rwa [shTo_all] at h)
      have c3 := implUp_any j (T.map fun x => x.1 - x.2) (some ⟨g, 0, none⟩) j j wr (Nat.le_refl _) (by rw [List.length_map]; exact HN.out) (by omega) (Nat.le_refl _) HO.out.at_
      have HB := Lib.hid HO.out.below
      clear hone HO
      go_wp2_with fail
      refine c3.mono ?_
      rintro e w4 ⟨a5, n5, c5, rfl, h4⟩
      go_wp2
      go_ret
      exact ⟨_, _, _, rfl, h4.under HB.out HB.out.size⟩

theorem upI_of {l : List Int} (h : l.Pairwise ltI) : UpI l := fun i j hij hj => by
  by_cases e : i = j
  · subst e; exact Int.le_refl _
  · have h2 := gup_at h (show i < j by omega) hj
    unfold ltI at h2
    omega

/-- A row that was made whole is a block of its own. -/
theorem One.whole {W : World} {B : Nat} {w : World} {e : TypeId} {s g n : Nat} {xs : List Value} (h : One W B w e s (some ⟨g, 0, none⟩) n n xs) : w.heap[g]? = some (.cells xs.toArray e (0, 0)) := by
  rcases h.own.2 with ⟨hv, _⟩ | ⟨g', cap', cur, hv, _, hg, _, _, hcs, htake⟩
  · simp at hv
  · obtain ⟨rfl, rfl⟩ := (by simpa using hv : g = g' ∧ n = cap')
    rw [List.take_of_length_le (by rw [Array.length_toList, hcs]; exact Nat.le_refl _)] at htake
    rw [hg, ← htake]

/-- The ends by places of shifts. -/
def endV (E : Int → Int) (S : List Int) (e : Nat) : Int := E (S.getD e 0)

set_option maxRecDepth 4000 in
set_option maxHeartbeats 16000000 in
theorem implGrown_any (s t : ByteArray) (T : List (Int × Int)) (k n : Int) (a : Option Addr) (nT c : Nat) (R : List En) (w : World) (hR : rowE (foundTo s t k n T) = R) (hk : 1 ≤ k) (hn : nT = T.length) (h9 : nT ≤ 1099511627776) (hO : OrdT T) (hP : PosT T) (hs : s.size ≤ 1048576) (ht : t.size ≤ 1048576) (hat : CellsAt w a (pairsC T)) :
    Calls Try.prog 67 #[.string s, .string t, .slice a nT c, .int .i64 k, .int .i64 n] w fun e w' => ∃ a' n' c', e = .returned (.slice a' n' c') ∧ One w w.heap.size w' 88 3 a' n' c' (entsC R) := by
  have HR := Lib.hid hR
  have HN := Lib.hid hn
  have HO := Lib.hid hO
  have HP := Lib.hid hP
  have HAT := Lib.hid hat
  have c1 := implShifts_any T a nT c w hn h9 hP hat
  have HSM := Lib.hid (fun (i : Nat) (hi : i < T.length) => (rowI_mem (T.map fun x => x.1 - x.2) (T[i].1 - T[i].2)).2 (List.mem_map.2 ⟨T[i], List.getElem_mem hi, rfl⟩))
  have HSU := Lib.hid (rowI_is (T.map fun x => x.1 - x.2)).up
  have HSL := Lib.hid (rowI_len (T.map fun x => x.1 - x.2))
  obtain ⟨S, hS⟩ : ∃ S, rowI (T.map fun x => x.1 - x.2) = S := ⟨_, rfl⟩
  rw [hS] at c1 HSM HSU HSL
  clear hR hn hO hP hat hS
  go_enter Try.func67, Try.ntmps67
  go_wp2_with fail
  refine c1.mono ?_
  rintro e w2 ⟨aS, nS, cS, rfl, oS⟩
  have HNS := Lib.hid (ints_lenN oS.own)
  have HSA := Lib.hid oS.at_
  have HAT2 := Lib.hid (HAT.out.below oS.below)
  have HB2 := Lib.hid oS.below
  have hnS : nS ≤ 1099511627776 := by
    have h1 := HSL.out
    rw [List.length_map] at h1
    have := HNS.out
    have := HN.out
    omega
  obtain ⟨w3, hmk, hone⟩ := make_zeros w2 nS (by omega)
  obtain ⟨g, hg⟩ : ∃ g, w2.heap.size = g := ⟨_, rfl⟩
  have HG := Lib.hid hg
  rw [hg] at hmk
  have hone3 : One w2 w2.heap.size w3 3 1 (some ⟨g, 0, none⟩) nS nS (intCells (vecI nS (endV (fun _ => 0) S))) := by
    rw [hg] at hone ⊢
    exact hone
  have HSD := Lib.hid (show Side w3 w2.heap.size (.slice none 0 0) 3 g (intCells (vecI nS (endV (fun _ => 0) S))) from ⟨hone3.whole, by omega, by simp [Value.ownBlock]⟩)
  have HL := Lib.hid ((One.nil w3 88 3).under hone3.below hone3.below.size)
  clear c1 oS hone hone3 hg
  go_wp2
  clear hmk
  go_loopw [13, 26] (fun u i_ wr => ∃ (i m d : Nat) (aL : Option Addr) (E : Int → Int) (L : List En), i ≤ nT ∧ i_ = .int .i64 (i : Int) ∧ u = .slice aL m d ∧ Hid (GrownI s t k n T i E L) ∧ Hid (One w2 w2.heap.size wr 88 3 aL m d (entsC L)) ∧ Hid (Side wr w2.heap.size (.slice aL m d) 3 g (intCells (vecI nS (endV E S))))) (fun _ i_ _ => nT - (intOf i_).toNat)
  case atStart => exact ⟨0, 0, 0, none, fun _ => 0, [], Nat.zero_le _, rfl, rfl, Lib.hid (grown_start s t k n T), HL, HSD⟩
  case round =>
    clear HL HSD
    obtain ⟨i, m, d, aL, E, L, hi, rfl, rfl, HI, HL, HSD⟩ := hrel
    have hm9 : m ≤ 1099511627776 := by
      have h1 := ents_len7 HL.out.own
      have h2 := HI.out.len
      omega
    by_cases hlt : i < nT
    · have hil : i < T.length := by have := HN.out; omega
      obtain ⟨x, hx⟩ : ∃ x, T[i].1 = x := ⟨_, rfl⟩
      obtain ⟨y, hy⟩ : ∃ y, T[i].2 = y := ⟨_, rfl⟩
      obtain ⟨b, o, rfl, hb9, hc⟩ := (HAT2.out.below HL.out.below).pair (fun e => by rw [e] at hil; simp at hil)
      obtain ⟨e1, e2⟩ := hc i hil
      have hp := HP.out T[i] (List.getElem_mem hil)
      have hmem := HSM.out i hil
      have hwith := HI.out.within HO.out HP.out hk hil
      have hlies := HI.out.lies (n := n) hil
      have hgrows := fun E' => HI.out.grows (E' := E') (n := n) hk hil
      have hroom := HI.out.room (x - y)
      rw [hx, hy] at hp hmem hwith
      rw [hx] at e1
      rw [hy] at e2
      rw [hx, hy] at hlies
      simp only [hx, hy] at hgrows
      obtain ⟨q, hq⟩ : ∃ q, posI S (x - y) = q := ⟨_, rfl⟩
      obtain ⟨j, hj, hjS⟩ := List.getElem_of_mem hmem
      have hqj : j = q := by
        rw [← hq, ← hjS]
        exact (posI_mem HSU.out hj).symm
      subst hqj
      have hqn : j < nS := by have := HNS.out; omega
      have hSj : S.getD j 0 = x - y := by rw [List.getD_eq_getElem?_getD, List.getElem?_eq_getElem hj, hjS]; rfl
      have hSne : ∀ p, p < nS → p ≠ j → S.getD p 0 ≠ x - y := fun p hp hne e => by
        have hpS : p < S.length := by have := HNS.out; omega
        rw [List.getD_eq_getElem?_getD, List.getElem?_eq_getElem hpS] at e
        have e : S[p] = x - y := e
        have h1 := posI_mem HSU.out hpS
        rw [e, hq] at h1
        exact hne h1.symm
      obtain ⟨v, hv⟩ : ∃ v, E (x - y) = v := ⟨_, rfl⟩
      have hev : endV E S j = v := by rw [endV, hSj, hv]
      rw [hv] at hwith hroom
      have cF := fun w' (hb : Below w2.heap.size w2 w') => implFirstN_any S (x - y) aS nS cS w' HNS.out hnS (upI_of HSU.out) (HSA.out.below hb)
      simp only [hq] at cF
      have v1 : IntKind.i64.wrap (x - y) = x - y := IntWalk.i64_in _ (by omega)
      have z1 : (i : Int) < (nT : Int) := by omega
      have z0 : (0 : Int) ≤ (i : Int) := by omega
      have z3 : (j : Int) < (nS : Int) := by omega
      have z2 : (0 : Int) ≤ (j : Int) := by omega
      have ha := (Below.refl wr.heap.size wr).alloc (Nat.le_refl _) (.cells #[.int .i64 x, .int .i64 y] 86)
      have S5 := Side.fresh (w := wr) (B := 0) (v := .slice none 0 0) 86 [.int .i64 x, .int .i64 y] (Nat.zero_le _) (by intro k hk; simp [Value.ownBlock] at hk)
      have HL5 := Lib.hid (HL.out.later ha)
      have HSD5 := Lib.hid (HSD.out.later ha)
      have hgw := HSD.out.lt
      have HQ := Lib.hid hq
      have HSJ := Lib.hid hSj
      have HSN := Lib.hid hSne
      have HEV := Lib.hid hev
      have HX := Lib.hid hx
      have HY := Lib.hid hy
      clear hc hmem hj hjS hSj hSne hev hq hx hy HL HSD hv
      have hB5 := Lib.hid HL5.out.below
      go_wp2_with fail
      refine (cF _ hB5.out).mono ?_
      rintro e w6 ⟨rfl, rfl⟩
      clear cF hB5
      by_cases hvx : x < v
      · have HI2 := Lib.hid (hwith hvx)
        have t1 : decide (x < v) = true := decide_eq_true hvx
        have ke := HSD5.out.cell j (.int .i64 v) (by simp [intCells, hqn, vecI, HEV.out])
        have k0 := S5.cell 0 _ rfl
        have k1 := S5.cell 1 _ rfl
        clear hvx hwith hlies hgrows hroom hp
        go_wp2
        obtain ⟨w5, hw5⟩ : ∃ w9, wr.alloc (.cells #[.int .i64 x, .int .i64 y] 86) = w9 := ⟨_, rfl⟩
        obtain ⟨gt, hgt⟩ : ∃ g, wr.heap.size = g := ⟨_, rfl⟩
        rw [hw5] at HL5 HSD5 ke k0 k1
        rw [hgt] at k0 k1
        rw [hw5, hgt]
        have ha := Lib.hid ha
        clear hw5 S5
        have hgt := Lib.hid hgt
        go_quiet (fail)
        go_wp2
        go_roundw
        case rel => exact ⟨i + 1, m, d, aL, E, L, by omega, by go_num, rfl, HI2, Lib.hid (HL5.out.drewN _), Lib.hid (HSD5.out.drewN _)⟩
        case measure => simp [intOf]; omega
      · have t1 : decide (x < v) = false := decide_eq_false hvx
        have ke := HSD5.out.cell j (.int .i64 v) (by simp [intCells, hqn, vecI, HEV.out])
        have hg5 := HSD5.out.lt
        have k0 := S5.cell 0 _ rfl
        have k1 := S5.cell 1 _ rfl
        by_cases hrun : k.toNat ≤ runP s t x.toNat y.toNat
        · have cT := fun w => implTrue8_is true s t x y k w ⟨fun _ => (okP_run hp.1 hp.2.2.1 hk).2 hrun, fun _ => rfl⟩ hp.2.1 hp.2.2.2 hs ht
          obtain ⟨X, rfl⟩ : ∃ X : Nat, x = (X : Int) := ⟨x.toNat, by have := hp.1; omega⟩
          obtain ⟨Y, rfl⟩ : ∃ Y : Nat, y = (Y : Int) := ⟨y.toNat, by have := hp.2.2.1; omega⟩
          simp only [Int.toNat_natCast] at hgrows hrun
          have hsm : sm s t X Y := runP_same s t X Y 0 (by omega)
          have hrm := runP_room s t X Y (by have := hsm.1; omega) (by have := hsm.2.1; omega)
          have hend := growN_end s t X Y
          have hgt2 := growT_yes hsm
          obtain ⟨⟨p1, p2, p3⟩, hgn⟩ : ∃ r, growN s t X Y = r := ⟨_, rfl⟩
          rw [hgn] at hend hgt2 hgrows
          have cG := fun w => implGrow_any s t X Y p1 p2 p3 true w hgt2 (by omega) (by omega) (by omega) (by omega)
          have hp0 : 0 ≤ p1 + p3 ∧ p1 + p3 ≤ 1048576 := by simp only at hend; omega
          have v2 : IntKind.i64.wrap (p1 + p3) = p1 + p3 := IntWalk.i64_in _ (by omega)
          obtain ⟨E', hE'⟩ : ∃ E' : Int → Int, E' = fun dd => if dd = (X : Int) - (Y : Int) then p1 + p3 else E dd := ⟨_, rfl⟩
          have hE1 : E' ((X : Int) - (Y : Int)) = p1 + p3 := by rw [hE']; simp
          have hE2 : ∀ dd, dd ≠ (X : Int) - (Y : Int) → E' dd = E dd := fun dd h => by rw [hE']; simp [h]
          have hgr := hgrows E' hrun hE1 hE2
          have HEV2 := Lib.hid (show endV E' S j = p1 + p3 by rw [endV, HSJ.out]; exact hE1)
          have HEN := Lib.hid (show ∀ p, p < nS → p ≠ j → endV E' S p = endV E S p from fun p hp hne => hE2 _ (HSN.out p hp hne))
          simp only at hgr
          clear hvx hwith hlies hgrows hroom hp hrun hsm hrm hend hgt2 hgn hp0 hE1 hE2 hE'
          go_wp2
          obtain ⟨w5, hw5⟩ : ∃ w9, wr.alloc (.cells #[.int .i64 (X : Int), .int .i64 (Y : Int)] 86) = w9 := ⟨_, rfl⟩
          have hgt5 : wr.heap.size < w5.heap.size := by rw [← hw5]; simp
          obtain ⟨gt, hgt⟩ : ∃ g, wr.heap.size = g := ⟨_, rfl⟩
          rw [hw5] at HL5 HSD5 ke k0 k1 hg5
          rw [hgt] at k0 k1 hgt5
          rw [hw5, hgt]
          have HKS := Lib.hid (show ∀ w', Below w5.heap.size w5 w' → w'.cell? ⟨gt, 0, none⟩ = some (.int .i64 (X : Int)) ∧ w'.cell? ⟨gt, 1, none⟩ = some (.int .i64 (Y : Int)) ∧ w'.cell? ⟨g, j, none⟩ = some (.int .i64 v) from fun w' h => ⟨(h.cell hgt5).trans k0, (h.cell hgt5).trans k1, (h.cell hg5).trans ke⟩)
          have ha := Lib.hid ha
          clear hw5 S5 hg5 hgt5
          have hgt := Lib.hid hgt
          go_region_held3 (fun w' => w'.cell? ⟨gt, 0, none⟩ = some (.int .i64 (X : Int)) ∧ w'.cell? ⟨gt, 1, none⟩ = some (.int .i64 (Y : Int)) ∧ w'.cell? ⟨g, j, none⟩ = some (.int .i64 v)) (first | go_keep | exact HKS.out _ (Below.trans (by repeat (first | exact Below.refl _ _ | refine Below.drew ?_ | refine below_drewN' ?_ _)) (hb6.mono (by simp))))
            ((go_at_call 71; refine (cT _).mono ?_; rintro e w6 ⟨rfl, hb6⟩))
          have W6 : Below w5.heap.size w5 w6 := Below.trans (by repeat (first | exact Below.refl _ _ | refine Below.drew ?_ | refine below_drewN' ?_ _)) (hb6.mono (by simp))
          have HL6 := Lib.hid (HL5.out.later W6)
          have HSD6 := Lib.hid (HSD5.out.later W6)
          obtain ⟨k0, k1, ke⟩ := HKS.out w6 W6
          clear hb6 W6 HKS cT HL5 HSD5 ke
          go_wp2_with fail
          refine (cG _).mono ?_
          rintro e w7 ⟨rfl, b7⟩
          have hb7 := (Below.refl w7.heap.size w7).alloc (Nat.le_refl _) (.cells #[.int .i64 p1, .int .i64 p2, .int .i64 p3] 88)
          have S8 := Side.fresh (w := w7) (B := 0) (v := .slice none 0 0) 88 [.int .i64 p1, .int .i64 p2, .int .i64 p3] (Nat.zero_le _) (by intro k hk; simp [Value.ownBlock] at hk)
          have HL8 := Lib.hid ((HL6.out.later b7).later hb7)
          have HSD8 := Lib.hid ((HSD6.out.later b7).later hb7)
          have hne8 : w7.heap.size ≠ g := fun e => by
            have h1 := (HSD6.out.later b7).lt
            omega
          clear b7 hb7 k0 k1 cG HL6 HSD6
          have kj := HSD8.out.cell j (.int .i64 v) (by simp [intCells, hqn, vecI, HEV.out])
          have hfz := HSD8.out.frozen j
          have HL9 := Lib.hid (HL8.out.beside HSD8.out.base HSD8.out.apart j (.int .i64 (p1 + p3)))
          have HSD9 := Lib.hid (show Side ((w7.alloc (.cells #[.int .i64 p1, .int .i64 p2, .int .i64 p3] 88)).setCell ⟨g, j, none⟩ (.int .i64 (p1 + p3))) w2.heap.size (.slice aL m d) 3 g (intCells (vecI nS (endV E' S))) by
            have h := HSD8.out.set_self j (.int .i64 (p1 + p3))
            have e1 : (intCells (vecI nS (endV E S))).set j (.int .i64 (p1 + p3)) = intCells (vecI nS (endV E' S)) := by
              rw [← vecI_set HEV2.out (fun p hp hne => HEN.out p hp hne), intCells, intCells, List.map_set]
            rwa [e1] at h)
          have S9 := S8.set_other hne8 j (.int .i64 (p1 + p3))
          have q0 := S9.cell 0 _ rfl
          have q1 := S9.cell 1 _ rfl
          have q2 := S9.cell 2 _ rfl
          clear S8 S9 HL8 HSD8 hne8
          by_cases hz : n ≤ p3
          · have HI2 := Lib.hid (hgr.1 hz)
            have hz2 : decide (n ≤ p3) = true := decide_eq_true hz
            have HE3 := Lib.hid (show entsC (L ++ [(p1, p2, p3)]) = entsC L ++ [.int .i64 p1, .int .i64 p2, .int .i64 p3] from entsC_snoc L (p1, p2, p3))
            have hsz : ((w7.alloc (.cells #[.int .i64 p1, .int .i64 p2, .int .i64 p3] 88)).setCell ⟨g, j, none⟩ (.int .i64 (p1 + p3))).heap.size = w7.heap.size + 1 := by simp [World.setCell]
            clear hgr hz
            go_wp2_with (at_builtin; refine wpList_append_apart rfl (.tmp 74) (.tmp 76) 46 rfl Try.ulP7 Try.infoP7 rfl (by decide) HL9.out rfl #[.int .i64 p1, .int .i64 p2, .int .i64 p3] (by rw [hsz]; rfl) rfl (by simp [Value.oneCell']) (by unfold maxLen; omega) (by omega) ?_; intro a6 c6 w6 o6 g6 s6)
            have HSDA := Lib.hid (HSD9.out.grow g6 s6)
            clear g6 s6
            go_roundw
            case rel => exact ⟨i + 1, m + 1, c6, a6, E', L ++ [(p1, p2, p3)], by omega, by go_num, rfl, HI2, Lib.hid (by rw [HE3.out]; exact o6), HSDA⟩
            case measure => simp [intOf]; omega
          · have HI2 := Lib.hid (hgr.2 (by omega))
            have hz2 : decide (n ≤ p3) = false := decide_eq_false hz
            clear hgr hz
            go_wp2
            go_roundw
            case rel => exact ⟨i + 1, m, d, aL, E', L, by omega, by go_num, rfl, HI2, HL9, HSD9⟩
            case measure => simp [intOf]; omega
        · have cT := fun w => implTrue8_is false s t x y k w ⟨(fun h => absurd h (by decide)), fun h => absurd ((okP_run hp.1 hp.2.2.1 hk).1 h) hrun⟩ hp.2.1 hp.2.2.2 hs ht
          have HI2 := Lib.hid (hlies hrun)
          clear hvx hwith hlies hgrows hroom hp hrun
          go_wp2
          obtain ⟨w5, hw5⟩ : ∃ w9, wr.alloc (.cells #[.int .i64 x, .int .i64 y] 86) = w9 := ⟨_, rfl⟩
          have hgt5 : wr.heap.size < w5.heap.size := by rw [← hw5]; simp
          obtain ⟨gt, hgt⟩ : ∃ g, wr.heap.size = g := ⟨_, rfl⟩
          rw [hw5] at HL5 HSD5 ke k0 k1 hg5
          rw [hgt] at k0 k1 hgt5
          rw [hw5, hgt]
          have HKS := Lib.hid (show ∀ w', Below w5.heap.size w5 w' → w'.cell? ⟨gt, 0, none⟩ = some (.int .i64 x) ∧ w'.cell? ⟨gt, 1, none⟩ = some (.int .i64 y) ∧ w'.cell? ⟨g, j, none⟩ = some (.int .i64 v) from fun w' h => ⟨(h.cell hgt5).trans k0, (h.cell hgt5).trans k1, (h.cell hg5).trans ke⟩)
          have ha := Lib.hid ha
          clear hw5 S5 hg5 hgt5
          have hgt := Lib.hid hgt
          go_region_held3 (fun w' => w'.cell? ⟨gt, 0, none⟩ = some (.int .i64 x) ∧ w'.cell? ⟨gt, 1, none⟩ = some (.int .i64 y) ∧ w'.cell? ⟨g, j, none⟩ = some (.int .i64 v)) (first | go_keep | exact HKS.out _ (Below.trans (by repeat (first | exact Below.refl _ _ | refine Below.drew ?_ | refine below_drewN' ?_ _)) (hb6.mono (by simp))))
            ((go_at_call 71; refine (cT _).mono ?_; rintro e w6 ⟨rfl, hb6⟩))
          have W6 : Below w5.heap.size w5 w6 := Below.trans (by repeat (first | exact Below.refl _ _ | refine Below.drew ?_ | refine below_drewN' ?_ _)) (hb6.mono (by simp))
          have HL6 := Lib.hid (HL5.out.later W6)
          have HSD6 := Lib.hid (HSD5.out.later W6)
          clear hb6 W6 HKS cT HL5 HSD5 k0 k1 ke
          go_wp2
          go_roundw
          case rel => exact ⟨i + 1, m, d, aL, E, L, by omega, by go_num, rfl, HI2, HL6, HSD6⟩
          case measure => simp [intOf]; omega
    · have HIL := Lib.hid (show i = T.length by have := HN.out; omega)
      have HRR := Lib.hid (HI.out.done HIL.out)
      have c5 := implSorted7_any m L aL m d wr (Nat.le_refl _) (ents_len7 HL.out.own) (by omega) HL.out.cap.1 HL.out.at_
      have HB := Lib.hid (HB2.out.trans (HL.out.below.mono HB2.out.size))
      go_wp2_with fail
      refine c5.mono ?_
      rintro e w6 ⟨a6, n6, c6, rfl, o6⟩
      go_wp2
      go_ret
      exact ⟨_, _, _, rfl, by rw [← HR.out, ← HRR.out]; exact o6.under HB.out HB.out.size⟩

set_option maxHeartbeats 8000000 in
theorem implFound_any (s t : ByteArray) (k v n : Int) (R : List En) (w : World) (h : foundL s t k v n = R) (hs : s.size ≤ 1048576) (ht : t.size ≤ 1048576) (hv9 : v ≤ 9223372036854775807) :
    Calls Try.prog 33 #[.string s, .string t, .int .i64 k, .int .i64 v, .int .i64 n] w fun e w' => ∃ a m c, e = .returned (.slice a m c) ∧ One w w.heap.size w' 88 3 a m c (entsC R) := by
  subst h
  by_cases hno : k < 1 ∨ v < 1 ∨ n < 1
  · have HE := Lib.hid (foundL_none (s := s) (t := t) hno)
    have hc : decide (k < 1) = true ∨ (decide (k < 1) = false ∧ decide (v < 1) = true) ∨ (decide (k < 1) = false ∧ decide (v < 1) = false ∧ decide (n < 1) = true) := by
      by_cases h1 : k < 1
      · exact .inl (decide_eq_true h1)
      · by_cases h2 : v < 1
        · exact .inr (.inl ⟨decide_eq_false h1, decide_eq_true h2⟩)
        · exact .inr (.inr ⟨decide_eq_false h1, decide_eq_false h2, decide_eq_true (by omega)⟩)
    clear hno
    rcases hc with t1 | ⟨t1, t2⟩ | ⟨t1, t2, t3⟩
    all_goals (
      go_enter Try.func33, Try.ntmps33
      go_wp2
      go_ret
      exact ⟨_, _, _, rfl, by rw [HE.out]; exact One.nil w 88 3⟩)
  · have hk1 : 1 ≤ k := by omega
    obtain ⟨A, hA⟩ : ∃ A, mkL s k v = A := ⟨_, rfl⟩
    obtain ⟨B, hB⟩ : ∃ A, mkL t k v = A := ⟨_, rfl⟩
    have HR := Lib.hid (show rowE (foundTo s t k n (twinsL A B)) = foundL s t k v n by rw [foundL, if_neg (by omega), hA, hB])
    have HOT := Lib.hid (show OrdT (twinsL A B) by rw [← hA, ← hB]; exact twins_ord s t k v)
    have HPT := Lib.hid (show PosT (twinsL A B) by rw [← hA, ← hB]; exact twins_pos hs ht)
    have cA := fun w => implMarks_any s k v A w hA (by omega) hv9
    have cB := fun w => implMarks_any t k v B w hB (by omega) hv9
    have hAl : A.length ≤ 1048576 := by rw [← hA]; exact Nat.le_trans (mkL_len s k v) hs
    have hBl : B.length ≤ 1048576 := by rw [← hB]; exact Nat.le_trans (mkL_len t k v) ht
    have t1 : decide (k < 1) = false := decide_eq_false (by omega)
    have t2 : decide (v < 1) = false := decide_eq_false (by omega)
    have t3 : decide (n < 1) = false := decide_eq_false (by omega)
    clear hA hB hno
    go_enter Try.func33, Try.ntmps33
    go_wp2_with fail
    refine (cA _).mono ?_
    rintro e w1 ⟨aA, nA, dA, rfl, oA⟩
    go_wp2_with fail
    refine (cB _).mono ?_
    rintro e w2 ⟨aB, nB, dB, rfl, oB⟩
    have cT := implTwins_any A B aA nA dA aB nB dB w2 (pairs_len oA.own) (pairs_len oB.own) (by have := pairs_len oA.own; omega) (by have := pairs_len oB.own; omega) (oA.later oB.below).at_ oB.at_
    go_wp2_with fail
    refine cT.mono ?_
    rintro e w3 ⟨aT, nT, dT, rfl, oT⟩
    have hnT : nT ≤ 1099511627776 := by
      have h1 := pairs_len oT.own
      have h2 := twinsL_len A B 1048576 hBl
      have h3 : A.length * 1048576 ≤ 1048576 * 1048576 := Nat.mul_le_mul hAl (Nat.le_refl _)
      omega
    have cG := implGrown_any s t (twinsL A B) k n aT nT dT (foundL s t k v n) w3 HR.out hk1 (pairs_len oT.own) hnT HOT.out HPT.out hs ht oT.at_
    have HB3 := Lib.hid (show Below w.heap.size w w3 from (oA.below.trans (oB.below.mono oA.below.size)).trans (oT.below.mono (Nat.le_trans oA.below.size oB.below.size)))
    clear cA cB cT oA oB oT
    go_wp2_with fail
    refine cG.mono ?_
    rintro e w4 ⟨a4, n4, c4, rfl, o4⟩
    go_wp2
    go_ret
    exact ⟨_, _, _, rfl, o4.under HB3.out HB3.out.size⟩

set_option maxHeartbeats 8000000 in
theorem implFalse_any (s t : ByteArray) (k v : Int) (w : World) (hs : s.size ≤ 1048576) (ht : t.size ≤ 1048576) (hv9 : v ≤ 9223372036854775807) :
    Calls Try.prog 38 #[.string s, .string t, .int .i64 k, .int .i64 v] w fun e w' => e = .returned (.int .i64 ((falseN s t k v : Nat) : Int)) ∧ Below w.heap.size w w' := by
  obtain ⟨A, hA⟩ : ∃ A, mkL s k v = A := ⟨_, rfl⟩
  obtain ⟨B, hB⟩ : ∃ A, mkL t k v = A := ⟨_, rfl⟩
  have HR := Lib.hid (show falseN s t k v = falseTo s t k (twinsL A B) by rw [falseN, hA, hB])
  have cA := fun w => implMarks_any s k v A w hA (by omega) hv9
  have cB := fun w => implMarks_any t k v B w hB (by omega) hv9
  have hAl : A.length ≤ 1048576 := by rw [← hA]; exact Nat.le_trans (mkL_len s k v) hs
  have hBl : B.length ≤ 1048576 := by rw [← hB]; exact Nat.le_trans (mkL_len t k v) ht
  have HA := Lib.hid hA
  have HB2 := Lib.hid hB
  clear hA hB
  go_enter Try.func38, Try.ntmps38
  go_wp2_with fail
  refine (cA _).mono ?_
  rintro e w1 ⟨aA, nA, dA, rfl, oA⟩
  go_wp2_with fail
  refine (cB _).mono ?_
  rintro e w2 ⟨aB, nB, dB, rfl, oB⟩
  have cT := implTwins_any A B aA nA dA aB nB dB w2 (pairs_len oA.own) (pairs_len oB.own) (by have := pairs_len oA.own; omega) (by have := pairs_len oB.own; omega) (oA.later oB.below).at_ oB.at_
  go_wp2_with fail
  refine cT.mono ?_
  rintro e w3 ⟨aT, nT, dT, rfl, oT⟩
  obtain ⟨T, hT⟩ : ∃ T, twinsL A B = T := ⟨_, rfl⟩
  rw [hT] at oT
  have HT := Lib.hid oT.at_
  have HNT := Lib.hid (pairs_len oT.own)
  have HTE := Lib.hid hT
  have hnT : nT ≤ 1099511627776 := by
    have h1 := pairs_len oT.own
    have h2 := twinsL_len A B 1048576 hBl
    have h3 : A.length * 1048576 ≤ 1048576 * 1048576 := Nat.mul_le_mul hAl (Nat.le_refl _)
    rw [hT] at h2
    omega
  have B3 := Lib.hid (show Below w.heap.size w w3 from (oA.below.trans (oB.below.mono oA.below.size)).trans (oT.below.mono (Nat.le_trans oA.below.size oB.below.size)))
  clear cA cB cT oA oB oT hT
  go_wp2
  go_loopw [9, 22] (fun u i_ wr => ∃ (i c : Nat), i ≤ nT ∧ c ≤ i ∧ i_ = .int .i64 (i : Int) ∧ u = .int .i64 (c : Int) ∧ Hid (c = falseTo s t k (T.take i)) ∧ Hid (Below w3.heap.size w3 wr)) (fun _ i_ _ => nT - (intOf i_).toNat)
  case atStart => exact ⟨0, 0, Nat.zero_le _, Nat.le_refl _, rfl, rfl, Lib.hid rfl, Lib.hid (Below.refl _ _)⟩
  case round =>
    obtain ⟨i, c, hi, hci, rfl, rfl, HC, HB⟩ := hrel
    by_cases hlt : i < nT
    · have hil : i < T.length := by have := HNT.out; omega
      have hmem : T[i] ∈ twinsL (mkL s k v) (mkL t k v) := by rw [HA.out, HB2.out, HTE.out]; exact List.getElem_mem hil
      obtain ⟨X, Y, K, rfl, hk1, hxy, hX, hY, _⟩ := twin_in hmem
      obtain ⟨b, o, rfl, hb9, hc⟩ := (HT.out.below HB.out).pair (fun e => by rw [e] at hil; simp at hil)
      obtain ⟨e1, e2⟩ := hc i hil
      rw [hxy] at e1 e2
      have z1 : (i : Int) < (nT : Int) := by omega
      have z0 : (0 : Int) ≤ (i : Int) := by omega
      have hiff := okP_run (s := s) (t := t) (x := (X : Int)) (y := (Y : Int)) (k := (K : Int)) (by omega) (by omega) (by omega)
      simp only [Int.toNat_natCast] at hiff
      have ha := (Below.refl wr.heap.size wr).alloc (Nat.le_refl _) (.cells #[.int .i64 (X : Int), .int .i64 (Y : Int)] 86)
      have hbb := Lib.hid (HB.out.trans (ha.mono HB.out.size))
      clear hmem hc
      by_cases hok : K ≤ runP s t X Y
      · have HNX := Lib.hid (falseTo_no (s := s) (t := t) (k := (K : Int)) hil (by rw [hxy]; simpa using hok))
        have c4 := fun w => implTrue8_is true s t (X : Int) (Y : Int) (K : Int) w ⟨fun _ => hiff.2 hok, fun _ => rfl⟩ (by omega) (by omega) hs ht
        clear hok hxy hil HB hiff
        go_wp2_with fail
        refine (c4 _).mono ?_
        rintro e w5 ⟨rfl, hb5⟩
        have hbb := Lib.hid (hbb.out.trans (hb5.mono hbb.out.size))
        clear hb5 c4 ha
        go_wp2
        go_roundw
        case rel => exact ⟨i + 1, c, by omega, by omega, by go_num, rfl, Lib.hid (by rw [HNX.out, ← HC.out]), hbb⟩
        case measure => simp [intOf]; omega
      · have HNX := Lib.hid (falseTo_yes (s := s) (t := t) (k := (K : Int)) hil (by rw [hxy]; simpa using hok))
        have c4 := fun w => implTrue8_is false s t (X : Int) (Y : Int) (K : Int) w ⟨(fun h => absurd h (by decide)), fun h => absurd (hiff.1 h) hok⟩ (by omega) (by omega) hs ht
        clear hok hxy hil HB hiff
        go_wp2_with fail
        refine (c4 _).mono ?_
        rintro e w5 ⟨rfl, hb5⟩
        have hbb := Lib.hid (hbb.out.trans (hb5.mono hbb.out.size))
        clear hb5 c4 ha
        go_wp2
        go_roundw
        case rel => exact ⟨i + 1, c + 1, by omega, by omega, by go_num, by go_num, Lib.hid (by rw [HNX.out, ← HC.out]), hbb⟩
        case measure => simp [intOf]; omega
    · have z1 : ¬ (i : Int) < (nT : Int) := by omega
      have HE := Lib.hid (show T.take i = T from List.take_of_length_le (by have := HNT.out; omega))
      go_wp2
      go_ret
      exact ⟨by rw [HR.out, HTE.out, HC.out, HE.out]; rfl, B3.out.trans (HB.out.mono B3.out.size)⟩

end Go.Proofs.Ytbnagmjhdnnheaa

namespace Go.Proofs.Ytbnagmjhdnnheaa
open Go.RowKit

set_option maxRecDepth 4000 in
set_option maxHeartbeats 8000000 in
theorem implPieces_any (s t : ByteArray) (n : Int) (R : List En) (w : World) (h : piecesT s t n = R) (hn9 : n ≤ 9223372036854775807) (hs : s.size ≤ 1048576) (ht : t.size ≤ 1048576) :
    Calls Try.prog 82 #[.string s, .string t, .int .i64 n] w fun e w' => ∃ a m c, e = .returned (.slice a m c) ∧ One w w.heap.size w' 88 3 a m c (entsC R) := by
  subst h
  by_cases hn : n < 1
  · have HE := Lib.hid (piecesT_bad (s := s) (t := t) hn)
    go_enter Try.func82, Try.ntmps82
    go_wp2
    go_ret
    exact ⟨_, _, _, rfl, by rw [HE.out]; exact One.nil w 88 3⟩
  · obtain ⟨N, rfl⟩ : ∃ N : Nat, n = N := ⟨n.toNat, by omega⟩
    have hN1 : 1 ≤ N := by omega
    have HR := Lib.hid (piecesT_nat (s := s) (t := t) (n := N) hN1)
    have e1 : IntKind.i64.wrap ((s.size : Int) - (N : Int)) = (s.size : Int) - (N : Int) := IntWalk.i64_in _ (by omega)
    have e2 : IntKind.i64.wrap ((t.size : Int) - (N : Int)) = (t.size : Int) - (N : Int) := IntWalk.i64_in _ (by omega)
    go_enter Try.func82, Try.ntmps82
    go_wp2
    go_loopw [7, 8] (fun v i_ wr => ∃ (i m c : Nat) (a : Option Addr), i ≤ s.size ∧ i_ = .int .i64 (i : Int) ∧ v = .slice a m c ∧ Hid (One w w.heap.size wr 88 3 a m c (entsC (piecesN s t N i)))) (fun _ i_ _ => s.size - (intOf i_).toNat)
    case atStart => exact ⟨0, _, _, _, Nat.zero_le _, rfl, rfl, Lib.hid (One.nil w 88 3)⟩
    case round =>
      obtain ⟨i, m, c, a, hi, rfl, rfl, HO⟩ := hrel
      by_cases hlt : i + N ≤ s.size
      · have z1 : (i : Int) ≤ (s.size : Int) - (N : Int) := by omega
        have hi2 : i < s.size := by omega
        obtain ⟨wo, rfl⟩ : ∃ wo, wo = wr := ⟨_, rfl⟩
        go_wp2
        go_loopw [7, 9] (fun v j_ wr => ∃ (j m c : Nat) (a : Option Addr), j ≤ t.size ∧ j_ = .int .i64 (j : Int) ∧ v = .slice a m c ∧ Hid (One w w.heap.size wr 88 3 a m c (entsC (piecesN s t N i ++ rowP s t N i j)))) (fun _ j_ _ => t.size - (intOf j_).toNat)
        case atStart => exact ⟨0, m, c, a, Nat.zero_le _, rfl, rfl, Lib.hid (by rw [rowP_zero, List.append_nil]; exact HO.out)⟩
        case round =>
          obtain ⟨j, m, c, a, hj, rfl, rfl, HO⟩ := hrel
          by_cases hltj : j + N ≤ t.size
          · have z2 : (j : Int) ≤ (t.size : Int) - (N : Int) := by omega
            have hm9 : m ≤ 1099511627776 := by rw [ents_len7 HO.out.own]; exact pieces_room N i j hs ht hi2 hj
            have hN2 : (0 : Int) < (N : Int) := by omega
            rcases from_ways s t N i j hN1 with ⟨hgr, hst⟩ | ⟨r, hgr, hst, hNr, hpc⟩ | ⟨r, hgr, hst, hNr⟩
            · have cg := fun w => implFrom_any s t i j 0 0 0 w hgr hi hj (by omega) (by omega)
              have HRW := Lib.hid (rowP_no (n := N) hst)
              have hNr2 : (0 : Int) < (N : Int) := by omega
              clear hgr hst
              go_wp2_with fail
              refine (cg _).mono ?_
              rintro e w5 ⟨rfl, b5⟩
              have HO := Lib.hid ((HO.out.later b5).later ((Below.refl _ _).alloc (Nat.le_refl _) (.cells #[.int .i64 0, .int .i64 0, .int .i64 0] 88)))
              clear b5 cg
              go_wp2
              go_roundw
              case rel => exact ⟨j + 1, m, c, a, by omega, by go_num, rfl, Lib.hid (by rw [HRW.out]; exact HO.out)⟩
              case measure => simp [intOf]; omega
            · have cg := fun w => implFrom_any s t i j i j r w hgr hi hj (by omega) (by omega)
              have HRW := Lib.hid (rowP_yes hst)
              have HPC := Lib.hid hpc
              have hNr2 : (N : Int) ≤ (r : Int) := by omega
              clear hgr hst hpc
              go_wp2_with fail
              refine (cg _).mono ?_
              rintro e w5 ⟨rfl, b5⟩
              have HO := Lib.hid ((HO.out.later b5).later ((Below.refl _ _).alloc (Nat.le_refl _) (.cells #[.int .i64 (i : Int), .int .i64 (j : Int), .int .i64 (r : Int)] 88)))
              clear b5 cg
              go_wp2_with (at_builtin; refine wpList_append_row rfl (.tmp 38) (.tmp 40) 46 rfl Try.ulP7 Try.infoP7 rfl (by decide) HO.out rfl #[.int .i64 (i : Int), .int .i64 (j : Int), .int .i64 (r : Int)] (by rw [alloc_size7]; rfl) rfl (by simp [Value.oneCell']) (by unfold maxLen; omega) (by omega) ?_; intro a6 c6 w6 o6)
              go_roundw
              case rel => exact ⟨j + 1, m + 1, c6, a6, by omega, by go_num, rfl, Lib.hid (by rw [HRW.out, HPC.out, ← List.append_assoc, entsC_snoc]; exact o6)⟩
              case measure => simp [intOf]; omega
            · have cg := fun w => implFrom_any s t i j i j r w hgr hi hj (by omega) (by omega)
              have HRW := Lib.hid (rowP_no (n := N) hst)
              have hNr2 : (r : Int) < (N : Int) := by omega
              clear hgr hst
              go_wp2_with fail
              refine (cg _).mono ?_
              rintro e w5 ⟨rfl, b5⟩
              have HO := Lib.hid ((HO.out.later b5).later ((Below.refl _ _).alloc (Nat.le_refl _) (.cells #[.int .i64 (i : Int), .int .i64 (j : Int), .int .i64 (r : Int)] 88)))
              clear b5 cg
              go_wp2
              go_roundw
              case rel => exact ⟨j + 1, m, c, a, by omega, by go_num, rfl, Lib.hid (by rw [HRW.out]; exact HO.out)⟩
              case measure => simp [intOf]; omega
          · have HO := Lib.hid (show One w w.heap.size wr 88 3 a m c (entsC (piecesN s t N (i + 1))) by rw [piecesN_next, rowP_rest hj (by omega)]; exact HO.out)
            have z2 : (t.size : Int) - (N : Int) < (j : Int) := by omega
            go_wp2
            go_roundw
            case rel => exact ⟨i + 1, m, c, a, by omega, by go_num, rfl, HO⟩
            case measure => simp [intOf]; omega
      · have HE := Lib.hid (piecesN_rest (s := s) (t := t) (n := N) hi (by omega))
        have z1 : (s.size : Int) - (N : Int) < (i : Int) := by omega
        go_wp2
        go_ret
        exact ⟨_, _, _, rfl, by rw [HR.out, HE.out]; exact HO.out⟩

theorem longL_nonneg7 {l : List En} {x y z : Int} (h : longL (0, 0, 0) l = (x, y, z)) : 0 ≤ z := by
  have h1 := (longL_ge (0, 0, 0) l).1
  rw [h] at h1
  exact h1
/-- What the longest one becomes by one more. -/
theorem longL_more {l : List En} {x y z : Int} {p : En} (h : longL (0, 0, 0) l = (x, y, z)) : longL (0, 0, 0) (l ++ [p]) = if z < p.2.2 then p else (x, y, z) := by
  rw [longL_snoc, h]


end Go.Proofs.Ytbnagmjhdnnheaa

namespace Go.Proofs.Ytbnagmjhdnnheaa
open Go.RowKit

set_option maxHeartbeats 8000000 in
theorem implWithF_any (W : World) (B : Nat) (L : List Fd) (P : List En) (d : Int) (a : Option Addr) (n c : Nat) (b : Option Addr) (m f : Nat) (w : World) (hO : One W B w 101 4 a n c (fdsC L)) (hm : m = P.length) (hB : Beside w b (entsC P) (.slice a n c)) (h9 : n + m ≤ 1099511627776) :
    Calls Try.prog 79 #[.slice a n c, .int .i64 d, .slice b m f] w fun e w' => ∃ a' n' c', e = .returned (.slice a' n' c') ∧ One W B w' 101 4 a' n' c' (fdsC (L ++ P.map fun p => (d, p))) := by
  have HM := Lib.hid hm
  have HO := Lib.hid hO
  have HB := Lib.hid hB
  have HNL := Lib.hid (fds_len hO.own)
  clear hm hO hB
  go_enter Try.func79, Try.ntmps79
  go_wp2
  go_loopw [0, 11] (fun u k_ wr => ∃ (k m' c' : Nat) (a' : Option Addr), k ≤ m ∧ k_ = .int .i64 (k : Int) ∧ u = .slice a' m' c' ∧ Hid (One W B wr 101 4 a' m' c' (fdsC (L ++ (P.take k).map fun p => (d, p)))) ∧ Hid (Beside wr b (entsC P) (.slice a' m' c'))) (fun _ k_ _ => m - (intOf k_).toNat)
  case atStart => exact ⟨0, n, c, a, Nat.zero_le _, rfl, rfl, Lib.hid (by rw [List.take_zero, List.map_nil, List.append_nil]; exact HO.out), HB⟩
  case round =>
    clear HO HB
    obtain ⟨k, m', c', a', hk, rfl, rfl, HO, HB⟩ := hrel
    by_cases hlk : k < m
    · have hkl : k < P.length := by have := HM.out; omega
      obtain ⟨x, hx⟩ : ∃ x, P[k].1 = x := ⟨_, rfl⟩
      obtain ⟨y, hy⟩ : ∃ x, P[k].2.1 = x := ⟨_, rfl⟩
      obtain ⟨z, hz⟩ : ∃ x, P[k].2.2 = x := ⟨_, rfl⟩
      have hmm : P[k] = (x, y, z) := by rw [← hx, ← hy, ← hz]
      obtain ⟨b2, o2, rfl, hb92, q1, q2, q3⟩ := ent_cells HB.out.at_ hkl hmm
      have u1 : (k : Int) < (m : Int) := by omega
      have u0 : (0 : Int) ≤ (k : Int) := by omega
      have HNX := Lib.hid (show fdsC (L ++ (P.take (k + 1)).map fun p => (d, p)) = fdsC (L ++ (P.take k).map fun p => (d, p)) ++ [.int .i64 d, .int .i64 x, .int .i64 y, .int .i64 z] by
        rw [List.take_succ_eq_append_getElem hkl, List.map_append, hmm, ← List.append_assoc]
        exact fdsC_snoc _ (d, x, y, z))
      have hm9 : m' + 1 ≤ 1099511627777 := by
        have h1 := fds_len HO.out.own
        rw [List.length_append, List.length_map, List.length_take] at h1
        have := HNL.out
        omega
      have ha := (Below.refl wr.heap.size wr).alloc (Nat.le_refl _) (.cells #[.int .i64 x, .int .i64 y, .int .i64 z] 88)
      have HO5 := Lib.hid (HO.out.later ha)
      have HB5 := Lib.hid (show Beside (wr.alloc (.cells #[.int .i64 x, .int .i64 y, .int .i64 z] 88)) (some ⟨b2, o2, none⟩) (entsC P) (.slice a' m' c') from ⟨HB.out.at_.below ha, HB.out.apart⟩)
      have hsz : (wr.alloc (.cells #[.int .i64 x, .int .i64 y, .int .i64 z] 88)).heap.size = wr.heap.size + 1 := by simp
      clear hx hy hz hmm ha HO HB
      go_wp2_with (at_builtin; refine wpList_append_apart rfl (.tmp 15) (.tmp 19) 59 rfl Try.ulF8 Try.infoF8 rfl (by decide) HO5.out rfl #[.int .i64 d, .int .i64 x, .int .i64 y, .int .i64 z] (by first | rfl | (rw [hsz]; rfl)) rfl (by simp [Value.oneCell']) (by unfold maxLen; omega) (by omega) ?_; intro a6 c6 w6 o6 g6 s6)
      have HB6 := Lib.hid (HB5.out.grow g6 s6)
      clear g6 s6
      go_roundw
      case rel => exact ⟨k + 1, m' + 1, c6, a6, by omega, by go_num, rfl, Lib.hid (by rw [HNX.out]; exact o6), HB6⟩
      case measure => simp [intOf]; omega
    · have u1 : ¬ (k : Int) < (m : Int) := by omega
      have HO3 := Lib.hid (show One W B wr 101 4 a' m' c' (fdsC (L ++ P.map fun p => (d, p))) by
        have h := HO.out
        rw [List.take_of_length_le (by have := HM.out; omega)] at h
        exact h)
      clear HO HB
      go_wp2
      go_ret
      exact ⟨_, _, _, rfl, HO3.out⟩

set_option maxHeartbeats 8000000 in
theorem implAskAll_any (D : List ByteArray) (s : ByteArray) (n : Int) (a : Option Addr) (nD c : Nat) (R : List Fd) (w : World) (hR : askAllL D s n = R) (hn : nD = D.length) (hn9 : nD ≤ 1048576) (hT : totalS D ≤ 1048576) (hs : s.size ≤ 1048576) (hv9 : n ≤ 9223372036854775807) (hat : CellsAt w a (strsC D)) :
    Calls Try.prog 51 #[.slice a nD c, .string s, .int .i64 n] w fun e w' => ∃ a' n' c', e = .returned (.slice a' n' c') ∧ One w w.heap.size w' 101 4 a' n' c' (fdsC R) := by
  subst hR
  have HN := Lib.hid hn
  have HAT := Lib.hid hat
  clear hn hat
  go_enter Try.func51, Try.ntmps51
  go_wp2
  go_loopw [7, 11] (fun u i_ wr => ∃ (i m d : Nat) (a' : Option Addr), i ≤ nD ∧ i_ = .int .i64 (i : Int) ∧ u = .slice a' m d ∧ Hid (One w w.heap.size wr 101 4 a' m d (fdsC (byDocs (fun i => piecesT (docAt D i) s n) i)))) (fun _ i_ _ => nD - (intOf i_).toNat)
  case atStart => exact ⟨0, _, _, _, Nat.zero_le _, rfl, rfl, Lib.hid (One.nil w 101 4)⟩
  case round =>
    obtain ⟨i, m, d, a', hi, rfl, rfl, HO⟩ := hrel
    by_cases hlt : i < nD
    · have hil : i < D.length := by have := HN.out; omega
      obtain ⟨b, o, rfl, hb9, hc⟩ := (HAT.out.below HO.out.below).str (fun e => by rw [e] at hil; simp at hil)
      obtain ⟨t, ht⟩ : ∃ s, D[i] = s := ⟨_, rfl⟩
      have e1 := hc i hil
      rw [ht] at e1
      have hsz : t.size ≤ 1048576 := by have h1 := totalS_get D i hil; rw [ht] at h1; omega
      have z1 : (i : Int) < (nD : Int) := by omega
      have z0 : (0 : Int) ≤ (i : Int) := by omega
      obtain ⟨L, hL⟩ : ∃ L, piecesT t s n = L := ⟨_, rfl⟩
      have c1 := fun w => implPieces_any t s n L w hL hv9 hsz hs
      have HF := Lib.hid (show (fun i => piecesT (docAt D i) s n) i = L by simp only [docAt_get hil, ht, hL])
      have HRM := Lib.hid (askAll_room (D := D) (s := s) n hT hs (m := i + 1) (by omega))
      clear hc ht hL
      go_wp2_with fail
      refine (c1 _).mono ?_
      rintro e w2 ⟨a2, n2, d2, rfl, o2⟩
      have hB := show Beside w2 a2 (entsC L) (.slice a' m d) from ⟨o2.at_, fun hne b o hb hk => by
        obtain ⟨b1, o1, h1, _, _⟩ := o2.at_.spot hne
        have h2 := HO.out.block_lt b hk
        have h3 := (o2.own.lt b (by rw [hb]; rfl)).1
        omega⟩
      have c2 := implWithF_any w w.heap.size (byDocs (fun i => piecesT (docAt D i) s n) i) L (i : Int) a' m d a2 n2 d2 w2 (HO.out.later o2.below) (ents_len7 o2.own) hB (by
        have h1 := HRM.out
        rw [byDocs_next, List.length_append, List.length_map, HF.out] at h1
        have h2 := ents_len7 o2.own
        have h3 := fds_len HO.out.own
        omega)
      clear o2 c1 hB
      go_wp2_with fail
      refine c2.mono ?_
      rintro e w3 ⟨a3, n3, d3, rfl, o3⟩
      have HO3 := Lib.hid (show One w w.heap.size w3 101 4 a3 n3 d3 (fdsC (byDocs (fun i => piecesT (docAt D i) s n) (i + 1))) by
        rw [byDocs_next, HF.out]
        exact o3)
      clear o3 c2 HO
      go_wp2
      go_roundw
      case rel => exact ⟨i + 1, n3, d3, a3, by omega, by go_num, rfl, HO3⟩
      case measure => simp [intOf]; omega
    · have z1 : ¬ (i : Int) < (nD : Int) := by omega
      have hin : i = D.length := by have := HN.out; omega
      have HE := Lib.hid hin
      clear hin
      go_wp2
      go_ret
      exact ⟨_, _, _, rfl, by have h := HO.out; rw [HE.out] at h; exact h⟩

end Go.Proofs.Ytbnagmjhdnnheaa

namespace Go.Proofs.Ytbnagmjhdnnheaa
open Go.RowKit

theorem implLess_any (a b c d e f : Int) (w : World) :
    Calls Try.prog 85 #[.agg #[.int .i64 a, .int .i64 b, .int .i64 c], .agg #[.int .i64 d, .int .i64 e, .int .i64 f]] w fun r w' => r = .returned (.bool (decide (enLt (a, b, c) (d, e, f)))) ∧ Below w.heap.size w w' := by
  by_cases h1 : a = d
  · subst h1
    have t1 : (a == a) = true := beq_self_eq_true _
    have t1' : (a != a) = false := by rw [bne, t1]; rfl
    by_cases h2 : b = e
    · subst h2
      have t2 : (b == b) = true := beq_self_eq_true _
      have t2' : (b != b) = false := by rw [bne, t2]; rfl
      have HD := Lib.hid (show decide (enLt (a, b, c) (a, b, f)) = decide (c < f) from decide_eq_decide.2 (by rw [enLt_iff]; constructor <;> omega))
      go_enter Try.func85, Try.ntmps85
      go_wp2
      go_ret
      exact ⟨by rw [HD.out]; rfl, below_alloc2 _ _ _⟩
    · have t2 : (b == e) = false := by simpa using h2
      have t2' : (b != e) = true := by rw [bne, t2]; rfl
      have HD := Lib.hid (show decide (enLt (a, b, c) (a, e, f)) = decide (b < e) from decide_eq_decide.2 (by rw [enLt_iff]; constructor <;> omega))
      clear h2
      go_enter Try.func85, Try.ntmps85
      go_wp2
      go_ret
      exact ⟨by rw [HD.out]; rfl, below_alloc2 _ _ _⟩
  · have t1 : (a == d) = false := by simpa using h1
    have t1' : (a != d) = true := by rw [bne, t1]; rfl
    have HD := Lib.hid (show decide (enLt (a, b, c) (d, e, f)) = decide (a < d) from decide_eq_decide.2 (by rw [enLt_iff]; constructor <;> omega))
    clear h1
    go_enter Try.func85, Try.ntmps85
    go_wp2
    go_ret
    exact ⟨by rw [HD.out]; rfl, below_alloc2 _ _ _⟩

theorem implLess_is (r : Bool) (a b c d e f : Int) (w : World) (h : r = true ↔ enLt (a, b, c) (d, e, f)) :
    Calls Try.prog 85 #[.agg #[.int .i64 a, .int .i64 b, .int .i64 c], .agg #[.int .i64 d, .int .i64 e, .int .i64 f]] w fun x w' => x = .returned (.bool r) ∧ Below w.heap.size w w' := by
  have e1 : decide (enLt (a, b, c) (d, e, f)) = r := by rw [Bool.eq_iff_iff, decide_eq_true_iff]; exact h.symm
  rw [← e1]
  exact implLess_any a b c d e f w

theorem implIsEntry_is (r : Bool) (x y z : Int) (w : World) (h : r = true ↔ enOk (x, y, z)) :
    Calls Try.prog 84 #[.agg #[.int .i64 x, .int .i64 y, .int .i64 z]] w fun e w' => e = .returned (.bool r) ∧ Below w.heap.size w w' := by
  have h1 : r = true ↔ 0 ≤ x ∧ x < 1000003 ∧ 0 ≤ y ∧ 0 ≤ z := h
  clear h
  by_cases hx : 0 ≤ x ∧ x < 1000003
  · have c1 := fun w => implIsPrint_is true x w (decide_eq_true hx)
    by_cases hy : 0 ≤ y
    · have t2 : decide (0 ≤ y) = true := decide_eq_true hy
      by_cases hz : 0 ≤ z
      · have t3 : decide (0 ≤ z) = true := decide_eq_true hz
        obtain rfl : r = true := h1.2 ⟨hx.1, hx.2, hy, hz⟩
        clear h1 hx
        go_enter Try.func84, Try.ntmps84
        go_wp2_with fail
        refine (c1 _).mono ?_
        rintro e w2 ⟨rfl, rfl⟩
        go_wp2
        go_ret
        exact ⟨rfl, (Below.refl _ _).alloc (Nat.le_refl _) _⟩
      · have t3 : decide (0 ≤ z) = false := decide_eq_false hz
        obtain rfl : r = false := by rw [Bool.eq_false_iff]; intro e; exact hz (h1.1 e).2.2.2
        clear h1 hx
        go_enter Try.func84, Try.ntmps84
        go_wp2_with fail
        refine (c1 _).mono ?_
        rintro e w2 ⟨rfl, rfl⟩
        go_wp2
        go_ret
        exact ⟨rfl, (Below.refl _ _).alloc (Nat.le_refl _) _⟩
    · have t2 : decide (0 ≤ y) = false := decide_eq_false hy
      obtain rfl : r = false := by rw [Bool.eq_false_iff]; intro e; exact hy (h1.1 e).2.2.1
      clear h1 hx
      go_enter Try.func84, Try.ntmps84
      go_wp2_with fail
      refine (c1 _).mono ?_
      rintro e w2 ⟨rfl, rfl⟩
      go_wp2
      go_ret
      exact ⟨rfl, (Below.refl _ _).alloc (Nat.le_refl _) _⟩
  · have c1 := fun w => implIsPrint_is false x w (decide_eq_false hx)
    obtain rfl : r = false := by rw [Bool.eq_false_iff]; intro e; exact hx ⟨(h1.1 e).1, (h1.1 e).2.1⟩
    clear h1 hx
    go_enter Try.func84, Try.ntmps84
    go_wp2_with fail
    refine (c1 _).mono ?_
    rintro e w2 ⟨rfl, rfl⟩
    go_wp2
    go_ret
    exact ⟨rfl, (Below.refl _ _).alloc (Nat.le_refl _) _⟩

set_option maxHeartbeats 4000000 in
theorem implShelfOk_is (r : Bool) (l : List En) (a : Option Addr) (n c : Nat) (w : World) (hr : r = true ↔ shOk l) (hn : n = l.length) (hl : n ≤ 4194304) (hat : CellsAt w a (entsC l)) :
    Calls Try.prog 54 #[.slice a n c] w fun e w' => e = .returned (.bool r) ∧ Below w.heap.size w w' := by
  have HN := Lib.hid hn
  have HRr := Lib.hid hr
  have HAT := Lib.hid hat
  clear hn hr hat
  go_enter Try.func54, Try.ntmps54
  go_wp2
  go_loopw [6] (fun i_ wr => ∃ k : Nat, k ≤ n ∧ i_ = .int .i64 k ∧ Hid (okTo l k) ∧ Below w.heap.size w wr) (fun i_ _ => n - (intOf i_).toNat)
  case atStart => exact ⟨0, Nat.zero_le _, rfl, Lib.hid (okTo_zero l), Below.refl _ _⟩
  case round =>
    obtain ⟨k, hk, rfl, HK, B⟩ := hrel
    by_cases hlt : k < n
    · have hkl : k < l.length := by have := HN.out; omega
      obtain ⟨x, hx⟩ : ∃ x, l[k].1 = x := ⟨_, rfl⟩
      obtain ⟨y, hy⟩ : ∃ y, l[k].2.1 = y := ⟨_, rfl⟩
      obtain ⟨z, hz⟩ : ∃ z, l[k].2.2 = z := ⟨_, rfl⟩
      have hm : l[k] = (x, y, z) := by rw [← hx, ← hy, ← hz]
      obtain ⟨b, o, rfl, hb9, g1, g2, g3⟩ := ent_cells (HAT.out.below B) hkl hm
      have HM := Lib.hid hm
      have z1 : (k : Int) < (n : Int) := by omega
      have z0 : (0 : Int) ≤ (k : Int) := by omega
      clear hx hy hz hm
      have hbad : (¬ (enOk (x, y, z) ∧ (0 < k → enLt (l[k - 1]'(by omega)) (x, y, z)))) → r = false := fun h => by
        rw [Bool.eq_false_iff]
        intro e
        refine shOk_not hkl (fun h2 => h ?_) (HRr.out.1 e)
        rw [HM.out] at h2
        exact h2
      by_cases hok : enOk (x, y, z)
      · have c0 := fun w => implIsEntry_is true x y z w ⟨fun _ => hok, fun _ => rfl⟩
        by_cases hk0 : k = 0
        · have HN2 := Lib.hid (okTo_next HK.out hkl (by rw [HM.out]; exact hok) (fun h => absurd h (by omega)))
          have t0 : decide ((0 : Int) < (k : Int)) = false := decide_eq_false (by omega)
          have t0' : decide (0 < k) = false := decide_eq_false (by omega)
          clear hbad hok hk0
          go_wp2_with fail
          refine (c0 _).mono ?_
          rintro e w2 ⟨rfl, hb2⟩
          have B2 : Below w.heap.size w w2 := B.trans (hb2.mono B.size)
          clear hb2 c0
          go_wp2
          go_quiet (fail)
          go_wp2
          go_roundw
          case rel => exact ⟨k + 1, by omega, by go_num, HN2, below_drewN' B2 _⟩
          case measure => simp [intOf]; omega
        · obtain ⟨p, rfl⟩ : ∃ p, k = p + 1 := ⟨k - 1, by omega⟩
          have hpl : p < l.length := by omega
          obtain ⟨x', hx'⟩ : ∃ x', l[p].1 = x' := ⟨_, rfl⟩
          obtain ⟨y', hy'⟩ : ∃ y', l[p].2.1 = y' := ⟨_, rfl⟩
          obtain ⟨z', hz'⟩ : ∃ z', l[p].2.2 = z' := ⟨_, rfl⟩
          have hmp : l[p] = (x', y', z') := by rw [← hx', ← hy', ← hz']
          have hlp : l[p + 1 - 1]'(by omega) = (x', y', z') := hmp
          obtain ⟨b', o', hbo, _, g4, g5, g6⟩ := ent_cells (HAT.out.below B) hpl hmp
          obtain ⟨rfl, rfl⟩ := (by simpa using hbo : b = b' ∧ o = o')
          have e1 : IntKind.i64.wrap ((p : Int) + 1 - 1) = (p : Int) := by rw [IntWalk.i64_in _ (by omega)]; omega
          have e2 : IntKind.i64.wrap (p : Int) = (p : Int) := IntWalk.i64_in _ (by omega)
          have e3 : IntKind.i64.wrap (((p + 1 : Nat) : Int) - 1) = (p : Int) := by rw [IntWalk.i64_in _ (by omega)]; omega
          have y5 : (0 : Int) ≤ (p : Int) := by omega
          have y6 : (p : Int) < (n : Int) := by omega
          have y7 : (0 : Int) < (p : Int) + 1 := by omega
          have y8 : (p : Int) + 1 < (n : Int) := by omega
          have y9 : (0 : Int) ≤ (p : Int) + 1 := by omega
          have y10 : ((p : Int) + 1).toNat = p + 1 := by omega
          rw [hlp] at hbad
          have HKS := Lib.hid (show ∀ w', Below wr.heap.size wr w' → w'.cell? ⟨b, o + p * 3, none⟩ = some (.int .i64 x') ∧ w'.cell? ⟨b, o + p * 3 + 1, none⟩ = some (.int .i64 y') ∧ w'.cell? ⟨b, o + p * 3 + 2, none⟩ = some (.int .i64 z') ∧ w'.cell? ⟨b, o + (p + 1) * 3, none⟩ = some (.int .i64 x) ∧ w'.cell? ⟨b, o + (p + 1) * 3 + 1, none⟩ = some (.int .i64 y) ∧ w'.cell? ⟨b, o + (p + 1) * 3 + 2, none⟩ = some (.int .i64 z) from fun w' h =>
            ⟨below_ents h hb9 g4, below_ents h hb9 g5, below_ents h hb9 g6, below_ents h hb9 g1, below_ents h hb9 g2, below_ents h hb9 g3⟩)
          by_cases hless : enLt (x', y', z') (x, y, z)
          · have HN2 := Lib.hid (okTo_next HK.out hkl (by rw [HM.out]; exact hok) (fun h => by rw [hlp, HM.out]; exact hless))
            have c1 := fun w => implLess_is true x' y' z' x y z w ⟨fun _ => hless, fun _ => rfl⟩
            clear hbad hok hk0 hx' hy' hz' hmp hlp hbo hless g4 g5 g6
            go_wp2_with fail
            refine (c0 _).mono ?_
            rintro e w2 ⟨rfl, hb2⟩
            have B2 : Below w.heap.size w w2 := B.trans (hb2.mono B.size)
            have HK2 := Lib.hid (show ∀ w', Below w2.heap.size w2 w' → w'.cell? ⟨b, o + p * 3, none⟩ = some (.int .i64 x') ∧ w'.cell? ⟨b, o + p * 3 + 1, none⟩ = some (.int .i64 y') ∧ w'.cell? ⟨b, o + p * 3 + 2, none⟩ = some (.int .i64 z') ∧ w'.cell? ⟨b, o + (p + 1) * 3, none⟩ = some (.int .i64 x) ∧ w'.cell? ⟨b, o + (p + 1) * 3 + 1, none⟩ = some (.int .i64 y) ∧ w'.cell? ⟨b, o + (p + 1) * 3 + 2, none⟩ = some (.int .i64 z) from fun w' h => HKS.out w' (hb2.trans (h.mono hb2.size)))
            obtain ⟨g4, g5, g6, k1, k2, k3⟩ := HK2.out w2 (Below.refl _ _)
            clear hb2 c0 HKS g1 g2 g3
            go_wp2
            go_region_held3 (fun w' => w'.cell? ⟨b, o + p * 3, none⟩ = some (.int .i64 x') ∧ w'.cell? ⟨b, o + p * 3 + 1, none⟩ = some (.int .i64 y') ∧ w'.cell? ⟨b, o + p * 3 + 2, none⟩ = some (.int .i64 z') ∧ w'.cell? ⟨b, o + (p + 1) * 3, none⟩ = some (.int .i64 x) ∧ w'.cell? ⟨b, o + (p + 1) * 3 + 1, none⟩ = some (.int .i64 y) ∧ w'.cell? ⟨b, o + (p + 1) * 3 + 2, none⟩ = some (.int .i64 z)) (first | go_keep | exact HK2.out _ (Below.trans (by repeat (first | exact Below.refl _ _ | refine Below.drew ?_ | refine below_drewN' ?_ _)) (hb5.mono (by simp))))
              ((go_at_call 85; refine (c1 _).mono ?_; rintro e w5 ⟨rfl, hb5⟩))
            go_wp2
            go_roundw
            case rel => exact ⟨p + 1 + 1, by omega, by go_num, HN2, B2.trans ((Below.trans (by repeat (first | exact Below.refl _ _ | refine Below.drew ?_ | refine below_drewN' ?_ _)) (hb5.mono (by simp))).mono B2.size)⟩
            case measure => simp [intOf]; omega
          · have hf : r = false := hbad (fun h => hless (h.2 (by omega)))
            subst hf
            have c1 := fun w => implLess_is false x' y' z' x y z w ⟨(fun h => absurd h (by decide)), (fun h => absurd h hless)⟩
            clear hbad hok hk0 hx' hy' hz' hmp hlp hbo hless g4 g5 g6
            go_wp2_with fail
            refine (c0 _).mono ?_
            rintro e w2 ⟨rfl, hb2⟩
            have B2 : Below w.heap.size w w2 := B.trans (hb2.mono B.size)
            have HK2 := Lib.hid (show ∀ w', Below w2.heap.size w2 w' → w'.cell? ⟨b, o + p * 3, none⟩ = some (.int .i64 x') ∧ w'.cell? ⟨b, o + p * 3 + 1, none⟩ = some (.int .i64 y') ∧ w'.cell? ⟨b, o + p * 3 + 2, none⟩ = some (.int .i64 z') ∧ w'.cell? ⟨b, o + (p + 1) * 3, none⟩ = some (.int .i64 x) ∧ w'.cell? ⟨b, o + (p + 1) * 3 + 1, none⟩ = some (.int .i64 y) ∧ w'.cell? ⟨b, o + (p + 1) * 3 + 2, none⟩ = some (.int .i64 z) from fun w' h => HKS.out w' (hb2.trans (h.mono hb2.size)))
            obtain ⟨g4, g5, g6, k1, k2, k3⟩ := HK2.out w2 (Below.refl _ _)
            clear hb2 c0 HKS g1 g2 g3
            go_wp2
            go_region_held3 (fun w' => w'.cell? ⟨b, o + p * 3, none⟩ = some (.int .i64 x') ∧ w'.cell? ⟨b, o + p * 3 + 1, none⟩ = some (.int .i64 y') ∧ w'.cell? ⟨b, o + p * 3 + 2, none⟩ = some (.int .i64 z') ∧ w'.cell? ⟨b, o + (p + 1) * 3, none⟩ = some (.int .i64 x) ∧ w'.cell? ⟨b, o + (p + 1) * 3 + 1, none⟩ = some (.int .i64 y) ∧ w'.cell? ⟨b, o + (p + 1) * 3 + 2, none⟩ = some (.int .i64 z)) (first | go_keep | exact HK2.out _ (Below.trans (by repeat (first | exact Below.refl _ _ | refine Below.drew ?_ | refine below_drewN' ?_ _)) (hb5.mono (by simp))))
              ((go_at_call 85; refine (c1 _).mono ?_; rintro e w5 ⟨rfl, hb5⟩))
            go_wp2
            go_ret
            exact ⟨rfl, B2.trans ((Below.trans (by repeat (first | exact Below.refl _ _ | refine Below.drew ?_ | refine below_drewN' ?_ _)) (hb5.mono (by simp))).mono B2.size)⟩
      · have hf : r = false := hbad (fun h => hok h.1)
        subst hf
        have c0 := fun w => implIsEntry_is false x y z w ⟨(fun h => absurd h (by decide)), (fun h => absurd h hok)⟩
        clear hbad hok
        go_wp2_with fail
        refine (c0 _).mono ?_
        rintro e w2 ⟨rfl, hb2⟩
        have B2 : Below w.heap.size w w2 := B.trans (hb2.mono B.size)
        clear hb2 c0
        go_wp2
        go_ret
        exact ⟨rfl, B2⟩
    · have ht : r = true := HRr.out.2 (shOk_of (by have h := HK.out; rwa [show k = l.length by have := HN.out; omega] at h))
      subst ht
      go_wp2
      go_ret
      exact ⟨rfl, B⟩

end Go.Proofs.Ytbnagmjhdnnheaa

namespace Go.Proofs.Ytbnagmjhdnnheaa
open Go.RowKit

theorem Try.elE5 : Try.prog.underlying 24 = some (.slice (Try.prog.elem 24)) := by kernel_rfl
theorem Try.elemE5 : Try.prog.elem 24 = 68 := by kernel_rfl
theorem Try.sizeE5 (w : World) : (sizeOf (Try.prog.elem 24)).run Try.prog w = .ok 3 w := by
  obtain ⟨i, hi, hz, hsi, hby⟩ := info_parts Try.infoE5
  rw [Try.elemE5]
  simp [sizeOf, typeInfo, hi, hsi]

/-- A slice of entries from a place on, and up to one. -/
theorem ents_from (a : Option Addr) (n c i : Nat) (hi : i ≤ n) (hnc : n ≤ c) : ∃ a2 q f, q = n - i ∧ q ≤ f ∧ f ≤ c ∧ (∀ w, (Instr.slice 24 (.slice a n c) (some (.int .i64 i)) none none).run Try.prog w = .ok (.slice a2 q f) w) ∧
    ∀ (w : World) (l : List En), n = l.length → CellsAt w a (entsC l) → CellsAt w a2 (entsC (l.drop i)) := by
  refine ⟨if c = i then a else a.map (·.add (i * 3)), n - i, c - i, rfl, by omega, by omega, fun w => ?_, fun w l hn h => ?_⟩
  · have h := run_slice_l (P := Try.prog) (w := w) 24 a n c Try.elE5 .i64 (i : Int) (by omega) (by omega)
    rw [h, Try.sizeE5]
    simp [Result.andThen, sliced]
  · have h2 := h.from_ n c i 3 (by decide) (by rw [entsC_len, hn]) hnc
    rwa [entsC_drop] at h2
theorem ents_upto (a : Option Addr) (n c i : Nat) (hi : i ≤ c) : ∃ a2, (∀ w, (Instr.slice 24 (.slice a n c) none (some (.int .i64 i)) none).run Try.prog w = .ok (.slice a2 i c) w) ∧
    ∀ (w : World) (l : List En), CellsAt w a (entsC l) → CellsAt w a2 (entsC (l.take i)) := by
  refine ⟨if c = 0 then a else a.map (·.add (0 * 3)), fun w => ?_, fun w l h => ?_⟩
  · have h := run_slice_h (P := Try.prog) (w := w) 24 a n c Try.elE5 .i64 (i : Int) (by omega) (by omega)
    rw [h, Try.sizeE5]
    simp [Result.andThen, sliced]
  · have e : (if c = 0 then a else a.map (·.add (0 * 3))) = a := by
      split
      · rfl
      · cases a with
        | none => rfl
        | some p =>
          simp only [Option.map_some]
          congr 1
    rw [e, ← entsC_take]
    exact h.upTo (i * 3)

set_option maxRecDepth 4000 in
set_option maxHeartbeats 8000000 in
theorem implJoinE_any (A B : List En) (a b : Option Addr) (n c m d : Nat) (R : List En) (w : World) (hn : n = A.length) (hm : m = B.length) (hn9 : n ≤ 4194304) (hm9 : m ≤ 4194304) (hnc : n ≤ c) (hmd : m ≤ d)
    (hA : A.Pairwise enLt) (hB : B.Pairwise enLt) (hR : rowE (A ++ B) = R) (hatA : CellsAt w a (entsC A)) (hatB : CellsAt w b (entsC B)) :
    Calls Try.prog 98 #[.slice a n c, .slice b m d] w fun e w' => ∃ a' n' c', e = .returned (.slice a' n' c') ∧ One w w.heap.size w' 68 3 a' n' c' (entsC R) := by
  have HR := Lib.hid hR
  have HN := Lib.hid hn
  have HM := Lib.hid hm
  have HA := Lib.hid hatA
  have HB := Lib.hid hatB
  have HUA := Lib.hid hA
  have HUB := Lib.hid hB
  have hone0 : One w w.heap.size w 68 3 none 0 0 (entsC []) := One.nil w 68 3
  clear hn hm hatA hatB hA hB hR
  go_enter Try.func98, Try.ntmps98
  go_wp2
  go_loopw [5, 6, 7] (fun o_ i_ k_ wr => ∃ (i k : Nat) (S : List En), i ≤ n ∧ k ≤ m ∧ i_ = .int .i64 i ∧ k_ = .int .i64 k ∧ ∃ a' n' c', o_ = .slice a' n' c' ∧ n' ≤ i + k ∧ Hid (GM enLt A B i k S) ∧ One w w.heap.size wr 68 3 a' n' c' (entsC S)) (fun _ i_ k_ _ => n + m - ((intOf i_).toNat + (intOf k_).toNat))
  case atStart => exact ⟨0, 0, [], Nat.zero_le _, Nat.zero_le _, rfl, rfl, _, _, _, rfl, Nat.zero_le _, Lib.hid (gm_start enLt A B), hone0⟩
  case round =>
    clear hone0
    obtain ⟨i, k, S, hi, hk, rfl, rfl, a', n', c', rfl, hn', HS, hone⟩ := hrel
    by_cases hik : i < n ∧ k < m
    · obtain ⟨hin, hkm⟩ := hik
      have hiA : i < A.length := by have := HN.out; omega
      have hkB : k < B.length := by have := HM.out; omega
      obtain ⟨x, hx⟩ : ∃ x, A[i].1 = x := ⟨_, rfl⟩
      obtain ⟨y, hy⟩ : ∃ y, A[i].2.1 = y := ⟨_, rfl⟩
      obtain ⟨z, hz⟩ : ∃ z, A[i].2.2 = z := ⟨_, rfl⟩
      have hma : A[i] = (x, y, z) := by rw [← hx, ← hy, ← hz]
      obtain ⟨ab, ao, rfl, hab, g1, g2, g3⟩ := ent_cells (HA.out.below hone.below) hiA hma
      have HMA := Lib.hid hma
      have z1 : (i : Int) < (n : Int) := by omega
      have z2 : (0 : Int) ≤ (i : Int) := by omega
      clear hx hy hz hma
      obtain ⟨x', hx⟩ : ∃ x, B[k].1 = x := ⟨_, rfl⟩
      obtain ⟨y', hy⟩ : ∃ y, B[k].2.1 = y := ⟨_, rfl⟩
      obtain ⟨z', hz⟩ : ∃ z, B[k].2.2 = z := ⟨_, rfl⟩
      have hmb : B[k] = (x', y', z') := by rw [← hx, ← hy, ← hz]
      obtain ⟨bb, bo, rfl, hbb, g4, g5, g6⟩ := ent_cells (HB.out.below hone.below) hkB hmb
      have HKS := Lib.hid (show ∀ w', Below wr.heap.size wr w' → w'.cell? ⟨ab, ao + i * 3, none⟩ = some (.int .i64 x) ∧ w'.cell? ⟨ab, ao + i * 3 + 1, none⟩ = some (.int .i64 y) ∧ w'.cell? ⟨ab, ao + i * 3 + 2, none⟩ = some (.int .i64 z) ∧ w'.cell? ⟨bb, bo + k * 3, none⟩ = some (.int .i64 x') ∧ w'.cell? ⟨bb, bo + k * 3 + 1, none⟩ = some (.int .i64 y') ∧ w'.cell? ⟨bb, bo + k * 3 + 2, none⟩ = some (.int .i64 z') from fun w' h => ⟨below_ents h hab g1, below_ents h hab g2, below_ents h hab g3, below_ents h hbb g4, below_ents h hbb g5, below_ents h hbb g6⟩)
      have z3 : (k : Int) < (m : Int) := by omega
      have z4 : (0 : Int) ≤ (k : Int) := by omega
      have t5 : decide (i < n) = true := decide_eq_true hin
      have t6 : decide ((i : Int) < (n : Int)) = true := decide_eq_true (by omega)
      have t7 : decide (k < m) = true := decide_eq_true hkm
      have t8 : decide ((k : Int) < (m : Int)) = true := decide_eq_true (by omega)
      have HMB := Lib.hid hmb
      clear hx hy hz hmb
      by_cases hlt : enLt (x', y', z') (x, y, z)
      · have c4 := fun w => implLess_is true x' y' z' x y z w ⟨fun _ => hlt, fun _ => rfl⟩
        have HS2 := Lib.hid (GM.takeB (r := enLt) (fun _ _ _ => enLt_trans) HS.out HUB.out hkB (fun h => by rw [HMA.out, HMB.out]; exact hlt))
        have HE := Lib.hid (show entsC (S ++ [B[k]]) = entsC S ++ [.int .i64 x', .int .i64 y', .int .i64 z'] by rw [HMB.out, entsC_snoc])
        clear hlt HS
        go_wp2
        go_region_held3 (fun w' => w'.cell? ⟨ab, ao + i * 3, none⟩ = some (.int .i64 x) ∧ w'.cell? ⟨ab, ao + i * 3 + 1, none⟩ = some (.int .i64 y) ∧ w'.cell? ⟨ab, ao + i * 3 + 2, none⟩ = some (.int .i64 z) ∧ w'.cell? ⟨bb, bo + k * 3, none⟩ = some (.int .i64 x') ∧ w'.cell? ⟨bb, bo + k * 3 + 1, none⟩ = some (.int .i64 y') ∧ w'.cell? ⟨bb, bo + k * 3 + 2, none⟩ = some (.int .i64 z')) (first | go_keep | exact HKS.out _ (Below.trans (by repeat (first | exact Below.refl _ _ | refine Below.drew ?_ | refine below_drewN' ?_ _)) (hb6.mono (by simp))))
          ((go_at_call 85; refine (c4 _).mono ?_; rintro e w6 ⟨rfl, hb6⟩))
        go_wp2_with (at_builtin; refine wpList_append_row rfl (.tmp 27) (.tmp 32) 24 rfl Try.ulE5 Try.infoE5 rfl (by decide) (hone.later (Below.trans (by repeat (first | exact Below.refl _ _ | refine Below.drew ?_ | refine below_drewN' ?_ _)) (hb6.mono (by simp)))) rfl #[.int .i64 x', .int .i64 y', .int .i64 z'] rfl rfl (by simp [Value.oneCell']) (by unfold maxLen; omega) (by omega) ?_; intro a7 c7 w7 h7)
        go_roundw
        case rel => exact ⟨i, k + 1, S ++ [B[k]], hi, by omega, rfl, by go_num, a7, n' + 1, c7, rfl, by omega, HS2, by rw [HE.out]; exact h7⟩
        case measure => simp [intOf]; omega
      · have c4 := fun w => implLess_is false x' y' z' x y z w ⟨(fun h => absurd h (by decide)), (fun h => absurd h hlt)⟩
        have HE := Lib.hid (show entsC (S ++ [A[i]]) = entsC S ++ [.int .i64 x, .int .i64 y, .int .i64 z] by rw [HMA.out, entsC_snoc])
        by_cases he : (x, y, z) = (x', y', z')
        · have HS2 := Lib.hid (GM.both (r := enLt) (fun _ _ _ => enLt_trans) HS.out HUA.out HUB.out hiA hkB (by rw [HMA.out, HMB.out]; exact he))
          simp only [Prod.mk.injEq] at he
          obtain ⟨rfl, rfl, rfl⟩ := he
          have tx : (x == x) = true := beq_self_eq_true _
          have ty : (y == y) = true := beq_self_eq_true _
          have tz : (z == z) = true := beq_self_eq_true _
          clear hlt HS HMA HMB
          go_wp2
          go_region_held3 (fun w' => w'.cell? ⟨ab, ao + i * 3, none⟩ = some (.int .i64 x) ∧ w'.cell? ⟨ab, ao + i * 3 + 1, none⟩ = some (.int .i64 y) ∧ w'.cell? ⟨ab, ao + i * 3 + 2, none⟩ = some (.int .i64 z) ∧ w'.cell? ⟨bb, bo + k * 3, none⟩ = some (.int .i64 x) ∧ w'.cell? ⟨bb, bo + k * 3 + 1, none⟩ = some (.int .i64 y) ∧ w'.cell? ⟨bb, bo + k * 3 + 2, none⟩ = some (.int .i64 z)) (first | go_keep | exact HKS.out _ (Below.trans (by repeat (first | exact Below.refl _ _ | refine Below.drew ?_ | refine below_drewN' ?_ _)) (hb6.mono (by simp))))
            ((go_at_call 85; refine (c4 _).mono ?_; rintro e w6 ⟨rfl, hb6⟩))
          have W6 : Below wr.heap.size wr w6 := Below.trans (by repeat (first | exact Below.refl _ _ | refine Below.drew ?_ | refine below_drewN' ?_ _)) (hb6.mono (by simp))
          obtain ⟨g1, g2, g3, g4, g5, g6⟩ := HKS.out w6 W6
          have hone6 := hone.later W6
          clear hb6 W6 HKS c4 hone
          go_wp2
          go_quiet (fail)
          go_wp2_with (at_builtin; refine wpList_append_row rfl (.tmp 47) (.tmp 52) 24 rfl Try.ulE5 Try.infoE5 rfl (by decide) (hone6.drewN _) rfl #[.int .i64 x, .int .i64 y, .int .i64 z] rfl rfl (by simp [Value.oneCell']) (by unfold maxLen; omega) (by omega) ?_; intro a7 c7 w7 h7)
          go_roundw
          case rel => exact ⟨i + 1, k + 1, S ++ [A[i]], by omega, by omega, by go_num, by go_num, a7, n' + 1, c7, rfl, by omega, HS2, by rw [HE.out]; exact h7⟩
          case measure => simp [intOf]; omega
        · have HS2 := Lib.hid (GM.takeA (r := enLt) (fun _ _ _ => enLt_trans) HS.out HUA.out hiA (fun h => by
            rw [HMA.out, HMB.out]
            rcases enLt_three (x, y, z) (x', y', z') with h | h | h
            · exact h
            · exact absurd h he
            · exact absurd h hlt))
          have hcase : (x == x') = false ∨ (x == x') = true ∧ ((y == y') = false ∨ (y == y') = true ∧ (z == z') = false) := by
            by_cases h1 : x = x'
            · by_cases h2 : y = y'
              · by_cases h3 : z = z'
                · exact absurd (by rw [h1, h2, h3]) he
                · exact .inr ⟨by simpa using h1, .inr ⟨by simpa using h2, by simpa using h3⟩⟩
              · exact .inr ⟨by simpa using h1, .inl (by simpa using h2)⟩
            · exact .inl (by simpa using h1)
          clear hlt HS he
          go_wp2
          go_region_held3 (fun w' => w'.cell? ⟨ab, ao + i * 3, none⟩ = some (.int .i64 x) ∧ w'.cell? ⟨ab, ao + i * 3 + 1, none⟩ = some (.int .i64 y) ∧ w'.cell? ⟨ab, ao + i * 3 + 2, none⟩ = some (.int .i64 z) ∧ w'.cell? ⟨bb, bo + k * 3, none⟩ = some (.int .i64 x') ∧ w'.cell? ⟨bb, bo + k * 3 + 1, none⟩ = some (.int .i64 y') ∧ w'.cell? ⟨bb, bo + k * 3 + 2, none⟩ = some (.int .i64 z')) (first | go_keep | exact HKS.out _ (Below.trans (by repeat (first | exact Below.refl _ _ | refine Below.drew ?_ | refine below_drewN' ?_ _)) (hb6.mono (by simp))))
            ((go_at_call 85; refine (c4 _).mono ?_; rintro e w6 ⟨rfl, hb6⟩))
          have W6 : Below wr.heap.size wr w6 := Below.trans (by repeat (first | exact Below.refl _ _ | refine Below.drew ?_ | refine below_drewN' ?_ _)) (hb6.mono (by simp))
          obtain ⟨g1, g2, g3, g4, g5, g6⟩ := HKS.out w6 W6
          have hone6 := hone.later W6
          clear hb6 W6 HKS c4 hone
          rcases hcase with t1 | ⟨t1, t2 | ⟨t2, t3⟩⟩
          all_goals (
            go_wp2
            go_quiet (fail)
            go_wp2_with (at_builtin; refine wpList_append_row rfl (.tmp 47) (.tmp 52) 24 rfl Try.ulE5 Try.infoE5 rfl (by decide) (hone6.drewN _) rfl #[.int .i64 x, .int .i64 y, .int .i64 z] rfl rfl (by simp [Value.oneCell']) (by unfold maxLen; omega) (by omega) ?_; intro a7 c7 w7 h7)
            go_roundw
            case rel => exact ⟨i + 1, k, S ++ [A[i]], by omega, hk, by go_num, rfl, a7, n' + 1, c7, rfl, by omega, HS2, by rw [HE.out]; exact h7⟩
            case measure => simp [intOf]; omega)
    · have HD := Lib.hid (HR.out.symm.trans (gmE_done HS.out HUA.out HUB.out (by have := HN.out; have := HM.out; omega)))
      obtain ⟨a2, q, f, hq, hqf, hfc, sl1, hc2⟩ := ents_from a n c i hi hnc
      obtain ⟨b2, q', f', hq', hqf', hfc', sl2, hd2⟩ := ents_from b m d k hk hmd
      have HC2 := Lib.hid (hc2 wr A HN.out (HA.out.below hone.below))
      have HD2 := Lib.hid (fun w' (h : Below w.heap.size w w') => hd2 w' B HM.out (HB.out.below h))
      have HL1 := Lib.hid (show (entsC (A.drop i)).length = q * 3 by rw [entsC_len, List.length_drop, hq, HN.out])
      have HL2 := Lib.hid (show (entsC (B.drop k)).length = q' * 3 by rw [entsC_len, List.length_drop, hq', HM.out])
      have q9 : q ≤ 4194304 := by omega
      have q9' : q' ≤ 4194304 := by omega
      have n9 : n' ≤ 8388608 := by omega
      have hcond : (decide (i < n) = true ∧ decide ((i : Int) < (n : Int)) = true ∧ decide (k < m) = false ∧ decide ((k : Int) < (m : Int)) = false) ∨ (decide (i < n) = false ∧ decide ((i : Int) < (n : Int)) = false) := by
        by_cases h : i < n
        · exact .inl ⟨decide_eq_true h, decide_eq_true (by omega), decide_eq_false (fun h2 => hik ⟨h, h2⟩), decide_eq_false (fun h2 => hik ⟨h, by omega⟩)⟩
        · exact .inr ⟨decide_eq_false h, decide_eq_false (by omega)⟩
      clear hik hc2 hd2 hq hq' hfc hfc' HS hn'
      rcases hcond with ⟨t1, t2, t3, t4⟩ | ⟨t1, t2⟩
      all_goals (
        go_wp2_with (at_builtin; first
          | (refine wpList_append_src rfl (.tmp 56) (.tmp 59) 24 rfl Try.ulE5 Try.infoE5 rfl (by decide) hone rfl a2 q f rfl (entsC (A.drop i)) HL1.out HC2.out (entsC_one _) (by unfold maxLen; omega) (by omega) ?_; intro a5 c5 w5 h5)
          | (refine wpList_append_src rfl (.tmp 61) (.tmp 64) 24 rfl Try.ulE5 Try.infoE5 rfl (by decide) h5 rfl b2 q' f' rfl (entsC (B.drop k)) HL2.out (HD2.out _ h5.below) (entsC_one _) (by unfold maxLen; omega) (by omega) ?_; intro a6 c6 w6 h6))
        go_ret
        exact ⟨_, _, _, rfl, by rw [HD.out, entsC_append, entsC_append]; exact h6⟩)

theorem implSorted_short (l : List En) (a : Option Addr) (n c : Nat) (w : World) (h2 : n < 2) (hn : n = l.length) (hat : CellsAt w a (entsC l)) :
    Calls Try.prog 75 #[.slice a n c] w fun e w' => ∃ a' n' c', e = .returned (.slice a' n' c') ∧ One w w.heap.size w' 68 3 a' n' c' (entsC (rowE l)) := by
  have HR := Lib.hid (rowE_short (l := l) (by omega))
  have HL := Lib.hid (show (entsC l).length = n * 3 by rw [entsC_len, hn])
  have HAT := Lib.hid hat
  have z1 : (n : Int) < 2 := by omega
  clear hn hat
  go_enter Try.func75, Try.ntmps75
  go_wp2_with (at_builtin; refine wpList_append_src rfl (.tmp 9) (.tmp 10) 24 rfl Try.ulE5 Try.infoE5 rfl (by decide) (One.empty w 68 3) rfl a n c rfl (entsC l) HL.out (HAT.out.allocW _) (entsC_one _) (by unfold maxLen; omega) (by omega) ?_; intro a5 c5 w5 h5)
  go_ret
  exact ⟨_, _, _, rfl, by rw [HR.out]; simpa using h5⟩

theorem implSorted_any (N : Nat) : ∀ (l : List En) (a : Option Addr) (n c : Nat) (w : World), n ≤ N → n = l.length → n ≤ 4194304 → n ≤ c → CellsAt w a (entsC l) →
    Calls Try.prog 75 #[.slice a n c] w fun e w' => ∃ a' n' c', e = .returned (.slice a' n' c') ∧ One w w.heap.size w' 68 3 a' n' c' (entsC (rowE l)) := by
  induction N with
  | zero => exact fun l a n c w hN hn _ _ hat => implSorted_short l a n c w (by omega) hn hat
  | succ N ih =>
    intro l a n c w hN hn hn9 hnc hat
    by_cases h2 : n < 2
    · exact implSorted_short l a n c w h2 hn hat
    obtain ⟨h, hh⟩ : ∃ h, n / 2 = h := ⟨_, rfl⟩
    have em : ((n : Nat) : Int).tdiv 2 = (h : Int) := by
      have e := Int.ofNat_tdiv n 2
      rw [hh] at e
      rw [e]; simp
    have b1 : 1 ≤ h := by omega
    have b2 : h < n := by omega
    obtain ⟨a1, sl1, hc1⟩ := ents_upto a n c h (by omega)
    obtain ⟨a2, q, f, hq, hqf, hfc, sl2, hc2⟩ := ents_from a n c h (by omega) hnc
    have c1 := ih (l.take h) a1 h c w (by omega) (by rw [List.length_take]; omega) (by omega) (by omega) (hc1 w l hat)
    have c2 := fun w' (hb : Below w.heap.size w w') => ih (l.drop h) a2 q f w' (by omega) (by rw [List.length_drop, hq, hn]) (by omega) hqf (hc2 w' l hn (hat.below hb))
    have HR := Lib.hid (rowE_halves l h)
    have HU1 := Lib.hid (rowE_is (l.take h)).up
    have HU2 := Lib.hid (rowE_is (l.drop h)).up
    have HL1 := Lib.hid (show (rowE (l.take h)).length ≤ 4194304 by have e := rowE_len (l.take h); rw [List.length_take] at e; omega)
    have HL2 := Lib.hid (show (rowE (l.drop h)).length ≤ 4194304 by have e := rowE_len (l.drop h); rw [List.length_drop] at e; omega)
    have z1 : ¬ (n : Int) < 2 := by omega
    have z2 : (2 : Int) ≤ (n : Int) := by omega
    clear ih hat hn hh hc1 hc2 hq hN hfc
    obtain ⟨L1, hL1⟩ : ∃ L, rowE (l.take h) = L := ⟨_, rfl⟩
    obtain ⟨L2, hL2⟩ : ∃ L, rowE (l.drop h) = L := ⟨_, rfl⟩
    rw [hL1] at c1 HU1 HL1
    rw [hL2] at c2 HU2 HL2
    rw [hL1, hL2] at HR
    clear hL1 hL2
    go_enter Try.func75, Try.ntmps75
    go_wp2_with fail
    refine c1.mono ?_
    rintro e w2 ⟨ga, na, ca, rfl, o1⟩
    have d2 := c2 w2 o1.below
    clear c1 c2
    go_wp2_with fail
    refine d2.mono ?_
    rintro e w3 ⟨gb, nb, cb, rfl, o2⟩
    have e1 := ents_len o1.own
    have e2 := ents_len o2.own
    have k1 := o1.cap.1
    have k2 := o2.cap.1
    have c3 := implJoinE_any L1 L2 ga gb na ca nb cb (rowE l) w3 e1 e2 (by have := HL1.out; omega) (by have := HL2.out; omega) k1 k2 HU1.out HU2.out HR.out (o1.later o2.below).at_ o2.at_
    have HB := Lib.hid (show Below w.heap.size w w3 from o1.below.trans (o2.below.mono o1.below.size))
    clear d2 e1 e2 k1 k2 o1 o2
    go_wp2_with fail
    refine c3.mono ?_
    rintro e w4 ⟨gc, nc, cc, rfl, o3⟩
    go_wp2
    go_ret
    exact ⟨_, _, _, rfl, o3.under HB.out HB.out.size⟩


end Go.Proofs.Ytbnagmjhdnnheaa
