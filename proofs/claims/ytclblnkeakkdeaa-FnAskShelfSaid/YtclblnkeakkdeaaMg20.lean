/-
  The contracts of the program's functions placesBelow, withPlace and ChosenOf. Condition: rows have at most 2^22 numbers.
-/
import Derived.Test.YtclblnkeakkdeaaMg18
import Derived.Test.YtclblnkeakkdeaaMg19
namespace Go.Proofs.Ytclblnkeakkdeaa
open Go.RowKit

theorem natC_cell {w : World} {b o : Nat} {P : List Nat} (hc : ∀ j v, (natC P)[j]? = some v → w.cell? ⟨b, o + j, none⟩ = some v) (p : Nat) (hp : p < P.length) : w.cell? ⟨b, o + p, none⟩ = some (.int .i64 (P.getD p 0 : Nat)) := by
  apply hc
  simp [natC, intCells, List.getD_eq_getElem?_getD, hp]

set_option maxHeartbeats 1000000 in
theorem implBelow_any (L : List Int) (P : List Nat) (a : Option Addr) (n c : Nat) (aL : Option Addr) (nL cL : Nat) (x : Int) (w : World) (hn : n = P.length) (hl : n ≤ 4194304) (hnc : n ≤ c) (hnL : nL = L.length) (hP : ∀ i, i < P.length → P.getD i 0 < nL)
    (hat : CellsAt w a (natC P)) (hatL : CellsAt w aL (intCells L)) :
    Calls Try.prog 117 #[.slice a n c, .slice aL nL cL, .int .i64 x] w fun e w' => e = .returned (.slice a (cutN L x P n) c) ∧ w' = w := by
  go_enter Try.func117, Try.ntmps117
  have HN := Lib.hid hn
  have HL := Lib.hid hnL
  have HP := Lib.hid hP
  have HC := Lib.hid hat
  have HCL := Lib.hid hatL
  clear hn hnL hP hat hatL
  go_wp2
  go_loopw [7] (fun l_ wr => ∃ m : Nat, m ≤ n ∧ l_ = .int .i64 m ∧ Hid (cutN L x P m = cutN L x P n) ∧ Hid (wr = w)) (fun l_ _ => (intOf l_).toNat)
  case atStart => exact ⟨n, Nat.le_refl _, rfl, Lib.hid rfl, Lib.hid rfl⟩
  case round =>
    obtain ⟨m, hm, rfl, HM, HW⟩ := hrel
    by_cases h0 : m = 0
    · subst h0
      go_wp2
      go_ret
      exact ⟨by rw [← HM.out]; rfl, HW.out⟩
    · obtain ⟨p, rfl⟩ : ∃ p, m = p + 1 := ⟨m - 1, by omega⟩
      have hpP : p < P.length := by have := HN.out; omega
      obtain ⟨b, o, rfl, _, hc⟩ := HC.out.spot (fun e => by have := congrArg List.length e; simp [natC, intCells] at this; rw [this] at hpP; simp at hpP)
      have hy9 := HP.out p hpP
      have g1 := natC_cell hc p hpP
      have hLne : intCells L ≠ [] := fun e => by have h1 := congrArg List.length e; have h2 := HL.out; simp [intCells] at h1; rw [h1] at h2; simp at h2; omega
      obtain ⟨bL, oL, rfl, _, hcL⟩ := HCL.out.spot hLne
      have g2 : w.cell? ⟨bL, oL + P.getD p 0, none⟩ = some (.int .i64 (L.getD (P.getD p 0) 0)) := cells_int _ _ rfl (by have := HL.out; have := HP.out p hpP; omega) hcL
      obtain ⟨z, hz⟩ : ∃ z, L.getD (P.getD p 0) 0 = z := ⟨_, rfl⟩
      have hcut : (x ≤ z → cutN L x P (p + 1) = cutN L x P p) ∧ (¬ x ≤ z → cutN L x P (p + 1) = p + 1) := ⟨fun h => cutN_step (by rw [hz]; exact h), fun h => cutN_stop (by rw [hz]; exact h)⟩
      rw [hz] at g2
      obtain ⟨y, hy⟩ : ∃ y, P.getD p 0 = y := ⟨_, rfl⟩
      rw [hy] at g1 g2 hy9
      have z0 : (0 : Int) ≤ p := by omega
      have z1 : (p : Int) < n := by omega
      have z2 : (y : Int) < nL := by omega
      clear hz hy hc hcL hLne
      obtain rfl := HW.out
      by_cases hxz : x ≤ z
      · have HS := Lib.hid (hcut.1 hxz)
        clear hcut
        go_wp2
        go_roundw
        case rel => exact ⟨p, by omega, by go_num, Lib.hid (by rw [← HM.out, HS.out]), Lib.hid (by trivial)⟩
        case measure => simp [intOf]
      · have HS := Lib.hid (hcut.2 hxz)
        clear hcut
        go_wp2
        go_ret
        exact ⟨by rw [← HM.out, HS.out]; rfl, rfl⟩

/-- The places with one more behind them, unless it is the last already. -/
def putLast (P : List Nat) (x : Nat) : List Nat := if P.getLast? = some x then P else P ++ [x]
theorem putLast_same {P : List Nat} {x : Nat} (h : P.getLast? = some x) : putLast P x = P := by rw [putLast, if_pos h]
theorem putLast_new {P : List Nat} {x : Nat} (h : ¬ P.getLast? = some x) : natC (putLast P x) = natC P ++ [.int .i64 x] := by
  rw [putLast, if_neg h, natC, List.map_append, intCells_append]; rfl
theorem chN_put (L : List Int) (w k : Nat) : chN L w (k + 1) = putLast (chN L w k) (leastTo L k w) := by rw [chN]; rfl

set_option maxHeartbeats 1000000 in
theorem implWith_any (P : List Nat) (a : Option Addr) (n c x B : Nat) (w : World) (hl : n ≤ 4194304) (hown : w.ownsRow B 3 1 (.slice a n c) n (natC P)) (hB : B ≤ w.heap.size) :
    Calls Try.prog 118 #[.slice a n c, .int .i64 x] w fun e w' => ∃ a' n' c', e = .returned (.slice a' n' c') ∧ w'.ownsRow B 3 1 (.slice a' n' c') n' (natC (putLast P x)) ∧
      w.grownBy w' (Value.ownBlock (.slice a n c)) ∧ Stayed w (.slice a n c) (.slice a' n' c') := by
  have hlen : P.length = n := by
    have h := hown.1
    simp only [natC, intCells, List.length_map] at h
    omega
  by_cases hn0 : n = 0
  · subst hn0
    have hnil : P = [] := List.length_eq_zero_iff.1 hlen
    have HS := Lib.hid (putLast_new (P := P) (x := x) (by rw [hnil]; simp))
    clear hnil hlen
    go_enter Try.func118, Try.ntmps118
    go_wp2_with (at_builtin; refine wpList_append_own1 rfl (.tmp 19) (.tmp 21) 33 rfl Try.ulI3 Try.infoI3 rfl (by decide) hown hB rfl #[.int .i64 x] rfl rfl (by simp [Value.oneCell']) (by unfold maxLen; omega) (by omega) ?_; intro a5 c5 w5 h5 h6 h7)
    go_ret
    exact ⟨a5, 1, c5, rfl, by rw [HS.out]; exact h5, h6, h7⟩
  · obtain ⟨p, rfl⟩ : ∃ p, n = p + 1 := ⟨n - 1, by omega⟩
    obtain ⟨g, rfl⟩ := own_addr hown (by omega)
    have hpP : p < P.length := by omega
    have hcell : w.cell? ⟨g, p, none⟩ = some (.int .i64 (P.getD p 0 : Nat)) := by
      rw [hown.cellAt p (by omega)]
      simp [natC, intCells, List.getD_eq_getElem?_getD, hpP]
    have hlast : P.getLast? = some (P.getD p 0) := by
      rw [List.getLast?_eq_getElem?, show P.length - 1 = p by omega, List.getD_eq_getElem?_getD, List.getElem?_eq_getElem hpP]
      simp
    obtain ⟨y, hy⟩ : ∃ y, P.getD p 0 = y := ⟨_, rfl⟩
    rw [hy] at hcell hlast
    have z0 : (0 : Int) ≤ p := by omega
    have z1 : (p : Int) < (p : Int) + 1 := by omega
    clear hy hpP hlen
    by_cases hxy : y = x
    · have t1 : ((y : Int) == (x : Int)) = true := by rw [hxy]; exact beq_self_eq_true _
      have HS := Lib.hid (putLast_same (P := P) (x := x) (by rw [hlast, hxy]))
      clear hxy hlast
      go_enter Try.func118, Try.ntmps118
      go_wp2
      go_ret
      exact ⟨_, _, _, rfl, by rw [HS.out]; exact hown, World.grownBy.refl _ _, .inl rfl⟩
    · have t1 : ((y : Int) == (x : Int)) = false := by simp; omega
      have HS := Lib.hid (putLast_new (P := P) (x := x) (by rw [hlast]; simpa using hxy))
      clear hxy hlast
      go_enter Try.func118, Try.ntmps118
      go_wp2_with (at_builtin; refine wpList_append_own1 rfl (.tmp 19) (.tmp 21) 33 rfl Try.ulI3 Try.infoI3 rfl (by decide) hown hB rfl #[.int .i64 x] rfl rfl (by simp [Value.oneCell']) (by unfold maxLen; omega) (by omega) ?_; intro a5 c5 w5 h5 h6 h7)
      go_ret
      exact ⟨a5, p + 1 + 1, c5, rfl, by rw [HS.out]; exact h5, h6, h7⟩

/-- Where ChosenOf stands behind so many numbers. -/
structure Watch (w wr : World) (L : List Int) (v k : Nat) (P : List Nat) (a : Option Addr) (n c : Nat) (a' : Option Addr) (n' c' : Nat) : Prop where
  q : IsQ L v k P
  seg : Seg wr w.heap.size 3 a n c (natC P)
  one : One w w.heap.size wr 3 1 a' n' c' (natC (chN L v (k + 1 - v)))
  part : Parted (.slice a n c) (.slice a' n' c')

theorem ownBlock_len (a : Option Addr) (n m c c' : Nat) : Value.ownBlock (.slice a n c) = Value.ownBlock (.slice a m c') := by cases a <;> rfl

theorem Watch.start (w : World) (L : List Int) (v : Nat) (hv : 0 < v) : Watch w w L v 0 [] none 0 0 none 0 0 :=
  ⟨IsQ.nil L v, Seg.nil _ _ _, by rw [show 0 + 1 - v = 0 by omega]; exact One.nil w _ 1, fun k h => by simp [Value.ownBlock] at h⟩

theorem One.far {W : World} {B : Nat} {w w' : World} {e : TypeId} {s : Nat} {a : Option Addr} {n c : Nat} {xs : List Value} {row : Option Nat} (h : One W B w e s a n c xs) (hg : w.grownBy w' row) (hr : ∀ k, row = some k → B ≤ k) (hne : ∀ k, row = some k → Value.ownBlock (.slice a n c) ≠ some k) : One W B w' e s a n c xs := by
  refine ⟨h.own.kept hg ?_, Nat.le_trans h.base hg.size, h.below.grown hg h.base hr⟩
  cases hv : Value.ownBlock (.slice a n c) with
  | none => exact .inl rfl
  | some k => exact .inr (fun e => hne k e.symm hv)

/-- The next place is put behind those that are left. -/
theorem Watch.push {w wr w5 : World} {L : List Int} {v k : Nat} {P : List Nat} {a : Option Addr} {n c : Nat} {a' : Option Addr} {n' c' m : Nat} {a5 : Option Addr} {c5 : Nat} (h : Watch w wr L v k P a n c a' n' c') (hm : m = cutN L (L.getD k 0) P n)
    (hseg : Seg w5 w.heap.size 3 a5 (m + 1) c5 (natC (P.take m) ++ [.int .i64 k])) (hg : wr.grownBy w5 (Value.ownBlock (.slice a m c))) (hst : Stayed wr (.slice a m c) (.slice a5 (m + 1) c5)) :
    ∃ g o, a5 = some ⟨g, o, none⟩ ∧ w5.cell? ⟨g, o, none⟩ = some (.int .i64 ((pushQ L k P).getD 0 0 : Nat)) ∧ Seg w5 w.heap.size 3 (some ⟨g, o, none⟩) (m + 1) c5 (natC (pushQ L k P)) ∧ m + 1 = (pushQ L k P).length ∧
      One w w.heap.size w5 3 1 a' n' c' (natC (chN L v (k + 1 - v))) ∧ Parted (.slice (some ⟨g, o, none⟩) (m + 1) c5) (.slice a' n' c') := by
  have hn : n = P.length := by
    have := h.seg.len
    simp only [natC, intCells, List.length_map] at this
    exact this.symm
  have hp : natC (P.take m) ++ [.int .i64 (k : Nat)] = natC (pushQ L k P) := by
    rw [pushQ, hm, hn]
    simp [natC, intCells]
  rw [hp] at hseg
  have hl : m + 1 = (pushQ L k P).length := by rw [pushQ_len, hm, hn]
  obtain ⟨g, o, rfl, _, hc⟩ := hseg.at_.spot (fun e => by have := congrArg List.length e; simp [natC, intCells] at this; rw [this] at hl; simp at hl)
  rw [ownBlock_len a m n c c] at hg
  have hB : ∀ j, Value.ownBlock (.slice a n c) = some j → w.heap.size ≤ j ∧ j < wr.heap.size := fun j hj => h.seg.lt j hj
  refine ⟨g, o, rfl, natC_cell hc 0 (by omega), hseg, hl, h.one.far hg (fun j hj => (hB j hj).1) (fun j hj => h.part j hj), ?_⟩
  have hpa : Parted (.slice a' n' c') (.slice a m c) := fun j hj e => h.part j (by rw [ownBlock_len a n m c c]; exact e) hj
  exact (hpa.stayed (w := wr) (fun j hj => (h.one.own.lt j hj).2) hst).symm

/-- The first of them is left out. -/
theorem seg_leave {w5 : World} {B g o n c : Nat} {e : TypeId} {R : List Nat} (h : Seg w5 B e (some ⟨g, o, none⟩) n c (natC R)) (h2 : 2 ≤ R.length) :
    Seg w5 B e (some ⟨g, o + 1, none⟩) (n - 1) (c - 1) (natC (R.drop 1)) ∧ w5.cell? ⟨g, o + 1, none⟩ = some (.int .i64 ((R.drop 1).getD 0 0 : Nat)) ∧ n = R.length := by
  have hn : n = R.length := by
    have := h.len
    simp only [natC, intCells, List.length_map] at this
    exact this.symm
  have h3 := h.next (by omega)
  have e : (natC R).drop 1 = natC (R.drop 1) := by simp [natC, intCells]
  rw [e] at h3
  obtain ⟨g', o', ha, _, hc⟩ := h3.at_.spot (fun e => by have := congrArg List.length e; simp [natC, intCells] at this; omega)
  obtain ⟨rfl, rfl⟩ := (by simpa using ha : g = g' ∧ o + 1 = o')
  exact ⟨h3, natC_cell hc 0 (by rw [List.length_drop]; omega), hn⟩

/-- A place is chosen. -/
theorem Watch.emit {w w5 w6 : World} {L : List Int} {v k : Nat} {R : List Nat} {a : Option Addr} {n c : Nat} {a' : Option Addr} {n' c' : Nat} {a6 : Option Addr} {n6 c6 : Nat} (hQ : IsQ L v (k + 1) R) (hs : Seg w5 w.heap.size 3 a n c (natC R))
    (h1 : One w w.heap.size w5 3 1 a' n' c' (natC (chN L v (k + 1 - v)))) (hp : Parted (.slice a n c) (.slice a' n' c')) (hv : v ≤ k + 1)
    (hown : w6.ownsRow w.heap.size 3 1 (.slice a6 n6 c6) n6 (natC (putLast (chN L v (k + 1 - v)) (leastTo L (k + 1 - v) v)))) (hg : w5.grownBy w6 (Value.ownBlock (.slice a' n' c'))) (hst : Stayed w5 (.slice a' n' c') (.slice a6 n6 c6)) :
    Watch w w6 L v (k + 1) R a n c a6 n6 c6 := by
  refine ⟨hQ, hs.kept hg (fun j hj => hp j hj), ⟨?_, Nat.le_trans h1.base hg.size, below_grown_own h1.below h1.own hg (Nat.le_refl _) h1.base⟩, hp.stayed (w := w5) (fun j hj => (hs.lt j hj).2) hst⟩
  rw [show k + 1 + 1 - v = (k + 1 - v) + 1 by omega, chN_put]
  exact hown

set_option maxHeartbeats 4000000 in
theorem implChosen_any (L : List Int) (a : Option Addr) (n c : Nat) (v : Int) (w : World) (hn : n = L.length) (hl : n ≤ 4194304) (hv9 : v ≤ 9223372036854775807) (hat : CellsAt w a (intCells L)) :
    Calls Try.prog 90 #[.slice a n c, .int .i64 v] w fun e w' => ∃ a' n' c', e = .returned (.slice a' n' c') ∧ One w w.heap.size w' 3 1 a' n' c' (natC (chosenN L v)) := by
  by_cases hv : v < 1
  · rw [chosenN_few (.inl hv)]
    go_enter Try.func90, Try.ntmps90
    go_wp2
    go_ret
    exact ⟨_, _, _, rfl, One.nil _ _ _⟩
  by_cases hvn : (n : Int) < v
  · rw [chosenN_few (.inr (by omega))]
    clear hn
    go_enter Try.func90, Try.ntmps90
    go_wp2
    go_ret
    exact ⟨_, _, _, rfl, One.nil _ _ _⟩
  obtain ⟨v, rfl⟩ : ∃ u : Nat, v = u := ⟨v.toNat, by omega⟩
  have hv1 : 1 ≤ v := by omega
  have hvn2 : v ≤ n := by omega
  have HE := Lib.hid (chosenN_ok (L := L) (w := v) (by omega))
  obtain ⟨b, o, rfl, hb9, hc⟩ := hat.spot (fun e => by have h1 := congrArg List.length e; simp [intCells] at h1; rw [h1] at hn; simp at hn; omega)
  have HC := Lib.hid (show ∀ j, j < L.length → w.cell? ⟨b, o + j, none⟩ = some (.int .i64 (L.getD j 0)) from fun j hj => cells_int j _ rfl hj hc)
  have HN := Lib.hid hn
  have HAT := Lib.hid hat
  clear hv hn hc hat
  go_enter Try.func90, Try.ntmps90
  go_wp2
  go_loopw [5, 6, 18] (fun q_ c_ k_ wr => ∃ k : Nat, k ≤ n ∧ k_ = .int .i64 k ∧ ∃ P aq nq cq a' n' c', q_ = .slice aq nq cq ∧ c_ = .slice a' n' c' ∧ Watch w wr L v k P aq nq cq a' n' c') (fun _ _ k_ _ => n - (intOf k_).toNat)
  case atStart => exact ⟨0, Nat.zero_le _, rfl, _, _, _, _, _, _, _, rfl, rfl, Watch.start w L v (by omega)⟩
  case round =>
    obtain ⟨k, hk, rfl, P, aq, nq, cq, a', n', c', rfl, rfl, hW⟩ := hrel
    by_cases hlt : k < n
    · have hnq : nq = P.length := by
        have := hW.seg.len
        simp only [natC, intCells, List.length_map] at this
        exact this.symm
      have hnq9 : nq ≤ k := by have := hW.q.len; omega
      have hn'9 : n' ≤ k := by
        have h1 := hW.one.own.1
        have h2 := chN_len L v (k + 1 - v)
        simp only [natC, intCells, List.length_map] at h1
        omega
      obtain ⟨x, hx⟩ : ∃ x, L.getD k 0 = x := ⟨_, rfl⟩
      have g1 : wr.cell? ⟨b, o + k, none⟩ = some (.int .i64 x) := by
        have h1 := HC.out k (by have := HN.out; omega)
        rw [hx] at h1
        exact (hW.one.below.cell hb9).trans h1
      have c1 := implBelow_any L P aq nq cq (some ⟨b, o, none⟩) n c x wr hnq (by omega) hW.seg.room HN.out (fun i hi => by have := ((hW.q.mem _).1 (getD_mem hi)).1; omega) hW.seg.at_ (HAT.out.below hW.one.below)
      have hm9 : cutN L x P nq ≤ nq := cutN_le L x P nq
      obtain ⟨m, hm⟩ : ∃ m, cutN L x P nq = m := ⟨_, rfl⟩
      rw [hm] at c1 hm9
      have HM := Lib.hid (show m = cutN L (L.getD k 0) P nq by rw [hx, hm])
      have hseg := hW.seg.take m hm9
      have htk : (natC P).take m = natC (P.take m) := by simp [natC, intCells, List.map_take]
      rw [htk] at hseg
      clear htk hx hm hnq
      have z0 : (0 : Int) ≤ k := by omega
      have z1 : (k : Int) < n := by omega
      by_cases hA : (pushQ L k P).getD 0 0 + v ≤ k
      · obtain ⟨hQ, h2⟩ := hW.q.leave (by omega) hA
        have hF := hQ.first (by omega) (by omega)
        obtain ⟨y, hy⟩ : ∃ y, (pushQ L k P).getD 0 0 = y := ⟨_, rfl⟩
        rw [hy] at hA
        have t1 : (y : Int) ≤ (k : Int) - (v : Int) := by omega
        have t2 : (v : Int) - 1 ≤ (k : Int) := by omega
        clear hA
        obtain ⟨z, hz⟩ : ∃ z, leastTo L (k + 1 - v) v = z := ⟨_, rfl⟩
        have hz9 : z ≤ 4194304 := by have := (leastTo_is L (k + 1 - v) v (by omega)).hi; omega
        have HZ := Lib.hid hz
        have HR := Lib.hid (hF.2.trans hz)
        clear hF hz
        have hF9 : ∀ a5 c5 w5, Seg w5 w.heap.size 3 a5 (m + 1) c5 (natC (P.take m) ++ [.int .i64 k]) → wr.grownBy w5 (Value.ownBlock (.slice aq m cq)) → Stayed wr (.slice aq m cq) (.slice a5 (m + 1) c5) →
            ∃ g o5, a5 = some ⟨g, o5, none⟩ ∧ w5.cell? ⟨g, o5, none⟩ = some (.int .i64 (y : Nat)) ∧ w5.cell? ⟨g, o5 + 1, none⟩ = some (.int .i64 (z : Nat)) ∧ m + 1 ≤ c5 ∧ 1 ≤ m ∧
              Seg w5 w.heap.size 3 (some ⟨g, o5 + 1, none⟩) m (c5 - 1) (natC ((pushQ L k P).drop 1)) ∧ One w w.heap.size w5 3 1 a' n' c' (natC (chN L v (k + 1 - v))) ∧ Parted (.slice (some ⟨g, o5 + 1, none⟩) m (c5 - 1)) (.slice a' n' c') := by
          intro a5 c5 w5 h5 h6 h7
          obtain ⟨g, o5, rfl, r1, r2, r3, r4, r5⟩ := hW.push HM.out h5 h6 h7
          obtain ⟨r6, r7, _⟩ := seg_leave r2 h2
          rw [hy] at r1
          rw [HR.out] at r7
          exact ⟨g, o5, rfl, r1, r7, r2.room, by omega, r6, r4, r5⟩
        have HF9 := Lib.hid hF9
        have HQ := Lib.hid hQ
        clear hF9 hy h2 hQ
        go_wp2_with fail
        refine c1.mono ?_
        rintro e w2 ⟨rfl, rfl⟩
        clear c1
        go_wp2_with (at_builtin; refine wpList_append_seg w.heap.size rfl (.tmp 27) (.tmp 29) 33 rfl Try.ulI3 Try.infoI3 rfl hseg hW.one.base rfl (.int .i64 k) rfl (by simp [Value.oneCell']) (by unfold maxLen; omega) (by omega) ?_; intro a5 c5 w5 h5 h6 h7; obtain ⟨g, o5, rfl, r1, r7, r8, h2', r6, r4, r5⟩ := HF9.out a5 c5 w5 h5 h6 h7; clear h5 h6 h7 HF9 hW hseg)
        clear r7
        refine (implWith_any (chN L v (k + 1 - v)) a' n' c' z w.heap.size w5 (by omega) r4.own r4.base).mono ?_
        rintro e w6 ⟨a6, n6, c6, rfl, q1, q2, q3⟩
        have HF := Lib.hid (Watch.emit HQ.out r6 r4 r5 (by omega) (by rw [HZ.out]; exact q1) q2 q3)
        clear q1 q2 q3 r1 r4 r5 r6
        go_wp2
        go_roundw
        case rel => exact ⟨k + 1, by omega, by go_num, _, _, _, _, _, _, _, rfl, rfl, HF.out⟩
        case measure => simp [intOf]; omega
      · have hQ := hW.q.stay (by omega) (by omega)
        by_cases hB : v ≤ k + 1
        · have hF := hQ.first (by omega) (by omega)
          obtain ⟨z, hz⟩ : ∃ z, leastTo L (k + 1 - v) v = z := ⟨_, rfl⟩
          have hz9 : z ≤ 4194304 := by have := (leastTo_is L (k + 1 - v) v (by omega)).hi; omega
          have hy : (pushQ L k P).getD 0 0 = z := hF.2.trans hz
          rw [hy] at hA
          have t1 : (k : Int) - (v : Int) < (z : Int) := by omega
          have t2 : (v : Int) - 1 ≤ (k : Int) := by omega
          have HZ := Lib.hid hz
          have HQ := Lib.hid hQ
          clear hF hz hA hQ
          have hF9 : ∀ a5 c5 w5, Seg w5 w.heap.size 3 a5 (m + 1) c5 (natC (P.take m) ++ [.int .i64 k]) → wr.grownBy w5 (Value.ownBlock (.slice aq m cq)) → Stayed wr (.slice aq m cq) (.slice a5 (m + 1) c5) →
              ∃ g o5, a5 = some ⟨g, o5, none⟩ ∧ w5.cell? ⟨g, o5, none⟩ = some (.int .i64 (z : Nat)) ∧ Seg w5 w.heap.size 3 (some ⟨g, o5, none⟩) (m + 1) c5 (natC (pushQ L k P)) ∧ One w w.heap.size w5 3 1 a' n' c' (natC (chN L v (k + 1 - v))) ∧ Parted (.slice (some ⟨g, o5, none⟩) (m + 1) c5) (.slice a' n' c') := by
            intro a5 c5 w5 h5 h6 h7
            obtain ⟨g, o5, rfl, r1, r2, r3, r4, r5⟩ := hW.push HM.out h5 h6 h7
            rw [hy] at r1
            exact ⟨g, o5, rfl, r1, r2, r4, r5⟩
          have HF9 := Lib.hid hF9
          clear hF9 hy
          go_wp2_with fail
          refine c1.mono ?_
          rintro e w2 ⟨rfl, rfl⟩
          clear c1
          go_wp2_with (at_builtin; refine wpList_append_seg w.heap.size rfl (.tmp 27) (.tmp 29) 33 rfl Try.ulI3 Try.infoI3 rfl hseg hW.one.base rfl (.int .i64 k) rfl (by simp [Value.oneCell']) (by unfold maxLen; omega) (by omega) ?_; intro a5 c5 w5 h5 h6 h7; obtain ⟨g, o5, rfl, r1, r6, r4, r5⟩ := HF9.out a5 c5 w5 h5 h6 h7; clear h5 h6 h7 HF9 hW hseg)
          refine (implWith_any (chN L v (k + 1 - v)) a' n' c' z w.heap.size w5 (by omega) r4.own r4.base).mono ?_
          rintro e w6 ⟨a6, n6, c6, rfl, q1, q2, q3⟩
          have HF := Lib.hid (Watch.emit HQ.out r6 r4 r5 (by omega) (by rw [HZ.out]; exact q1) q2 q3)
          clear q1 q2 q3 r1 r4 r5 r6
          go_wp2
          go_roundw
          case rel => exact ⟨k + 1, by omega, by go_num, _, _, _, _, _, _, _, rfl, rfl, HF.out⟩
          case measure => simp [intOf]; omega
        · obtain ⟨z, hy⟩ : ∃ z, (pushQ L k P).getD 0 0 = z := ⟨_, rfl⟩
          rw [hy] at hA
          have t1 : (k : Int) - (v : Int) < (z : Int) := by omega
          have t2 : (k : Int) < (v : Int) - 1 := by omega
          have HQ := Lib.hid hQ
          clear hA hQ
          have hF9 : ∀ a5 c5 w5, Seg w5 w.heap.size 3 a5 (m + 1) c5 (natC (P.take m) ++ [.int .i64 k]) → wr.grownBy w5 (Value.ownBlock (.slice aq m cq)) → Stayed wr (.slice aq m cq) (.slice a5 (m + 1) c5) →
              ∃ g o5, a5 = some ⟨g, o5, none⟩ ∧ w5.cell? ⟨g, o5, none⟩ = some (.int .i64 (z : Nat)) ∧ Seg w5 w.heap.size 3 (some ⟨g, o5, none⟩) (m + 1) c5 (natC (pushQ L k P)) ∧ One w w.heap.size w5 3 1 a' n' c' (natC (chN L v (k + 1 - v))) ∧ Parted (.slice (some ⟨g, o5, none⟩) (m + 1) c5) (.slice a' n' c') := by
            intro a5 c5 w5 h5 h6 h7
            obtain ⟨g, o5, rfl, r1, r2, r3, r4, r5⟩ := hW.push HM.out h5 h6 h7
            rw [hy] at r1
            exact ⟨g, o5, rfl, r1, r2, r4, r5⟩
          have HF9 := Lib.hid hF9
          clear hF9 hy
          go_wp2_with fail
          refine c1.mono ?_
          rintro e w2 ⟨rfl, rfl⟩
          clear c1
          go_wp2_with (at_builtin; refine wpList_append_seg w.heap.size rfl (.tmp 27) (.tmp 29) 33 rfl Try.ulI3 Try.infoI3 rfl hseg hW.one.base rfl (.int .i64 k) rfl (by simp [Value.oneCell']) (by unfold maxLen; omega) (by omega) ?_; intro a5 c5 w5 h5 h6 h7; obtain ⟨g, o5, rfl, r1, r6, r4, r5⟩ := HF9.out a5 c5 w5 h5 h6 h7; clear h5 h6 h7 HF9 hW hseg)
          have HF : Hid (Watch w w5 L v (k + 1) (pushQ L k P) (some ⟨g, o5, none⟩) (m + 1) c5 a' n' c') := Lib.hid ⟨HQ.out, r6, by rw [show k + 1 + 1 - v = k + 1 - v by omega]; exact r4, r5⟩
          clear r1 r4 r5 r6
          go_roundw
          case rel => exact ⟨k + 1, by omega, by go_num, _, _, _, _, _, _, _, rfl, rfl, HF.out⟩
          case measure => simp [intOf]; omega
    · have hke : k + 1 - v = L.length + 1 - v := by have := HN.out; omega
      have HO := Lib.hid (show One w w.heap.size wr 3 1 a' n' c' (natC (chosenN L v)) by rw [HE.out, ← hke]; exact hW.one)
      clear hW hke
      go_wp2
      go_ret
      exact ⟨_, _, _, rfl, HO.out⟩

end Go.Proofs.Ytclblnkeakkdeaa
