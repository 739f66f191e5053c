/-
  Plain mathematics of pieces that are grown once for each shift: twins in order, the ends of pieces by shifts; twins by texts. No conditions.
  The contracts of the model's functions of fingerprints: PrintOf, PrintPower, RollPrint, JoinPrint. Condition: texts have at most 2^22 bytes.
-/
import Derived.Test.YtclblnkeakkdeaaMg5
import Derived.Test.YtclblnkeakkdeaaMg6
import Derived.Test.YtclblnkeakkdeaaProg
import Derived.Test.YtclblnkeakkdeaaMg3
import Derived.WalkKit
namespace Go.Proofs.Ytclblnkeakkdeaa

/-- Of twins with one shift those are first that are first in the text. -/
def OrdT (T : List (Int × Int)) : Prop := ∀ i j (hi : i < T.length) (hj : j < T.length), i < j → T[i].1 - T[i].2 = T[j].1 - T[j].2 → T[i].1 ≤ T[j].1
/-- Twins at places. -/
def PosT (T : List (Int × Int)) : Prop := ∀ x ∈ T, 0 ≤ x.1 ∧ x.1 ≤ 9223372036854775807 ∧ 0 ≤ x.2 ∧ x.2 ≤ 9223372036854775807
theorem ordT_of {T : List (Int × Int)} (h : T.Pairwise (fun p q => p.1 - p.2 = q.1 - q.2 → p.1 ≤ q.1)) : OrdT T := fun i j hi hj hij => List.pairwise_iff_getElem.1 h i j hi hj hij

theorem okP_run {s t : ByteArray} {x y k : Int} (hx : 0 ≤ x) (hy : 0 ≤ y) (hk : 1 ≤ k) : okP s t (x, y, k) ↔ k.toNat ≤ runP s t x.toNat y.toNat := by
  rw [okP_iff]
  constructor
  · exact fun h => h.2.2.2.2.2
  · intro h
    have hsm := runP_same s t x.toNat y.toNat 0 (by omega)
    have h1 := hsm.1
    have h2 := hsm.2.1
    have h3 := runP_room s t x.toNat y.toNat (by omega) (by omega)
    exact ⟨hx, hy, hk, by omega, by omega, h⟩
/-- The place behind what grows. -/
theorem growN_end (s t : ByteArray) (i j : Nat) : (growN s t i j).1 + (growN s t i j).2.2 = ((i + runP s t i j : Nat) : Int) := by
  have h1 := backP_le s t i j
  have h2 := runP_back s t i j
  simp only [growN, h2]
  omega
/-- From the places behind it the same one grows. -/
theorem growN_on {s t : ByteArray} {i j d : Nat} (h : d < runP s t i j) : growN s t (i + d) (j + d) = growN s t i j := by
  have h1 := backP_le s t i j
  have h2 := runP_back s t i j
  have h3 := (growN_same (s := s) (t := t) (i := i) (j := j) (k := backP s t i j + d) (by omega)).2
  rwa [show i - backP s t i j + (backP s t i j + d) = i + d by omega, show j - backP s t i j + (backP s t i j + d) = j + d by omega] at h3

/-- So many twins have been seen: what was found, and behind which place there is something new for each shift. -/
structure GrownI (s t : ByteArray) (k n : Int) (T : List (Int × Int)) (q : Nat) (E : Int → Int) (L : List En) : Prop where
  mem : ∀ p, p ∈ L ↔ p ∈ foundTo s t k n (T.take q)
  ends : ∀ d, E d = 0 ∨ ∃ i, ∃ h : i < T.length, i < q ∧ T[i].1 - T[i].2 = d ∧ k.toNat ≤ runP s t T[i].1.toNat T[i].2.toNat ∧ E d = ((T[i].1.toNat + runP s t T[i].1.toNat T[i].2.toNat : Nat) : Int)
  len : L.length ≤ q
  room : ∀ d, 0 ≤ E d ∧ E d ≤ s.size
theorem grown_start (s t : ByteArray) (k n : Int) (T : List (Int × Int)) : GrownI s t k n T 0 (fun _ => 0) [] := ⟨fun p => by simp [foundTo], fun _ => .inl rfl, Nat.le_refl _, fun _ => ⟨Int.le_refl _, by omega⟩⟩
theorem GrownI.wider {s t : ByteArray} {k n : Int} {T : List (Int × Int)} {q : Nat} {E : Int → Int} {L : List En} (h : GrownI s t k n T q E L) (hm : ∀ p, p ∈ foundTo s t k n (T.take (q + 1)) ↔ p ∈ foundTo s t k n (T.take q)) : GrownI s t k n T (q + 1) E L :=
  ⟨fun p => (h.mem p).trans (hm p).symm, fun d => (h.ends d).imp id (fun ⟨i, hi, h1, h2⟩ => ⟨i, hi, by omega, h2⟩), by have := h.len; omega, h.room⟩
/-- A twin within what has grown already: nothing new. -/
theorem GrownI.within {s t : ByteArray} {k n : Int} {T : List (Int × Int)} {q : Nat} {E : Int → Int} {L : List En} (h : GrownI s t k n T q E L) (hO : OrdT T) (hP : PosT T) (hk : 1 ≤ k) (hq : q < T.length) (hin : T[q].1 < E (T[q].1 - T[q].2)) : GrownI s t k n T (q + 1) E L := by
  refine h.wider fun p => ?_
  cases ha : aroundP s t k n T[q].1.toNat T[q].2.toNat with
  | none => rw [foundTo_no hq ha]
  | some r =>
    rw [foundTo_yes hq ha, List.mem_append]
    refine ⟨fun hp => ?_, .inl⟩
    rcases hp with hp | hp
    · exact hp
    · obtain rfl : p = r := by simpa using hp
      have hpq := hP T[q] (List.getElem_mem hq)
      rcases h.ends (T[q].1 - T[q].2) with h0 | ⟨i, hi, h1, h2, h3, h4⟩
      · omega
      · have hpi := hP T[i] (List.getElem_mem hi)
        have ho := hO i q hi hq h1 h2
        rw [h4] at hin
        obtain ⟨a1, a2, a3⟩ := aroundP_some.1 ha
        have g := growN_on (s := s) (t := t) (i := T[i].1.toNat) (j := T[i].2.toNat) (d := T[q].1.toNat - T[i].1.toNat) (by omega)
        rw [show T[i].1.toNat + (T[q].1.toNat - T[i].1.toNat) = T[q].1.toNat by omega, show T[i].2.toNat + (T[q].1.toNat - T[i].1.toNat) = T[q].2.toNat by omega] at g
        rw [foundTo, List.mem_filterMap]
        refine ⟨T[i], ?_, aroundP_some.2 ⟨h3, a2, a3.trans g⟩⟩
        rw [List.mem_take_iff_getElem]
        exact ⟨i, by omega, rfl⟩
/-- A twin whose bytes differ: nothing new. -/
theorem GrownI.lies {s t : ByteArray} {k n : Int} {T : List (Int × Int)} {q : Nat} {E : Int → Int} {L : List En} (h : GrownI s t k n T q E L) (hq : q < T.length) (hno : ¬ k.toNat ≤ runP s t T[q].1.toNat T[q].2.toNat) : GrownI s t k n T (q + 1) E L :=
  h.wider fun p => by rw [foundTo_no hq (by rw [aroundP, if_neg (fun e => hno e.1)])]
/-- A new piece. -/
theorem GrownI.grows {s t : ByteArray} {k n : Int} {T : List (Int × Int)} {q : Nat} {E E' : Int → Int} {L : List En} (h : GrownI s t k n T q E L) (hk : 1 ≤ k) (hq : q < T.length) (hr : k.toNat ≤ runP s t T[q].1.toNat T[q].2.toNat)
    (h1 : E' (T[q].1 - T[q].2) = (growN s t T[q].1.toNat T[q].2.toNat).1 + (growN s t T[q].1.toNat T[q].2.toNat).2.2) (h2 : ∀ d, d ≠ T[q].1 - T[q].2 → E' d = E d) :
    (n ≤ (growN s t T[q].1.toNat T[q].2.toNat).2.2 → GrownI s t k n T (q + 1) E' (L ++ [growN s t T[q].1.toNat T[q].2.toNat])) ∧ (¬ n ≤ (growN s t T[q].1.toNat T[q].2.toNat).2.2 → GrownI s t k n T (q + 1) E' L) := by
  rw [growN_end] at h1
  have he : ∀ d, E' d = 0 ∨ ∃ i, ∃ h : i < T.length, i < q + 1 ∧ T[i].1 - T[i].2 = d ∧ k.toNat ≤ runP s t T[i].1.toNat T[i].2.toNat ∧ E' d = ((T[i].1.toNat + runP s t T[i].1.toNat T[i].2.toNat : Nat) : Int) := by
    intro d
    by_cases hd : d = T[q].1 - T[q].2
    · subst hd
      exact .inr ⟨q, hq, by omega, rfl, hr, h1⟩
    · rw [h2 d hd]
      exact (h.ends d).imp id (fun ⟨i, hi, a, b⟩ => ⟨i, hi, by omega, b⟩)
  have hro : ∀ d, 0 ≤ E' d ∧ E' d ≤ s.size := by
    intro d
    by_cases hd : d = T[q].1 - T[q].2
    · subst hd
      have hsm := runP_same s t T[q].1.toNat T[q].2.toNat 0 (by omega)
      have h3 := hsm.1
      have h4 := hsm.2.1
      have h5 := runP_room s t T[q].1.toNat T[q].2.toNat (by omega) (by omega)
      omega
    · rw [h2 d hd]
      exact h.room d
  have hl := h.len
  constructor
  · intro hn
    have hs := aroundP_some.2 ⟨hr, hn, rfl⟩
    refine ⟨fun p => ?_, he, by rw [List.length_append]; simp; omega, hro⟩
    rw [foundTo_yes hq hs, List.mem_append, List.mem_append, h.mem]
  · intro hn
    refine ⟨fun p => ?_, he, by omega, hro⟩
    rw [foundTo_no hq (by rw [aroundP, if_neg (fun e => hn e.2)]), h.mem]
theorem GrownI.done {s t : ByteArray} {k n : Int} {T : List (Int × Int)} {q : Nat} {E : Int → Int} {L : List En} (h : GrownI s t k n T q E L) (hq : q = T.length) : rowE L = rowE (foundTo s t k n T) := by
  subst hq
  refine rowE_same fun p => ?_
  rw [h.mem, List.take_length]

/-- Twins of marks are in order. -/
theorem mkL_up (s : ByteArray) (k w : Int) : (mkL s k w).Pairwise (fun p q => p.2 ≤ q.2) := by
  rw [mkL, marksL, List.pairwise_map]
  refine List.Pairwise.imp ?_ (chosenN_up _ w)
  intro a b hab
  simp only
  omega
theorem twins_ord (s t : ByteArray) (k w : Int) : OrdT (twinsL (mkL s k w) (mkL t k w)) := by
  refine ordT_of (List.Pairwise.imp (R := fun (p q : Int × Int) => p.1 ≤ q.1) (fun h e => by omega) ?_)
  rw [twinsL]
  have h := mkL_up s k w
  generalize mkL s k w = A at h ⊢
  induction A with
  | nil => exact .nil
  | cons a A ih =>
    rw [List.pairwise_cons] at h
    rw [List.flatMap_cons, List.pairwise_append]
    refine ⟨?_, ih h.2, ?_⟩
    · rw [rowT, List.pairwise_map]
      exact List.pairwise_of_forall (fun _ _ => Int.le_refl _)
    · intro x hx y hy
      obtain ⟨_, _, rfl⟩ := List.mem_map.1 hx
      obtain ⟨b, hb, hy⟩ := List.mem_flatMap.1 hy
      obtain ⟨_, _, rfl⟩ := List.mem_map.1 hy
      exact h.1 b hb
theorem twins_pos {s t : ByteArray} {k w : Int} (hs : s.size ≤ 1048576) (ht : t.size ≤ 1048576) : PosT (twinsL (mkL s k w) (mkL t k w)) := fun x hx => by
  obtain ⟨i, j, K, _, _, rfl, h1, h2, _⟩ := twin_in hx
  simp only
  omega

/-- Twins of a text with a number: its entries with the fingerprint of a mark. -/
def twOf (L : List En) (M : List (Int × Int)) (d : Int) : List (Int × Int) := M.flatMap fun m => ((withP L m.1).filter fun x => x.2.1 == d).map fun x => (x.2.2, m.2)
theorem twOf_mem {L : List En} {M : List (Int × Int)} {d : Int} {z : Int × Int} : z ∈ twOf L M d ↔ ∃ m ∈ M, ∃ x ∈ L, x.1 = m.1 ∧ x.2.1 = d ∧ z = (x.2.2, m.2) := by
  rw [twOf, List.mem_flatMap]
  constructor
  · rintro ⟨m, hm, h⟩
    obtain ⟨x, hx, rfl⟩ := List.mem_map.1 h
    rw [List.mem_filter, withP, List.mem_filter] at hx
    exact ⟨m, hm, x, hx.1.1, by simpa using hx.1.2, by simpa using hx.2, rfl⟩
  · rintro ⟨m, hm, x, hx, h1, h2, rfl⟩
    exact ⟨m, hm, List.mem_map.2 ⟨x, by rw [List.mem_filter, withP, List.mem_filter]; exact ⟨⟨hx, by simpa using h1⟩, by simpa using h2⟩, rfl⟩⟩
theorem twOf_ord (L : List En) (s : ByteArray) (k w : Int) (d : Int) : OrdT (twOf L (mkL s k w) d) := by
  refine ordT_of (List.Pairwise.imp (R := fun (p q : Int × Int) => p.2 ≤ q.2) (fun h e => by omega) ?_)
  rw [twOf]
  have h := mkL_up s k w
  generalize mkL s k w = A at h ⊢
  induction A with
  | nil => exact .nil
  | cons a A ih =>
    rw [List.pairwise_cons] at h
    rw [List.flatMap_cons, List.pairwise_append]
    refine ⟨?_, ih h.2, ?_⟩
    · rw [List.pairwise_map]
      exact List.pairwise_of_forall (fun _ _ => Int.le_refl _)
    · intro x hx y hy
      obtain ⟨_, _, rfl⟩ := List.mem_map.1 hx
      obtain ⟨b, hb, hy⟩ := List.mem_flatMap.1 hy
      obtain ⟨_, _, rfl⟩ := List.mem_map.1 hy
      exact h.1 b hb
theorem twOf_pos {L : List En} (hL : ∀ x ∈ L, enOk x) (hL9 : ∀ x ∈ L, x.2.2 ≤ 9223372036854775807) {s : ByteArray} {k w : Int} (hs : s.size ≤ 1048576) (d : Int) : PosT (twOf L (mkL s k w) d) := fun z hz => by
  obtain ⟨m, hm, x, hx, _, _, rfl⟩ := twOf_mem.1 hz
  have h1 := hL x hx
  have h2 := hL9 x hx
  obtain ⟨i, K, _, _, rfl, h3, _⟩ := mkL_in hm
  unfold enOk at h1
  simp only
  omega
theorem sum_le_of {α : Type} (l : List α) (f : α → Nat) (c : Nat) (h : ∀ x ∈ l, f x ≤ c) : (l.map f).sum ≤ l.length * c := by
  induction l with
  | nil => simp
  | cons x l ih =>
    rw [List.map_cons, List.sum_cons, List.length_cons, Nat.succ_mul]
    have h1 := h x (by simp)
    have h2 := ih (fun y hy => h y (by simp [hy]))
    omega
theorem twOf_len (L : List En) (M : List (Int × Int)) (d : Int) : (twOf L M d).length ≤ M.length * L.length := by
  rw [twOf, List.length_flatMap]
  refine sum_le_of M _ L.length fun m _ => ?_
  rw [List.length_map]
  exact Nat.le_trans (List.length_filter_le _ _) (withP_len L m.1)
/-- What is told of each text, one text behind the other, is what is found by the shelf. -/
theorem ask_byDocs {L : List En} (hL : ∀ x ∈ L, enOk x) (D : List ByteArray) (s : ByteArray) {k : Int} (hk : 1 ≤ k) (w n : Int) : byDocs (fun i => rowE (foundTo (docAt D i) s k n (twOf L (mkL s k w) (i : Int)))) D.length = askR L D s k w n := by
  refine pairwise_unique fdLt_irrefl (fun _ _ => fdLt_asymm) (byDocs_up (fun i => (rowE_is _).up) _) (rowF_is _).up fun f => ?_
  rw [byDocs_mem, askR, rowF_mem, askTo_mem]
  constructor
  · rintro ⟨i, hi, h1, h2⟩
    rw [rowE_mem, foundTo, List.mem_filterMap] at h2
    obtain ⟨z, hz, h2⟩ := h2
    obtain ⟨m, hm, x, hx, h3, h4, rfl⟩ := twOf_mem.1 hz
    refine ⟨m, hm, x, hx, h3, askE_some.2 ⟨by omega, ?_, by rw [h1, h4], by rw [h4, Int.toNat_natCast]; exact h2⟩⟩
    have h5 := (aroundP_some.1 h2).1
    simp only at h5
    have h6 := hL x hx
    unfold enOk at h6
    have hsm := runP_same (docAt D i) s x.2.2.toNat m.2.toNat 0 (by omega)
    have a1 := hsm.1
    have a2 := hsm.2.1
    have a3 := runP_room (docAt D i) s x.2.2.toNat m.2.toNat (by omega) (by omega)
    rw [h4, Int.toNat_natCast]
    omega
  · rintro ⟨m, hm, x, hx, h3, h⟩
    obtain ⟨h1, _, h2, h4⟩ := askE_some.1 h
    have h6 := hL x hx
    unfold enOk at h6
    refine ⟨x.2.1.toNat, by omega, by omega, ?_⟩
    rw [rowE_mem, foundTo, List.mem_filterMap]
    exact ⟨(x.2.2, m.2), twOf_mem.2 ⟨m, hm, x, hx, h3, by omega, rfl⟩, h4⟩

/-- The shelves of the first texts, one behind the other. -/
def sofTo (D : List ByteArray) (k w : Int) (m : Nat) : List En := (List.range m).flatMap fun i => rowE (entsOf i (mkL (docAt D i) k w))
theorem sofTo_next (D : List ByteArray) (k w : Int) (m : Nat) : sofTo D k w (m + 1) = sofTo D k w m ++ rowE (entsOf m (mkL (docAt D m) k w)) := by
  rw [sofTo, List.range_succ, List.flatMap_append]; simp [sofTo]
theorem sofTo_row (D : List ByteArray) (k w : Int) (m : Nat) : rowE (sofTo D k w m) = allN D k w m := by
  rw [allN]
  refine rowE_same fun x => ?_
  rw [sofTo, allTo, List.mem_flatMap, List.mem_flatMap]
  constructor
  · rintro ⟨i, hi, h⟩; exact ⟨i, hi, (rowE_mem _ _).1 h⟩
  · rintro ⟨i, hi, h⟩; exact ⟨i, hi, (rowE_mem _ _).2 h⟩

end Go.Proofs.Ytclblnkeakkdeaa

namespace Go.Proofs.Ytclblnkeakkdeaa
open Go.RowKit

theorem ret_i64 {a b : Int} (h : a = b) : Ending.returned (.int .i64 a) = .returned (.int .i64 b) := by rw [h]

theorem tmod_nat (z : Int) (a : Nat) (h : z = (a : Int)) : z.tmod 1000003 = ((a % 1000003 : Nat) : Int) := by
  subst h; exact (Int.ofNat_tmod a 1000003).symm

theorem prF_take (s : ByteArray) (k : Nat) (h : k < s.size) : prN (s.data.toList.take (k + 1)) = prStep (prN (s.data.toList.take k)) s[k] := by
  have hl : k < s.data.toList.length := h
  rw [List.take_succ_eq_append_getElem hl, prN_snoc]
  rfl

set_option maxHeartbeats 1000000 in
theorem specPrintOf_any (s : ByteArray) (w : World) (hs : s.size ≤ 4194304) :
    Calls Try.prog 72 #[.string s] w fun e w' => e = .returned (.int .i64 (prN s.data.toList)) ∧ w = w' := by
  go_enter Try.func72, Try.ntmps72
  go_wp2
  go_loop [3, 4] (fun n i => ∃ k x : Nat, k ≤ s.size ∧ i = .int .i64 k ∧ n = .int .i64 x ∧ x < 1000003 ∧ Hid (x = prN (s.data.toList.take k))) (fun _ i => s.size - (intOf i).toNat)
  case atStart => exact ⟨0, 0, Nat.zero_le _, rfl, rfl, by omega, Lib.hid rfl⟩
  case round =>
    obtain ⟨k, x, hk, rfl, rfl, hx, HX⟩ := hrel
    by_cases hlt : k < s.size
    · have hb : (s[k].toNat : Int) ≤ 255 := by have := s[k].toNat_lt; omega
      have hy := prF_take s k hlt
      rw [← HX.out] at hy
      have hy9 := prStep_lt x s[k]
      have et : ((x : Int) * 257 + (s[k].toNat : Int) + 1).tmod 1000003 = (prStep x s[k] : Int) := tmod_nat _ (x * 257 + s[k].toNat + 1) (by omega)
      obtain ⟨y, hyy⟩ : ∃ y, prStep x s[k] = y := ⟨_, rfl⟩
      rw [hyy] at hy hy9 et
      have HY := Lib.hid hy
      clear hy hyy HX
      go_wp2
      go_round
      case rel => exact ⟨k + 1, y, by omega, by go_num, by go_num, hy9, Lib.hid HY.out.symm⟩
      case measure => simp [intOf]; omega
    · obtain rfl : k = s.size := by omega
      have hE : s.data.toList.take s.size = s.data.toList := List.take_of_length_le (Nat.le_refl _)
      have h1 := HX.out
      rw [hE] at h1
      go_wp2
      go_ret
      exact ⟨rfl, rfl⟩

/-- What is out and what is left, in the way by squares. -/
def pwZ (n : Int) : Int := if n < 0 then 0 else (pwN n.toNat : Nat)
theorem pwZ_lt (n : Int) : 0 ≤ pwZ n ∧ pwZ n < 1000003 := by
  unfold pwZ
  split
  · omega
  · have := pwN_lt n.toNat; omega

set_option maxHeartbeats 1000000 in
theorem specPrintPower_any (n : Int) (w : World) (h1 : -9223372036854775808 ≤ n) (h2 : n ≤ 9223372036854775807) :
    Calls Try.prog 126 #[.int .i64 n] w fun e w' => e = .returned (.int .i64 (pwZ n)) ∧ w = w' := by
  by_cases hn : n < 0
  · have e : pwZ n = 0 := by unfold pwZ; rw [if_pos hn]
    rw [e]
    clear e
    go_enter Try.func126, Try.ntmps126
    go_wp2
    go_ret
    exact ⟨rfl, rfl⟩
  · obtain ⟨m, rfl⟩ : ∃ m : Nat, n = m := ⟨n.toNat, by omega⟩
    have e : pwZ (m : Int) = (pwN m : Nat) := by unfold pwZ; rw [if_neg hn, Int.toNat_natCast]
    obtain ⟨z, hz⟩ : ∃ z, pwZ (m : Int) = z := ⟨_, rfl⟩
    rw [hz] at e ⊢
    have HE := Lib.hid e
    have hs : Eqm (1 * 257 ^ m) (257 ^ m) := by rw [Nat.one_mul]; exact Eqm.refl _
    have HS := Lib.hid hs
    clear e hz hs
    go_enter Try.func126, Try.ntmps126
    go_wp2
    go_loop [0, 3, 4] (fun left out base => ∃ k o b : Nat, k ≤ m ∧ left = .int .i64 k ∧ out = .int .i64 o ∧ base = .int .i64 b ∧ o < 1000003 ∧ b < 1000003 ∧ Hid (Eqm (o * b ^ k) (257 ^ m))) (fun left _ _ => (intOf left).toNat)
    case atStart => exact ⟨m, 1, 257, Nat.le_refl _, rfl, rfl, rfl, by omega, by omega, HS⟩
    case round =>
      obtain ⟨k, o, b, hk, rfl, rfl, rfl, ho, hb, HR⟩ := hrel
      by_cases h0 : 0 < k
      · have hbb : b * b ≤ 1000002 * 1000002 := Nat.mul_le_mul (by omega) (by omega)
        have hob : o * b ≤ 1000002 * 1000002 := Nat.mul_le_mul (by omega) (by omega)
        have et1 : ((b : Int) * (b : Int)).tmod 1000003 = ((b * b % 1000003 : Nat) : Int) := tmod_nat _ (b * b) (by simp)
        have et2 : ((o : Int) * (b : Int)).tmod 1000003 = ((o * b % 1000003 : Nat) : Int) := tmod_nat _ (o * b) (by simp)
        have ht : (k : Int).tdiv 2 = ((k / 2 : Nat) : Int) := (Int.ofNat_tdiv k 2).symm
        have hm : (k : Int).tmod 2 = ((k % 2 : Nat) : Int) := (Int.ofNat_tmod k 2).symm
        have w1 : IntKind.i64.wrap ((b : Int) * (b : Int)) = (b : Int) * (b : Int) := IntWalk.i64_in _ (by
          have : ((b * b : Nat) : Int) ≤ 1000002 * 1000002 := by omega
          rw [Int.natCast_mul] at this
          have h3 : 0 ≤ (b : Int) * (b : Int) := Int.mul_nonneg (by omega) (by omega)
          omega)
        have w2 : IntKind.i64.wrap ((o : Int) * (b : Int)) = (o : Int) * (b : Int) := IntWalk.i64_in _ (by
          have : ((o * b : Nat) : Int) ≤ 1000002 * 1000002 := by omega
          rw [Int.natCast_mul] at this
          have h3 : 0 ≤ (o : Int) * (b : Int) := Int.mul_nonneg (by omega) (by omega)
          omega)
        have l1 : b * b % 1000003 < 1000003 := Nat.mod_lt _ (by decide)
        have l2 : o * b % 1000003 < 1000003 := Nat.mod_lt _ (by decide)
        have se := sq_even o b k
        have so := sq_odd o b k
        obtain ⟨q, hq⟩ : ∃ q, b * b % 1000003 = q := ⟨_, rfl⟩
        obtain ⟨p, hp⟩ : ∃ p, o * b % 1000003 = p := ⟨_, rfl⟩
        rw [hq] at et1 l1 se so
        rw [hp] at et2 l2 so
        obtain ⟨d, hd⟩ : ∃ d, k / 2 = d := ⟨_, rfl⟩
        rw [hd] at ht se so
        have hdk : d < k := by omega
        by_cases hodd : k % 2 = 1
        · rw [hodd] at hm
          have HN := Lib.hid ((so hodd).trans HR.out)
          clear se so hq hp hd hbb hob
          go_wp2
          go_round
          case rel => exact ⟨d, p, q, by omega, by go_num, by go_num, by go_num, l2, l1, HN⟩
          case measure => simp [intOf]; omega
        · have hev : k % 2 = 0 := by omega
          rw [hev] at hm
          have HN := Lib.hid ((se hev).trans HR.out)
          clear se so hq hp hd hbb hob
          go_wp2
          go_round
          case rel => exact ⟨d, o, q, by omega, by go_num, by go_num, by go_num, ho, l1, HN⟩
          case measure => simp [intOf]; omega
      · obtain rfl : k = 0 := by omega
        have h3 := HR.out
        rw [Nat.pow_zero, Nat.mul_one] at h3
        have h4 : o = pwN m := Eqm.eq (h3.trans (pwN_eqm m).symm) ho (pwN_lt m)
        have h5 := HE.out
        clear h3
        go_wp2
        go_ret
        exact ⟨ret_i64 (by omega), rfl⟩

/-- The fingerprint of a piece that is rolled on, of joined texts. -/
def rollN (n k g c : Nat) : Nat := ((n + 1000003 * 256 - (g + 1) * pwN (k - 1) % 1000003) % 1000003 * 257 + c + 1) % 1000003
def joinN (a b k : Nat) : Nat := (a * pwN k + b) % 1000003

set_option maxHeartbeats 1000000 in
theorem specRollPrint_bad (n k g c : Int) (w : World) (h : n < 0 ∨ 1000003 ≤ n ∨ k < 1 ∨ g < 0 ∨ 255 < g ∨ c < 0 ∨ 255 < c) :
    Calls Try.prog 121 #[.int .i64 n, .int .i64 k, .int .i64 g, .int .i64 c] w fun e w' => e = .returned (.int .i64 (-1)) ∧ w = w' := by
  by_cases hc0 : n < 0
  · clear h
    go_enter Try.func121, Try.ntmps121
    go_wp2
    go_ret
    exact ⟨rfl, rfl⟩
  by_cases hc1 : 1000003 ≤ n
  · clear h
    go_enter Try.func121, Try.ntmps121
    go_wp2
    go_ret
    exact ⟨rfl, rfl⟩
  by_cases hc2 : k < 1
  · clear h
    go_enter Try.func121, Try.ntmps121
    go_wp2
    go_ret
    exact ⟨rfl, rfl⟩
  by_cases hc3 : g < 0
  · clear h
    go_enter Try.func121, Try.ntmps121
    go_wp2
    go_ret
    exact ⟨rfl, rfl⟩
  by_cases hc4 : 255 < g
  · clear h
    go_enter Try.func121, Try.ntmps121
    go_wp2
    go_ret
    exact ⟨rfl, rfl⟩
  by_cases hc5 : c < 0
  · clear h
    go_enter Try.func121, Try.ntmps121
    go_wp2
    go_ret
    exact ⟨rfl, rfl⟩
  by_cases hc6 : 255 < c
  · clear h
    go_enter Try.func121, Try.ntmps121
    go_wp2
    go_ret
    exact ⟨rfl, rfl⟩
  omega

set_option maxHeartbeats 1000000 in
theorem specRollPrint_int (n k g c p r v z : Int) (w : World) (hn : 0 ≤ n) (hn9 : n < 1000003) (hk : 1 ≤ k) (hk9 : k ≤ 9223372036854775807) (hg : 0 ≤ g) (hg9 : g ≤ 255) (hc : 0 ≤ c) (hc9 : c ≤ 255) (hp : pwZ (k - 1) = p)
    (t1 : ((g + 1) * p).tmod 1000003 = r) (hr : 0 ≤ r) (hr9 : r < 1000003) (t2 : (n + 256000768 - r).tmod 1000003 = v) (hv : 0 ≤ v) (hv9 : v < 1000003) (t3 : (v * 257 + c + 1).tmod 1000003 = z) :
    Calls Try.prog 121 #[.int .i64 n, .int .i64 k, .int .i64 g, .int .i64 c] w fun e w' => e = .returned (.int .i64 z) ∧ w = w' := by
  have hp2 := pwZ_lt (k - 1)
  have c1 := fun w => specPrintPower_any (k - 1) w (by omega) (by omega)
  rw [hp] at c1 hp2
  obtain ⟨hp0, hp9⟩ := hp2
  have w1 : IntKind.i64.wrap ((g + 1) * p) = (g + 1) * p := IntWalk.i64_in _ (by
    have h1 : 0 ≤ (g + 1) * p := Int.mul_nonneg (by omega) (by omega)
    have h2 : (g + 1) * p ≤ 256 * 1000002 := Int.mul_le_mul (by omega) (by omega) (by omega) (by omega)
    omega)
  clear hp
  go_enter Try.func121, Try.ntmps121
  go_wp2_with fail
  refine (c1 _).mono ?_
  rintro e w2 ⟨rfl, rfl⟩
  go_wp2
  go_ret
  exact ⟨rfl, rfl⟩

theorem specRollPrint_ok (n k g c z : Nat) (w : World) (hn : n < 1000003) (hk : 1 ≤ k) (hk9 : (k : Int) ≤ 9223372036854775807) (hg : g ≤ 255) (hc : c ≤ 255) (hz : rollN n k g c = z) :
    Calls Try.prog 121 #[.int .i64 n, .int .i64 k, .int .i64 g, .int .i64 c] w fun e w' => e = .returned (.int .i64 z) ∧ w = w' := by
  have hp : pwZ ((k : Int) - 1) = (pwN (k - 1) : Nat) := by
    unfold pwZ; rw [if_neg (by omega)]; congr 2; omega
  unfold rollN at hz
  have hr9 : (g + 1) * pwN (k - 1) % 1000003 < 1000003 := Nat.mod_lt _ (by decide)
  obtain ⟨r, hr⟩ : ∃ r, (g + 1) * pwN (k - 1) % 1000003 = r := ⟨_, rfl⟩
  have t1 : (((g : Int) + 1) * ((pwN (k - 1) : Nat) : Int)).tmod 1000003 = ((r : Nat) : Int) := by rw [← hr]; exact tmod_nat _ _ (by simp)
  rw [hr] at hz hr9
  have hv9 : (n + 1000003 * 256 - r) % 1000003 < 1000003 := Nat.mod_lt _ (by decide)
  obtain ⟨v, hv⟩ : ∃ v, (n + 1000003 * 256 - r) % 1000003 = v := ⟨_, rfl⟩
  have t2 : ((n : Int) + 256000768 - (r : Int)).tmod 1000003 = (v : Int) := by rw [← hv]; exact tmod_nat _ _ (by omega)
  rw [hv] at hz hv9
  have t3 : ((v : Int) * 257 + (c : Int) + 1).tmod 1000003 = (z : Int) := by rw [← hz]; exact tmod_nat _ _ (by omega)
  exact specRollPrint_int n k g c _ r v z w (by omega) (by omega) (by omega) hk9 (by omega) (by omega) (by omega) (by omega) hp t1 (by omega) (by omega) t2 (by omega) (by omega) t3




end Go.Proofs.Ytclblnkeakkdeaa
