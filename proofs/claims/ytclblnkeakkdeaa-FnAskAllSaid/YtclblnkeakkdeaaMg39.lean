/-
  The contracts of chapter 8's functions in the form in which the laws of the table ask for them. Conditions: texts have at most 2^20 bytes.
-/
import Derived.Test.YtclblnkeakkdeaaMg23
import Derived.Test.YtclblnkeakkdeaaMg30
import Derived.Test.YtclblnkeakkdeaaMg32
import Derived.Test.YtclblnkeakkdeaaMg34
import Derived.Test.YtclblnkeakkdeaaMg35
import Derived.Test.YtclblnkeakkdeaaMg36
import Derived.Test.YtclblnkeakkdeaaMg38
namespace Go.Proofs.Ytclblnkeakkdeaa
open Go.RowKit

theorem ask8_room {L : List En} {D : List ByteArray} {s : ByteArray} (k v n : Int) (hL : L.length ≤ 1048576) (hs : s.size ≤ 1048576) : (ask8 L D s k v n).length ≤ 1099511627776 := by
  unfold ask8
  split
  · refine Nat.le_trans (rowF_len _) (Nat.le_trans (askTo_len _ _ _ _ _ _) ?_)
    exact Nat.mul_le_mul (Nat.le_trans (mkL_len s k v) hs) hL
  · exact Nat.zero_le _
/-- The places of a shelf of texts are within the texts. -/
theorem allN_at {D : List ByteArray} (k w : Int) {m : Nat} (hT : totalS D ≤ 1048576) : ∀ x ∈ allN D k w m, x.2.2 ≤ 9223372036854775807 := fun x hx => by
  obtain ⟨i, _, _, h⟩ := allN_mem.1 hx
  obtain ⟨j, K, _, _, e, h2, _⟩ := mkL_in h
  have e2 : x.2.2 = (j : Int) := congrArg Prod.snd e
  have h3 : (docAt D i).size ≤ 1048576 := by
    by_cases hi : i < D.length
    · rw [docAt_get hi]; exact Nat.le_trans (totalS_get D i hi) hT
    · have e3 : docAt D i = ⟨#[]⟩ := by simp [docAt, List.getElem?_eq_none (Nat.le_of_not_lt hi)]
      rw [e3]; decide
  omega

def sureI (k v : Int) : Int := if 1 ≤ k ∧ 1 ≤ v ∧ k ≤ 1000000 ∧ v ≤ 1000000 then k + v - 1 else 0
theorem implSure_w (k v r : Int) (w : World) (h : sureI k v = r) :
    Calls Try.prog 43 #[.int .i64 k, .int .i64 v] w fun e w' => e = .returned (.int .i64 r) ∧ w = w' := by
  subst h
  unfold sureI
  split
  · exact implSure_yes k v w (by omega) (by omega) (by omega) (by omega)
  · exact implSure_no k v w (by omega)

theorem implPcs_w (s t : ByteArray) (n : Int) (R : List En) (w : World) (h : piecesT s t n = R) (hn9 : n ≤ 9223372036854775807) (hs : s.size ≤ 1048576) (ht : t.size ≤ 1048576) :
    Calls Try.prog 42 #[.string s, .string t, .int .i64 n] w fun e w' => ∃ a m c, e = .returned (.slice a m c) ∧ EnAt w' a m c R ∧ Below w.heap.size w w' := by
  refine (implPieces_any s t n R w h hn9 hs ht).mono ?_
  rintro e w2 ⟨a2, m2, c2, rfl, o2⟩
  exact ⟨a2, m2, c2, rfl, enAt_of o2.own, o2.below⟩

theorem implFound_w (s t : ByteArray) (k v n : Int) (R : List En) (w : World) (h : foundL s t k v n = R) (_hk9 : k ≤ 9223372036854775807) (hv9 : v ≤ 9223372036854775807) (_hn9 : n ≤ 9223372036854775807) (hs : s.size ≤ 1048576) (ht : t.size ≤ 1048576) :
    Calls Try.prog 39 #[.string s, .string t, .int .i64 k, .int .i64 v, .int .i64 n] w fun e w' => ∃ a m c, e = .returned (.slice a m c) ∧ EnAt w' a m c R ∧ Below w.heap.size w w' := by
  refine (implFound_any s t k v n R w h hs ht hv9).mono ?_
  rintro e w2 ⟨a2, m2, c2, rfl, o2⟩
  exact ⟨a2, m2, c2, rfl, enAt_of o2.own, o2.below⟩

theorem specFound_w (s t : ByteArray) (k v n : Int) (R : List En) (w : World) (h : foundL s t k v n = R) (_hk9 : k ≤ 9223372036854775807) (hv9 : v ≤ 9223372036854775807) (_hn9 : n ≤ 9223372036854775807) (hs : s.size ≤ 1048576) (ht : t.size ≤ 1048576) :
    Calls Try.prog 41 #[.string s, .string t, .int .i64 k, .int .i64 v, .int .i64 n] w fun e w' => ∃ a m c, e = .returned (.slice a m c) ∧ EnAt w' a m c R ∧ Below w.heap.size w w' := by
  refine (specFound_any s t k v n R w h hs ht hv9).mono ?_
  rintro e w2 ⟨g2, m2, c2, rfl, o2⟩
  exact ⟨some ⟨g2, 0, none⟩, m2, c2, rfl, enAt_of o2.own, o2.below⟩

theorem implFound_o (s t : ByteArray) (k v n : Int) (R : List En) (w : World) (h : foundL s t k v n = R) (_hk9 : k ≤ 9223372036854775807) (hv9 : v ≤ 9223372036854775807) (_hn9 : n ≤ 9223372036854775807) (hs : s.size ≤ 1048576) (ht : t.size ≤ 1048576) :
    Calls Try.prog 39 #[.string s, .string t, .int .i64 k, .int .i64 v, .int .i64 n] w fun e w' => ∃ a m c, e = .returned (.slice a m c) ∧ One w w.heap.size w' 61 3 a m c (entsC R) := by
  exact implFound_any s t k v n R w h hs ht hv9

theorem implAskAll_w (D : List ByteArray) (s : ByteArray) (n : Int) (R : List Fd) (a : Option Addr) (m c : Nat) (w : World) (h : askAllL D s n = R) (hD : TxAt w a m c D) (hD9 : D.length ≤ 1048576) (hT : totalS D ≤ 1048576) (hs : s.size ≤ 1048576) (hn9 : n ≤ 9223372036854775807) :
    Calls Try.prog 58 #[.slice a m c, .string s, .int .i64 n] w fun e w' => ∃ a m c, e = .returned (.slice a m c) ∧ FdAt w' a m c R ∧ Below w.heap.size w w' := by
  refine (implAskAll_any D s n a m c R w h hD.len (by rw [hD.len]; exact hD9) hT hs hn9 hD.at_).mono ?_
  rintro e w2 ⟨a2, m2, c2, rfl, o2⟩
  exact ⟨a2, m2, c2, rfl, fdAt_of o2.own, o2.below⟩

theorem specAskAll_w (D : List ByteArray) (s : ByteArray) (n : Int) (R : List Fd) (a : Option Addr) (m c : Nat) (w : World) (h : askAllL D s n = R) (hD : TxAt w a m c D) (hD9 : D.length ≤ 1048576) (hT : totalS D ≤ 1048576) (hs : s.size ≤ 1048576) (_hn9 : n ≤ 9223372036854775807) :
    Calls Try.prog 61 #[.slice a m c, .string s, .int .i64 n] w fun e w' => ∃ a m c, e = .returned (.slice a m c) ∧ FdAt w' a m c R ∧ Below w.heap.size w w' := by
  refine (specAskAll_any D s n a m c R w h hD.len (by rw [hD.len]; exact hD9) hT hs hD.at_).mono ?_
  rintro e w2 ⟨a2, m2, c2, rfl, o2⟩
  exact ⟨a2, m2, c2, rfl, fdAt_of o2.own, o2.below⟩

theorem implAll_w (D : List ByteArray) (k v : Int) (R : List En) (a : Option Addr) (m c : Nat) (w : World) (h : allN D k v D.length = R) (hD : TxAt w a m c D) (hD9 : D.length ≤ 1048576) (hT : totalS D ≤ 1048576) (_hk9 : k ≤ 9223372036854775807) (hv9 : v ≤ 9223372036854775807) :
    Calls Try.prog 50 #[.slice a m c, .int .i64 k, .int .i64 v] w fun e w' => ∃ a m c, e = .returned (.slice a m c) ∧ EnAt w' a m c R ∧ Below w.heap.size w w' := by
  refine (implAll_any D a m c k v R w h hD.len (by rw [hD.len]; exact hD9) hT hv9 hD.at_).mono ?_
  rintro e w2 ⟨a2, m2, c2, rfl, o2⟩
  exact ⟨a2, m2, c2, rfl, enAt_of o2.own, o2.below⟩

theorem specAll_w (D : List ByteArray) (k v : Int) (R : List En) (a : Option Addr) (m c : Nat) (w : World) (h : allN D k v D.length = R) (hD : TxAt w a m c D) (hD9 : D.length ≤ 1048576) (hT : totalS D ≤ 1048576) (_hk9 : k ≤ 9223372036854775807) (hv9 : v ≤ 9223372036854775807) :
    Calls Try.prog 51 #[.slice a m c, .int .i64 k, .int .i64 v] w fun e w' => ∃ a m c, e = .returned (.slice a m c) ∧ EnAt w' a m c R ∧ Below w.heap.size w w' := by
  refine (specAll_any D a m c k v R w h hD.len (by rw [hD.len]; exact hD9) hT hv9 hD.at_).mono ?_
  rintro e w2 ⟨a2, m2, c2, rfl, o2⟩
  exact ⟨a2, m2, c2, rfl, enAt_of o2.own, o2.below⟩

theorem implAsk8_w (S : List En) (D : List ByteArray) (s : ByteArray) (k v n : Int) (R : List Fd) (a : Option Addr) (m c : Nat) (a' : Option Addr) (m' c' : Nat) (w : World) (h : ask8 S D s k v n = R) (hS : EnAt w a m c S) (hD : TxAt w a' m' c' D) (hS9 : S.length ≤ 1048576) (h63 : ∀ x ∈ S, x.2.2 ≤ 9223372036854775807) (hD9 : D.length ≤ 1048576) (hT : totalS D ≤ 1048576) (hs : s.size ≤ 1048576) (_hk9 : k ≤ 9223372036854775807) (hv9 : v ≤ 9223372036854775807) (_hn9 : n ≤ 9223372036854775807) :
    Calls Try.prog 55 #[.slice a m c, .slice a' m' c', .string s, .int .i64 k, .int .i64 v, .int .i64 n] w fun e w' => ∃ a m c, e = .returned (.slice a m c) ∧ FdAt w' a m c R ∧ Below w.heap.size w w' := by
  refine (implAsk8_any S D s k v n a m c a' m' c' R w h hS.len hD.len (by rw [hS.len]; exact hS9) (by rw [hD.len]; exact hD9) hS.cap h63 hT hs hv9 hS.at_ hD.at_).mono ?_
  rintro e w2 ⟨a2, m2, c2, rfl, o2⟩
  exact ⟨a2, m2, c2, rfl, fdAt_of o2.own, o2.below⟩

theorem specAsk8_w (S : List En) (D : List ByteArray) (s : ByteArray) (k v n : Int) (R : List Fd) (a : Option Addr) (m c : Nat) (a' : Option Addr) (m' c' : Nat) (w : World) (h : ask8 S D s k v n = R) (hS : EnAt w a m c S) (hD : TxAt w a' m' c' D) (hS9 : S.length ≤ 1048576) (hD9 : D.length ≤ 1048576) (hT : totalS D ≤ 1048576) (hs : s.size ≤ 1048576) (hk9 : k ≤ 9223372036854775807) (hv9 : v ≤ 9223372036854775807) (_hn9 : n ≤ 9223372036854775807) :
    Calls Try.prog 57 #[.slice a m c, .slice a' m' c', .string s, .int .i64 k, .int .i64 v, .int .i64 n] w fun e w' => ∃ a m c, e = .returned (.slice a m c) ∧ FdAt w' a m c R ∧ Below w.heap.size w w' := by
  refine (specAsk8_any S D s k v n a m c a' m' c' R w h hS.len hD.len (by rw [hS.len]; exact hS9) (by rw [hD.len]; exact hD9) hS.cap hS.max hT hs hk9 hv9 hS.at_ hD.at_).mono ?_
  rintro e w2 ⟨g2, m2, c2, rfl, o2⟩
  exact ⟨some ⟨g2, 0, none⟩, m2, c2, rfl, fdAt_of o2.own, o2.below⟩

theorem implMarks_w (s : ByteArray) (k v : Int) (M : List (Int × Int)) (w : World) (h : mkL s k v = M) (hs : s.size ≤ 1048576) (_hk9 : k ≤ 9223372036854775807) (hv9 : v ≤ 9223372036854775807) :
    Calls Try.prog 48 #[.string s, .int .i64 k, .int .i64 v] w fun e w' => ∃ a m c, e = .returned (.slice a m c) ∧ m = M.length ∧ Below w.heap.size w w' := by
  refine (implMarks_any s k v M w h (by omega) hv9).mono ?_
  rintro e w2 ⟨a2, m2, c2, rfl, o2⟩
  exact ⟨a2, m2, c2, rfl, pairs_len o2.own, o2.below⟩

theorem implShelfOf_w (i : Nat) (s : ByteArray) (k v : Int) (R : List En) (w : World) (h : rowE (entsOf i (mkL s k v)) = R) (hs : s.size ≤ 1048576) (_hk9 : k ≤ 9223372036854775807) (hv9 : v ≤ 9223372036854775807) :
    Calls Try.prog 52 #[.int .i64 i, .string s, .int .i64 k, .int .i64 v] w fun e w' => ∃ a m c, e = .returned (.slice a m c) ∧ EnAt w' a m c R ∧ Below w.heap.size w w' := by
  refine (implShelfOf_any (i : Int) s k v (mkL s k v) w rfl (by omega) hv9).mono ?_
  rintro e w2 ⟨a2, m2, c2, rfl, o2⟩
  refine ⟨a2, m2, c2, rfl, ?_, o2.below⟩
  have h2 := enAt_of o2.own
  rw [shelfL, if_neg (by omega)] at h2
  rw [← h]
  exact h2

theorem implOk_w (L : List En) (a : Option Addr) (n c : Nat) (w : World) (h : shOk L) (hL : EnAt w a n c L) (hl : L.length ≤ 4194304) :
    Calls Try.prog 20 #[.slice a n c] w fun e w' => e = .returned (.bool true) ∧ Below w.heap.size w w' := by
  exact implShelfOk_is true L a n c w ⟨fun _ => h, fun _ => rfl⟩ hL.len (by rw [hL.len]; exact hl) hL.at_

structure PrOf (s : ByteArray) (k : Int) (P : List Int) : Prop where
  in_ : ∀ i (h : i < P.length), 1 ≤ k ∧ i + k.toNat ≤ s.size ∧ P[i] = ((prN (pieceL s.data.toList k.toNat i) : Nat) : Int)
  all : ∀ i, 1 ≤ k → i + k.toNat ≤ s.size → i < P.length
structure InAt (w : World) (a : Option Addr) (n : Nat) (P : List Int) : Prop where
  len : n = P.length
  at_ : CellsAt w a (P.map (Value.int .i64))
theorem InAt.later {w w' : World} {a : Option Addr} {n : Nat} {L : List Int} (h : InAt w a n L) (hb : Below w.heap.size w w') : InAt w' a n L := ⟨h.len, h.at_.below hb⟩
structure MkAt (w : World) (a : Option Addr) (n : Nat) (P : List (Int × Int)) : Prop where
  len : n = P.length
  at_ : CellsAt w a (pairsC P)
theorem MkAt.later {w w' : World} {a : Option Addr} {n : Nat} {L : List (Int × Int)} (h : MkAt w a n L) (hb : Below w.heap.size w w') : MkAt w' a n L := ⟨h.len, h.at_.below hb⟩

theorem implPrints_w (s : ByteArray) (k : Int) (w : World) (hs : s.size ≤ 1048576) (_hk9 : k ≤ 9223372036854775807) :
    Calls Try.prog 47 #[.string s, .int .i64 k] w fun e w' => ∃ (P : List Int) (a : Option Addr) (m c : Nat), e = .returned (.slice a m c) ∧ PrOf s k P ∧ InAt w' a m P ∧ Below w.heap.size w w' := by
  obtain ⟨P, hP⟩ : ∃ P, printsL s.data.toList k = P := ⟨_, rfl⟩
  refine (implPrintsOf_is s k P w (by omega) hP).mono ?_
  rintro e w2 ⟨a2, m2, c2, rfl, o2⟩
  refine ⟨P, a2, m2, c2, rfl, ?_, ⟨ints_lenN o2.own, o2.at_⟩, o2.below⟩
  rw [← hP]
  refine ⟨fun i hi => ?_, fun i hk hi => ?_⟩
  · rw [printsL] at hi
    split at hi
    · simp at hi
    · rename_i h1
      rw [printsTo_len] at hi
      obtain ⟨K, rfl⟩ : ∃ K : Nat, k = K := ⟨k.toNat, by omega⟩
      have hsz : s.data.toList.length = s.size := rfl
      simp only [Int.toNat_natCast] at hi ⊢
      refine ⟨by omega, by omega, ?_⟩
      have h2 := printsN_get s.data.toList K i (by omega) (by omega)
      rw [List.getD_eq_getElem?_getD, List.getElem?_eq_getElem (by assumption)] at h2
      exact h2
  · have hsz : s.data.toList.length = s.size := rfl
    rw [printsL, if_neg (by omega), printsTo_len]
    omega

theorem implMarks_p (s : ByteArray) (k v : Int) (M : List (Int × Int)) (w : World) (h : mkL s k v = M) (hs : s.size ≤ 1048576) (_hk9 : k ≤ 9223372036854775807) (hv9 : v ≤ 9223372036854775807) :
    Calls Try.prog 48 #[.string s, .int .i64 k, .int .i64 v] w fun e w' => ∃ a m c, e = .returned (.slice a m c) ∧ MkAt w' a m M ∧ Below w.heap.size w w' := by
  refine (implMarks_any s k v M w h (by omega) hv9).mono ?_
  rintro e w2 ⟨a2, m2, c2, rfl, o2⟩
  exact ⟨a2, m2, c2, rfl, ⟨pairs_len o2.own, o2.at_⟩, o2.below⟩

theorem implTwins_w (A B : List (Int × Int)) (a : Option Addr) (n c : Nat) (a' : Option Addr) (n' c' : Nat) (w : World) (hA : MkAt w a n A) (hB : MkAt w a' n' B) (h1 : A.length ≤ 1048576) (h2 : B.length ≤ 1048576) :
    Calls Try.prog 35 #[.slice a n c, .slice a' n' c'] w fun e w' => ∃ a m c, e = .returned (.slice a m c) ∧ m = (twinsL A B).length ∧ Below w.heap.size w w' := by
  refine (implTwins_any A B a n c a' n' c' w hA.len hB.len (by rw [hA.len]; exact h1) (by rw [hB.len]; exact h2) hA.at_ hB.at_).mono ?_
  rintro e w2 ⟨a2, m2, c2, rfl, o2⟩
  exact ⟨a2, m2, c2, rfl, pairs_len o2.own, o2.below⟩

theorem implFalse_w (s t : ByteArray) (k v : Int) (r : Nat) (w : World) (h : falseN s t k v = r) (hs : s.size ≤ 1048576) (ht : t.size ≤ 1048576) (_hk9 : k ≤ 9223372036854775807) (hv9 : v ≤ 9223372036854775807) :
    Calls Try.prog 45 #[.string s, .string t, .int .i64 k, .int .i64 v] w fun e w' => e = .returned (.int .i64 (r : Int)) ∧ Below w.heap.size w w' := by
  subst h
  exact implFalse_any s t k v w hs ht hv9

theorem specFalse_w (s t : ByteArray) (k v : Int) (r : Nat) (w : World) (h : falseN s t k v = r) (hs : s.size ≤ 1048576) (ht : t.size ≤ 1048576) (_hk9 : k ≤ 9223372036854775807) (hv9 : v ≤ 9223372036854775807) :
    Calls Try.prog 46 #[.string s, .string t, .int .i64 k, .int .i64 v] w fun e w' => e = .returned (.int .i64 (r : Int)) ∧ Below w.heap.size w w' := by
  subst h
  exact specFalse_any s t k v w hs ht hv9

end Go.Proofs.Ytclblnkeakkdeaa
