/-
  The contract of the model's draw for the law AskOther. Condition: the bytes can be read.
  What is told of slices that came in: their cells, as a list of values. No program is read here. No conditions.
-/
import Derived.Test.YtclblnkeakkdeaaMg39
import Derived.Test.YtclblnkeakkdeaaMg27
import Derived.Test.YtclblnkeakkdeaaMg11
import Derived.Test.YtclblnkeakkdeaaMg9
import Derived.Deep.Slices
import Derived.Deep.Fields
import Derived.ChangeSame
namespace Go.Proofs.Ytclblnkeakkdeaa
open Go.RowKit

theorem rd_later8 {w w' : World} {g : Nat} {a : Option Addr} {n c B : Nat} (h : RdAt w g a n c B) (hb : Below w.heap.size w w') : RdAt w' g a n c B := h.kept (fun k hk => hb.block k (Nat.lt_of_le_of_lt hk h.lt))
/-- What is kept while such a draw goes on: the reader, the texts, the shelf, and all that was there. -/
structure OthI (w w' : World) (g : Nat) (a : Option Addr) (n c B : Nat) (aD : Option Addr) (nD cD : Nat) (D : List ByteArray) (aS : Option Addr) (nS cS : Nat) (S : List En) : Prop where
  rd : RdAt w' g a n c B
  ge : w.heap.size ≤ g
  base : ∃ m, g < m ∧ m ≤ w'.heap.size ∧ w'.ownsRow m 31 3 (.slice aS nS cS) nS (entsC S) ∧ (∀ k, (Value.slice aD nD cD).ownBlock = some k → k < m)
  docs : ∃ m, g < m ∧ w'.ownsRow m 9 1 (.slice aD nD cD) nD (strsC D)
  below : Below w.heap.size w w'
theorem OthI.drawn {w w1 w2 : World} {g : Nat} {a : Option Addr} {n c B B' : Nat} {aD : Option Addr} {nD cD : Nat} {D : List ByteArray} {aS : Option Addr} {nS cS : Nat} {S : List En} (h : OthI w w1 g a n c B aD nD cD D aS nS cS S) (hr : RdAt w2 g a n c B') (hg : w1.grownBy w2 (some g)) : OthI w w2 g a n c B' aD nD cD D aS nS cS S := by
  obtain ⟨m, h1, h2, h3, h4⟩ := h.base
  obtain ⟨q, h5, h6⟩ := h.docs
  exact ⟨hr, h.ge, ⟨m, h1, Nat.le_trans h2 hg.size, own_kept8 h3 hg h1, h4⟩, ⟨q, h5, own_kept8 h6 hg h5⟩, below_rd8 h.below h.below.size hg h.ge⟩
theorem OthI.called {w w1 w2 : World} {g : Nat} {a : Option Addr} {n c B : Nat} {aD : Option Addr} {nD cD : Nat} {D : List ByteArray} {aS : Option Addr} {nS cS : Nat} {S : List En} (h : OthI w w1 g a n c B aD nD cD D aS nS cS S) (hb : Below w1.heap.size w1 w2) : OthI w w2 g a n c B aD nD cD D aS nS cS S := by
  obtain ⟨m, h1, h2, h3, h4⟩ := h.base
  obtain ⟨q, h5, h6⟩ := h.docs
  exact ⟨rd_later8 h.rd hb, h.ge, ⟨m, h1, Nat.le_trans h2 hb.size, ownsRow_below h3 hb, h4⟩, ⟨q, h5, ownsRow_below h6 hb⟩, h.below.trans (hb.mono h.below.size)⟩
/-- Another shelf, made behind all that was there. -/
theorem OthI.shelf {w w1 w2 : World} {g : Nat} {a : Option Addr} {n c B : Nat} {aD : Option Addr} {nD cD : Nat} {D : List ByteArray} {aS : Option Addr} {nS cS : Nat} {S : List En} {aT : Option Addr} {nT cT : Nat} {T : List En} (h : OthI w w1 g a n c B aD nD cD D aS nS cS S) (o : One w1 w1.heap.size w2 31 3 aT nT cT (entsC T)) : OthI w w2 g a n c B aD nD cD D aT nT cT T := by
  have h0 := h.called o.below
  exact ⟨h0.rd, h0.ge, ⟨w1.heap.size, h.rd.lt, o.base, o.own, fun k hk => by obtain ⟨q, _, h6⟩ := h.docs; exact (h6.lt k hk).2⟩, h0.docs, h0.below⟩
theorem OthI.one {w w1 : World} {g : Nat} {a : Option Addr} {n c B : Nat} {aD : Option Addr} {nD cD : Nat} {D : List ByteArray} {aS : Option Addr} {nS cS : Nat} {S : List En} (h : OthI w w1 g a n c B aD nD cD D aS nS cS S) : ∃ m, g < m ∧ m ≤ w1.heap.size ∧ One w1 m w1 31 3 aS nS cS (entsC S) ∧ (∀ k, (Value.slice aD nD cD).ownBlock = some k → k < m) := by
  obtain ⟨m, h1, h2, h3, h4⟩ := h.base
  exact ⟨m, h1, h2, ⟨h3, h2, ⟨rfl, rfl, rfl, Nat.le_refl _, fun _ _ => rfl⟩⟩, h4⟩
/-- One entry more behind the shelf. -/
theorem OthI.more {w w1 w2 : World} {g m : Nat} {a : Option Addr} {n c B : Nat} {aD : Option Addr} {nD cD : Nat} {D : List ByteArray} {aS : Option Addr} {nS cS : Nat} {S : List En} {aT : Option Addr} {nT cT : Nat} {T : List En} (h : OthI w w1 g a n c B aD nD cD D aS nS cS S) (h1 : g < m) (h2 : m ≤ w1.heap.size) (hS : w1.ownsRow m 31 3 (.slice aS nS cS) nS (entsC S)) (h4 : ∀ k, (Value.slice aD nD cD).ownBlock = some k → k < m)
    (hT : w2.ownsRow m 31 3 (.slice aT nT cT) nT (entsC T)) (hg : w1.grownBy w2 (Value.ownBlock (.slice aS nS cS))) : OthI w w2 g a n c B aD nD cD D aT nT cT T := by
  obtain ⟨q, h5, h6⟩ := h.docs
  refine ⟨rd_ownS h.rd hS h1 hg, h.ge, ⟨m, h1, Nat.le_trans h2 hg.size, hT, h4⟩, ⟨q, h5, h6.kept hg ?_⟩, h.below.grown hg h.below.size (fun k hk => by have := (hS.lt k hk).1; have := h.ge; omega)⟩
  cases hv : (Value.slice aD nD cD).ownBlock with
  | none => exact .inl rfl
  | some k =>
    refine .inr (fun e => ?_)
    have h7 := h4 k hv
    have h8 := (hS.lt k e.symm).1
    omega

theorem totalS_le9 {D : List ByteArray} {m : Nat} (h : ∀ x ∈ D, x.size ≤ m) : totalS D ≤ D.length * m := by
  induction D with
  | nil => exact Nat.zero_le _
  | cons x D ih =>
    have h1 := h x (by simp)
    have h2 := ih (fun y hy => h y (by simp [hy]))
    have e : totalS (x :: D) = x.size + totalS D := by simp [totalS]
    rw [e, List.length_cons, Nat.succ_mul]
    omega

theorem results_three9 {fn : Func} {t u v : Tmp} (h : fn.results = #[.tmp t, .tmp u, .tmp v]) (tmps : Array Value) (P : Program) (w : World) :
    (results fn tmps).run P w = .ok (.tuple #[tmps.getD t undef, tmps.getD u undef, tmps.getD v undef]) w := results_three8 h tmps P w

set_option maxHeartbeats 8000000 in
theorem DrawAskOther_any (w : World) (a : Option Addr) (len cap : Nat) (zs : List Int) (h : IsRowK .u8 w a len cap zs) :
    Calls Try.prog 59 #[.slice a len cap] w fun e w' => ∃ (S : List En) (a0 : Option Addr) (n0 c0 : Nat) (D : List ByteArray) (a' : Option Addr) (n' c' : Nat) (s : ByteArray), S.length ≤ 300 ∧ (∀ x ∈ S, x.2.2 ≤ 9223372036854775807) ∧ D.length ≤ 4 ∧ (∀ x ∈ D, x.size ≤ 69) ∧ s.size ≤ 75 ∧ EnAt w' a0 n0 c0 S ∧ TxAt w' a' n' c' D ∧ e = .returned (.tuple #[.slice a0 n0 c0, .slice a' n' c', .string s]) ∧ Below w.heap.size w w' := by
  go_enter Try.func59, Try.ntmps59
  go_wp2_with fail
  refine (open_any _ _ _ _ _ h).mono ?_
  rintro e w1 ⟨n, rfl, hrd, hb, hs⟩
  obtain ⟨g, hg0⟩ : ∃ g, w.heap.size = g := ⟨_, rfl⟩
  have hrd : RdAt w1 g a n cap 0 := hg0 ▸ hrd
  have hge : w.heap.size ≤ g := by omega
  have hlt1 : g < w1.heap.size := hrd.lt
  rw [hg0]
  clear h hs
  go_wp2_with fail
  refine (docs_any _ g a n cap _ 3 (by omega) (by omega) hrd).mono ?_
  rintro e w2 ⟨D, aD, nD, cD, hD, hDs, rfl, hownD, hrd2, hg⟩
  have hB2 := below_rd8 hb hb.size hg hge
  have hT : totalS D ≤ 276 := by have h1 := totalS_le9 hDs; omega
  have hnD : nD = D.length := by have h1 := hownD.1; rw [strsC_len] at h1; omega
  have HND := Lib.hid hnD
  have hn4 : nD ≤ 4 := by omega
  clear hrd hb hg hg0 hnD
  go_wp2_with fail
  refine (specAll_any D aD nD cD 2 2 (allN D 2 2 D.length) w2 rfl HND.out (by omega) (by omega) (by omega) (cellsAt_own hownD)).mono ?_
  rintro e w3 ⟨aS, nS, cS, rfl, oS⟩
  have hI : OthI w w3 g a n cap (0 + 2200) aD nD cD D aS nS cS (allN D 2 2 D.length) := ⟨rd_later8 hrd2 oS.below, hge, ⟨w2.heap.size, hrd2.lt, oS.base, oS.own, fun k hk => (hownD.lt k hk).2⟩, ⟨_, hlt1, ownsRow_below hownD oS.below⟩, hB2.trans (oS.below.mono hB2.size)⟩
  have hSl : (allN D 2 2 D.length).length ≤ 276 := by
    rw [allN_len]
    have h1 := allTo_len D 2 2 D.length (Nat.le_refl _)
    rw [List.take_length] at h1
    omega
  have hS63 : ∀ x ∈ allN D 2 2 D.length, x.2.2 ≤ 9223372036854775807 := allN_at 2 2 (by omega)
  generalize allN D 2 2 D.length = S at hI hSl hS63
  clear oS hownD hrd2 hB2 hT hge hlt1
  have HS63 := Lib.hid hS63
  have HDs := Lib.hid hDs
  have HI := Lib.hid hI
  clear hS63 hDs hI
  go_wp2_with fail
  refine (pick_pos _ g a n cap _ 2 (by omega) HI.out.rd (by omega) (by omega)).mono ?_
  rintro e w4 ⟨r, hr, rfl, hrd4, hg4⟩
  have HI4 := Lib.hid (HI.out.drawn hrd4 hg4)
  clear hrd4 hg4 HI
  by_cases hr0 : r = 0
  · subst hr0
    have c1 := fun w => specPrintOf_is ⟨#[97, 98]⟩ _ w (by decide) rfl
    obtain ⟨p, hp⟩ : ∃ p, prN (ByteArray.mk #[97, 98]).data.toList = p := ⟨_, rfl⟩
    rw [hp] at c1
    clear hp
    go_wp2_with fail
    refine (c1 _).mono ?_
    rintro e w5 ⟨rfl, rfl⟩
    clear c1
    go_wp2_with fail
    refine (pick_pos _ g a n cap _ 5 (by omega) HI4.out.rd (by omega) (by omega)).mono ?_
    rintro e w5 ⟨x, hx, rfl, hrd5, hg5⟩
    have HI5 := Lib.hid (HI4.out.drawn hrd5 hg5)
    clear hrd5 hg5 HI4
    go_wp2_with fail
    refine (pick_pos _ g a n cap _ 12 (by omega) HI5.out.rd (by omega) (by omega)).mono ?_
    rintro e w6 ⟨y, hy, rfl, hrd6, hg6⟩
    have HI6 := Lib.hid (HI5.out.drawn hrd6 hg6)
    clear hrd6 hg6 HI5
    have ha := (Below.refl w6.heap.size w6).alloc (Nat.le_refl _) (.cells #[.int .i64 (p : Int), .int .i64 (x : Int), .int .i64 (y : Int)] 31)
    have HIA := Lib.hid (HI6.out.called ha)
    obtain ⟨m, h1, h2, o1, h4⟩ := HIA.out.one
    have cJ := specJoin5_any S [((p : Int), (x : Int), (y : Int))] aS (some ⟨w6.heap.size, 0, none⟩) nS cS 1 1 _ (ents_len o1.own) rfl (by have := ents_len o1.own; omega) (by omega) o1.at_ (cellsAt_rec3 w6 31 (.int .i64 (p : Int)) (.int .i64 (x : Int)) (.int .i64 (y : Int)) w6.heap.size rfl)
    have HJL := Lib.hid (show (joinL5 S [((p : Int), (x : Int), (y : Int))]).length ≤ 277 by
      by_cases hab : shOk S ∧ shOk [((p : Int), (x : Int), (y : Int))]
      · rw [joinL5_ok hab.1 hab.2]
        have h5 := rowE_len (S ++ [((p : Int), (x : Int), (y : Int))])
        rw [List.length_append] at h5
        simp only [List.length_cons, List.length_nil] at h5
        omega
      · rw [joinL5_not hab]; exact Nat.zero_le _)
    have HJ63 := Lib.hid (show ∀ q ∈ joinL5 S [((p : Int), (x : Int), (y : Int))], q.2.2 ≤ 9223372036854775807 from fun q hq => by
      by_cases hab : shOk S ∧ shOk [((p : Int), (x : Int), (y : Int))]
      · rw [joinL5_ok hab.1 hab.2, rowE_mem, List.mem_append] at hq
        rcases hq with hq | hq
        · exact HS63.out q hq
        · rw [List.mem_singleton.1 hq]; simp only; omega
      · rw [joinL5_not hab] at hq; cases hq)
    generalize joinL5 S [((p : Int), (x : Int), (y : Int))] = J at cJ HJL HJ63
    have hJ := HJL.out
    clear h1 h2 o1 h4 ha
    go_wp2_with fail
    refine cJ.mono ?_
    rintro e w6b ⟨a6, n6, c6, rfl, o6⟩
    have HI6 := Lib.hid (HIA.out.shelf o6)
    clear o6 cJ HIA
    go_wp2_with fail
    refine (pick_pos _ g a n cap _ 6 (by omega) HI6.out.rd (by omega) (by omega)).mono ?_
    rintro e w7 ⟨y, hy, rfl, hrd7, hg7⟩
    have HI7 := Lib.hid (HI6.out.drawn hrd7 hg7)
    clear hrd7 hg7 HI6
    by_cases hy0 : y = 0
    · subst hy0
      obtain ⟨m, h1, h2, o1, h4⟩ := HI7.out.one
      have HN := Lib.hid (ents_len o1.own)
      have HE := Lib.hid (show entsC (J ++ [(0, -1, 0)]) = entsC J ++ [.int .i64 0, .int .i64 (-1), .int .i64 0] from entsC_snoc J (0, -1, 0))
      have hn9 : n6 ≤ 277 := by have := HN.out; omega
      have H1 := Lib.hid h1
      have H2 := Lib.hid h2
      have H4 := Lib.hid h4
      have HO := Lib.hid o1
      clear h1 h2 h4 o1
      go_wp2_with (at_builtin; refine wpList_append_apart rfl (.tmp 29) (.tmp 31) 23 rfl Try.ulE8 Try.infoE8 rfl (by decide) HO.out rfl #[.int .i64 0, .int .i64 (-1), .int .i64 0] rfl rfl (by simp [Value.oneCell']) (by unfold maxLen; omega) (by omega) ?_; intro a8 c8 w8 o8 g8 s8)
      have HI8 := Lib.hid (HI7.out.more H1.out H2.out HO.out.own H4.out (by have h := o8.own; rw [← HE.out] at h; exact h) g8)
      clear o8 g8 s8 HI7 HO H1 H2 H4
      go_wp2_with fail
      refine (short_any _ g a n cap _ 9 (by omega) (by omega) HI8.out.rd).mono ?_
      rintro e w9 ⟨s, hs, rfl, hrd9, hg9⟩
      have HI9 := Lib.hid (HI8.out.drawn hrd9 hg9)
      clear hrd9 hg9 HI8
      go_wp2
      (try simp only [Exit.inBlock, Exit.then]); refine bodyPost_ret (results_three9 rfl _ _ _) rfl ?_
      obtain ⟨_, _, _, q1, _⟩ := HI9.out.base
      obtain ⟨_, _, q2⟩ := HI9.out.docs
      exact ⟨(J ++ [(0, -1, 0)]), _, _, _, D, _, _, _, _, by (rw [List.length_append]; simp only [List.length_cons, List.length_nil]; omega), (fun x hx => (List.mem_append.1 hx).elim (fun hx => HJ63.out x hx) (fun hx => by rw [List.mem_singleton.1 hx]; decide)), by omega, HDs.out, by rw [ByteArray.size_append]; have e2 : (ByteArray.mk #[97, 98]).size = 2 := rfl; omega, enAt_of q1, txAt_of q2, rfl, HI9.out.below⟩
    · have hyf : ((y : Int) == 0) = false := beq_eq_false_iff_ne.2 (by omega)
      go_wp2_with fail
      refine (short_any _ g a n cap _ 9 (by omega) (by omega) HI7.out.rd).mono ?_
      rintro e w9 ⟨s, hs, rfl, hrd9, hg9⟩
      have HI9 := Lib.hid (HI7.out.drawn hrd9 hg9)
      clear hrd9 hg9 HI7
      go_wp2
      (try simp only [Exit.inBlock, Exit.then]); refine bodyPost_ret (results_three9 rfl _ _ _) rfl ?_
      obtain ⟨_, _, _, q1, _⟩ := HI9.out.base
      obtain ⟨_, _, q2⟩ := HI9.out.docs
      exact ⟨J, _, _, _, D, _, _, _, _, by omega, HJ63.out, by omega, HDs.out, by rw [ByteArray.size_append]; have e2 : (ByteArray.mk #[97, 98]).size = 2 := rfl; omega, enAt_of q1, txAt_of q2, rfl, HI9.out.below⟩
  · have hrf : ((r : Int) == 0) = false := beq_eq_false_iff_ne.2 (by omega)
    go_wp2_with fail
    refine (pick_pos _ g a n cap _ 6 (by omega) HI4.out.rd (by omega) (by omega)).mono ?_
    rintro e w7 ⟨y, hy, rfl, hrd7, hg7⟩
    have HI7 := Lib.hid (HI4.out.drawn hrd7 hg7)
    clear hrd7 hg7 HI4
    by_cases hy0 : y = 0
    · subst hy0
      obtain ⟨m, h1, h2, o1, h4⟩ := HI7.out.one
      have HN := Lib.hid (ents_len o1.own)
      have HE := Lib.hid (show entsC (S ++ [(0, -1, 0)]) = entsC S ++ [.int .i64 0, .int .i64 (-1), .int .i64 0] from entsC_snoc S (0, -1, 0))
      have hn9 : nS ≤ 277 := by have := HN.out; omega
      have H1 := Lib.hid h1
      have H2 := Lib.hid h2
      have H4 := Lib.hid h4
      have HO := Lib.hid o1
      clear h1 h2 h4 o1
      go_wp2_with (at_builtin; refine wpList_append_apart rfl (.tmp 29) (.tmp 31) 23 rfl Try.ulE8 Try.infoE8 rfl (by decide) HO.out rfl #[.int .i64 0, .int .i64 (-1), .int .i64 0] rfl rfl (by simp [Value.oneCell']) (by unfold maxLen; omega) (by omega) ?_; intro a8 c8 w8 o8 g8 s8)
      have HI8 := Lib.hid (HI7.out.more H1.out H2.out HO.out.own H4.out (by have h := o8.own; rw [← HE.out] at h; exact h) g8)
      clear o8 g8 s8 HI7 HO H1 H2 H4
      go_wp2_with fail
      refine (short_any _ g a n cap _ 9 (by omega) (by omega) HI8.out.rd).mono ?_
      rintro e w9 ⟨s, hs, rfl, hrd9, hg9⟩
      have HI9 := Lib.hid (HI8.out.drawn hrd9 hg9)
      clear hrd9 hg9 HI8
      go_wp2
      (try simp only [Exit.inBlock, Exit.then]); refine bodyPost_ret (results_three9 rfl _ _ _) rfl ?_
      obtain ⟨_, _, _, q1, _⟩ := HI9.out.base
      obtain ⟨_, _, q2⟩ := HI9.out.docs
      exact ⟨(S ++ [(0, -1, 0)]), _, _, _, D, _, _, _, _, by (rw [List.length_append]; simp only [List.length_cons, List.length_nil]; omega), (fun x hx => (List.mem_append.1 hx).elim (fun hx => HS63.out x hx) (fun hx => by rw [List.mem_singleton.1 hx]; decide)), by omega, HDs.out, by rw [ByteArray.size_append]; have e2 : (ByteArray.mk #[97, 98]).size = 2 := rfl; omega, enAt_of q1, txAt_of q2, rfl, HI9.out.below⟩
    · have hyf : ((y : Int) == 0) = false := beq_eq_false_iff_ne.2 (by omega)
      go_wp2_with fail
      refine (short_any _ g a n cap _ 9 (by omega) (by omega) HI7.out.rd).mono ?_
      rintro e w9 ⟨s, hs, rfl, hrd9, hg9⟩
      have HI9 := Lib.hid (HI7.out.drawn hrd9 hg9)
      clear hrd9 hg9 HI7
      go_wp2
      (try simp only [Exit.inBlock, Exit.then]); refine bodyPost_ret (results_three9 rfl _ _ _) rfl ?_
      obtain ⟨_, _, _, q1, _⟩ := HI9.out.base
      obtain ⟨_, _, q2⟩ := HI9.out.docs
      exact ⟨S, _, _, _, D, _, _, _, _, by omega, HS63.out, by omega, HDs.out, by rw [ByteArray.size_append]; have e2 : (ByteArray.mk #[97, 98]).size = 2 := rfl; omega, enAt_of q1, txAt_of q2, rfl, HI9.out.below⟩

end Go.Proofs.Ytclblnkeakkdeaa

namespace Go.Proofs.Ytclblnkeakkdeaa
open Go.RowKit Go.ChangeShapes Go.WideShapes Go.Deep

theorem list_choose {α : Type} {R : Nat → α → Prop} : ∀ n : Nat, (∀ i, i < n → ∃ x, R i x) → ∃ l : List α, l.length = n ∧ ∀ i (h : i < l.length), R i l[i]
  | 0, _ => ⟨[], rfl, fun i h => absurd h (by simp)⟩
  | n + 1, h => by
    obtain ⟨l, hl, hR⟩ := list_choose n (fun i hi => h i (by omega))
    obtain ⟨x, hx⟩ := h n (by omega)
    refine ⟨l ++ [x], by simp [hl], fun i hi => ?_⟩
    by_cases hin : i < l.length
    · rw [List.getElem_append_left hin]; exact hR i hin
    · have : i = n := by simp at hi; omega
      subst this
      rw [List.getElem_append_right (by omega)]
      simpa [hl] using hx

/-- The cells of a slice, element by element. -/
theorem cellsAt_elems {α : Type} {w : World} {a : Addr} (enc : α → List Value) (size : Nat) (hs : 0 < size) (hlen : ∀ x, (enc x).length = size) (l : List α)
    (h : ∀ i (hi : i < l.length) j, j < size → w.cell? (a.add (i * size + j)) = (enc l[i])[j]?) : CellsAt w (some a) (l.flatMap enc) := by
  refine ⟨fun hne => ?_⟩
  have hl0 : 0 < l.length := by
    cases l with
    | nil => exact absurd rfl hne
    | cons x l => simp
  obtain ⟨b, o, sp⟩ := a
  have c0 := h 0 hl0 0 hs
  rw [Nat.zero_mul, Nat.add_zero, List.getElem?_eq_getElem (by rw [hlen]; exact hs)] at c0
  have hsp : sp = none := by simpa [Addr.add] using World.cell?_spot c0
  subst hsp
  refine ⟨b, o, rfl, by simpa [Addr.add] using World.block_lt_of_cell? w _ c0, fun j v hj => ?_⟩
  have hjl : j < l.length * size := by
    have := (List.getElem?_eq_some_iff.1 hj).1
    rwa [flat_len enc size hlen] at this
  have hi : j / size < l.length := Nat.div_lt_of_lt_mul (by rw [Nat.mul_comm]; exact hjl)
  have hr : j % size < size := Nat.mod_lt _ hs
  have e : j / size * size + j % size = j := by rw [Nat.mul_comm]; exact Nat.div_add_mod j size
  have hc := h (j / size) hi (j % size) hr
  rw [e, Addr.add_lit] at hc
  rw [hc]
  have hf := flat_get enc size hlen l (j / size) (j % size) hi hr
  rw [e, hj] at hf
  exact hf.symm

theorem map_flat {α : Type} (f : α → Value) (l : List α) : l.map f = l.flatMap (fun s => [f s]) := by
  induction l with
  | nil => rfl
  | cons x l ih => simp [ih]

section
variable {H : Type} {enc : TypeId × Value → H} {P : Program} {w : World} {spare : Nat → Bool} {held : Bool}

/-- A slice that came in, with what each element reads as. -/
theorem open_elems {α : Type} {t e : TypeId} {a : Option Addr} {n c : Nat} {d : DataW H} {p : List MemPlace} (cellsOf : α → List Value) (size : Nat) (ok : α → Prop) (hs : 0 < size) (hlen : ∀ x, (cellsOf x).length = size)
    (ht : P.underlying t = some (.slice e)) (hC : P.cellsOf e = size)
    (hel : ∀ fuel cs x, cs.length = size → DataW.trod enc P w 0 spare held fuel e cs = some x → ∃ y, cs = cellsOf y ∧ ok y)
    (h : DataW.Trod enc P w 0 spare held t (.slice a n c) d p) : ∃ l : List α, n = l.length ∧ n ≤ c ∧ c ≤ maxLen ∧ (∀ x ∈ l, ok x) ∧ CellsAt w a (l.flatMap cellsOf) := by
  obtain ⟨fuel, hf⟩ := h
  rcases open_slice ht hf with ⟨hcs, _⟩ | ⟨x, len, cap, m, nn, D, Pl, hcs, _, hl, hm, hmm, _, hi⟩
  · simp [Value.cells] at hcs
    obtain ⟨rfl, rfl, rfl⟩ := hcs
    exact ⟨[], rfl, Nat.le_refl _, by decide, fun x hx => absurd hx (by simp), cellsAt_nil _ _⟩
  · simp [Value.cells] at hcs
    obtain ⟨rfl, rfl, rfl⟩ := hcs
    have hnm : n ≤ m := by rw [hmm]; split <;> omega
    obtain ⟨l, hll, hR⟩ := list_choose (R := fun i y => ok y ∧ ∀ j, j < size → w.cell? (x.add (i * size + j)) = (cellsOf y)[j]?) n (fun i hi' => by
      obtain ⟨cs', hc, ht'⟩ := hi i (by omega)
      rw [hC] at hc
      obtain ⟨_, hcl, hat⟩ := World.cells?_some hc
      obtain ⟨y, rfl, hy⟩ := hel nn cs' _ hcl ht'
      exact ⟨y, hy, fun j hj => by rw [← Go.Deep.add_add]; exact hat j hj⟩)
    refine ⟨l, hll.symm, hl, hm, fun y hy => ?_, cellsAt_elems cellsOf size hs hlen l (fun i hi' j hj => (hR i hi').2 j hj)⟩
    obtain ⟨i, hi', rfl⟩ := List.getElem_of_mem hy
    exact (hR i hi').1

/-- The one-cell fields of a record. -/
theorem open_fields {e : TypeId} {fs : Array Field} {fuel : Nat} {cs : List Value} {x : DataW H × List MemPlace} (he : P.underlying e = some (.struct fs)) (hone : oneCellFields P fs = true) (hl : cs.length = fs.size)
    (h : DataW.trod enc P w 0 spare held fuel e cs = some x) : ∀ (j : Nat) (f : Field), fs[j]? = some f → ∃ v y n, cs[j]? = some v ∧ DataW.trod enc P w 0 spare held n f.type [v] = some y := by
  obtain ⟨xs, n, _, _, _, hxl, hg⟩ := DataW.trod_struct he h
  intro j f hj
  obtain ⟨h1, h2⟩ := hone_of hone j f hj
  have hjl : j < fs.size := (Array.getElem?_eq_some_iff.1 hj).1
  have hgj := hg j f hj
  have hcj : j < cs.length := by omega
  rw [h1, h2, List.drop_eq_getElem_cons hcj, List.getElem?_eq_getElem (by omega)] at hgj
  exact ⟨cs[j], _, n, List.getElem?_eq_getElem hcj, hgj⟩

theorem open_strs {t e : TypeId} {a : Option Addr} {n c : Nat} {d : DataW H} {p : List MemPlace} (ht : P.underlying t = some (.slice e)) (he : P.underlying e = some .string) (hC : P.cellsOf e = 1)
    (h : DataW.Trod enc P w 0 spare held t (.slice a n c) d p) : ∃ l : List ByteArray, n = l.length ∧ n ≤ c ∧ c ≤ maxLen ∧ (∀ x ∈ l, x.size ≤ maxLen) ∧ CellsAt w a (strsC l) := by
  obtain ⟨l, h1, h2, h3, h4, h5⟩ := open_elems (fun s : ByteArray => [Value.string s]) 1 (fun s => s.size ≤ maxLen) (by decide) (fun _ => rfl) ht hC (fun fuel cs x _ hx => by
    obtain ⟨s, rfl, _, hw⟩ := DataW.trod_string he hx
    exact ⟨s, rfl, hw⟩) h
  refine ⟨l, h1, h2, h3, h4, ?_⟩
  rw [strsC, map_flat]; exact h5

theorem open_ints' {t e : TypeId} {a : Option Addr} {n c : Nat} {d : DataW H} {p : List MemPlace} (ht : P.underlying t = some (.slice e)) (he : P.underlying e = some (.int .i64)) (hC : P.cellsOf e = 1)
    (h : DataW.Trod enc P w 0 spare held t (.slice a n c) d p) : ∃ l : List Int, n = l.length ∧ n ≤ c ∧ c ≤ maxLen ∧ (∀ x ∈ l, (Lit.int .i64 x).wf = true) ∧ CellsAt w a (intCells l) := by
  obtain ⟨l, h1, h2, h3, h4, h5⟩ := open_elems (fun s : Int => [Value.int .i64 s]) 1 (fun s => (Lit.int .i64 s).wf = true) (by decide) (fun _ => rfl) ht hC (fun fuel cs x _ hx => by
    obtain ⟨s, rfl, _, hw⟩ := DataW.trod_int he hx
    exact ⟨s, rfl, hw⟩) h
  refine ⟨l, h1, h2, h3, h4, ?_⟩
  rw [intCells, map_flat]; exact h5
end

end Go.Proofs.Ytclblnkeakkdeaa
