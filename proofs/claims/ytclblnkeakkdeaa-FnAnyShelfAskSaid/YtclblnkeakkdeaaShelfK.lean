/-
  The contract of the program's function ShelfOf. Condition: texts have at most 2^22 bytes.
-/
import Derived.Test.YtclblnkeakkdeaaShelfE
import Derived.Test.YtclblnkeakkdeaaShelfJ
import Derived.Test.YtclblnkeakkdeaaMarksJ
namespace Go.Proofs.Ytclblnkeakkdeaa
open Go.RowKit

/-- The elements of a slice are appended to a row of the call's own; what lies in other blocks stays. -/
theorem wpList_append_srcG {P : Program} {W w0 : World} {ops : Array Oper} {rest : List Oper} {o : Oper} {act : Act} {Q : Exit → Act → World → Prop} {B : Nat} {e1 : TypeId} {s1 : Nat} {a1 : Option Addr} {n1 c1 : Nat} {xs1 : List Value}
    (hgd : o.guard = none) (s x : Operand) (t : TypeId) (ho : o.op = .call { callee := .builtin .append, args := #[s, x], argTypes := #[t, t] })
    {z : Value} {bytes : Nat} (ht : P.underlying t = some (.slice e1)) (hinfo : (P.info? e1).map (fun i => (i.zero, i.size, i.bytes)) = some (some z, s1, bytes)) (hzs : z.cells.size = s1) (hsz : 0 < s1)
    (h2 : One W B w0 e1 s1 a1 n1 c1 xs1) (hs : act.eval s = .slice a1 n1 c1) (A : Option Addr) (m c : Nat) (hx : act.eval x = .slice A m c) (news : List Value) (hm : news.length = m * s1) (hat : CellsAt w0 A news) (h1 : ∀ u ∈ news, u.oneCell' = true)
    (h63 : n1 + m ≤ maxLen) (hbytes : (n1 + m) * bytes ≤ 140737488355328)
    (h : ∀ ad' cap' w', One W B w' e1 s1 ad' (n1 + m) cap' (xs1 ++ news) → w0.grownBy w' (Value.ownBlock (.slice a1 n1 c1)) → wpList P ops Q rest (act.put o.dst (.slice ad' (n1 + m) cap')) w') : wpList P ops Q (o :: rest) act w0 :=
  wpList_plain hgd fun _ hK => wp_append_src s x t ho ht hinfo hzs hsz h2 hs A m c hx news hm hat h1 h63 hbytes fun ad' cap' w' h3 h4 => hK _ _ (h ad' cap' w' h3 h4)

set_option maxRecDepth 4000 in
set_option maxHeartbeats 8000000 in
theorem implShelfOf_any (d : Int) (s : ByteArray) (k v : Int) (M : List (Int × Int)) (w : World) (hM : marksL s.data.toList k v = M) (hs : s.size ≤ 4194304) (hv9 : v ≤ 9223372036854775807) :
    Calls Try.prog 52 #[.int .i64 d, .string s, .int .i64 k, .int .i64 v] w fun e w' => ∃ a n c, e = .returned (.slice a n c) ∧ One w w.heap.size w' 31 3 a n c (entsC (shelfL d M)) := by
  by_cases hd : d < 0
  · rw [shelfL_not hd]
    go_enter Try.func52, Try.ntmps52
    go_wp2
    go_ret
    exact ⟨_, _, _, rfl, One.nil w 31 3⟩
  have hMl : M.length ≤ 4194304 := by
    rw [← hM, marksL, List.length_map]
    have h1 := chosenN_len (printsL s.data.toList k) v
    have h2 := printsN_room s.data.toList k
    have : s.data.toList.length = s.size := rfl
    unfold marksAt
    omega
  have c1 := fun w => implMarks_any s k v M w hM hs hv9
  have HR := Lib.hid (shelfL_ok hd M)
  have HMl := Lib.hid hMl
  have hd2 : (0 : Int) ≤ d := by omega
  clear hM hMl hd
  go_enter Try.func52, Try.ntmps52
  go_wp2_with fail
  refine (c1 _).mono ?_
  rintro e w2 ⟨ma, mn, mc, rfl, h2⟩
  have HMN := Lib.hid (pairs_len h2.own)
  have hmn9 : mn ≤ 4194304 := by have := HMN.out; have := HMl.out; omega
  have hone0 : One w w.heap.size w2 31 3 none 0 0 (entsC ((M.take 0).map fun m => (m.1, d, m.2))) := (One.nil w 31 3).later h2.below
  have hm0 := h2.own
  clear h2 c1
  go_wp2
  go_loopw [9, 19] (fun o_ i_ wr => ∃ i : Nat, i ≤ mn ∧ i_ = .int .i64 i ∧ ∃ a c, o_ = .slice a i c ∧ One w w.heap.size wr 31 3 a i c (entsC ((M.take i).map fun m => (m.1, d, m.2))) ∧ wr.ownsRow w.heap.size 46 2 (.slice ma mn mc) mn (pairsC M)) (fun _ i_ _ => mn - (intOf i_).toNat)
  case atStart => exact ⟨0, Nat.zero_le _, rfl, _, _, rfl, hone0, hm0⟩
  case round =>
    clear hone0 hm0
    obtain ⟨i, hi, rfl, a, c, rfl, hone, hmr⟩ := hrel
    by_cases hlt : i < mn
    · have hiM : i < M.length := by have := HMN.out; omega
      obtain ⟨p, hp⟩ : ∃ p, M[i].1 = p := ⟨_, rfl⟩
      obtain ⟨x, hx⟩ : ∃ x, M[i].2 = x := ⟨_, rfl⟩
      have hm : M[i] = (p, x) := by rw [← hp, ← hx]
      obtain ⟨mb, mo, rfl, hmb, g1, g2⟩ := pair_at5 (cellsAt_own hmr) hiM hm
      have HS := Lib.hid (show entsC ((M.take (i + 1)).map fun m => (m.1, d, m.2)) = entsC ((M.take i).map fun m => (m.1, d, m.2)) ++ [.int .i64 p, .int .i64 d, .int .i64 x] by
        rw [List.take_succ_eq_append_getElem hiM, List.map_append, hm]
        exact entsC_snoc _ _)
      have z1 : (i : Int) < (mn : Int) := by omega
      have z2 : (0 : Int) ≤ (i : Int) := by omega
      clear hp hx hm
      go_wp2_with (at_builtin; refine wpList_append_srcG rfl (.tmp 23) (.tmp 30) 23 rfl Try.ulE5 Try.infoE5 rfl (by decide) ((hone.alloc _).alloc _) rfl (some ⟨wr.heap.size + 1, 0, none⟩) 1 1 rfl [.int .i64 p, .int .i64 d, .int .i64 x] rfl (cellsAt_rec3 _ _ _ _ _ _ (by simp)) (by simp [Value.oneCell']) (by unfold maxLen; omega) (by omega) ?_; intro a5 c5 w5 h5 g5)
      go_roundw
      case rel => exact ⟨i + 1, by omega, by go_num, a5, c5, rfl, by rw [HS.out]; exact h5, ownsRow_kept_apart ((hmr.alloc _).alloc _) ((hone.alloc _).alloc _).own (by decide) g5⟩
      case measure => simp [intOf]; omega
    · have hO : One w w.heap.size wr 31 3 a i c (entsC (M.map fun m => (m.1, d, m.2))) := by
        have h := hone
        rwa [List.take_of_length_le (by have := HMN.out; omega)] at h
      have c3 := implSorted_any i (M.map fun m => (m.1, d, m.2)) a i c wr (Nat.le_refl _) (ents_len hO.own) (by omega) hO.cap.1 hO.at_
      have HB := Lib.hid hO.below
      clear hone hmr hO
      go_wp2_with fail
      refine c3.mono ?_
      rintro e w4 ⟨a', n', c', rfl, h4⟩
      go_wp2
      go_ret
      exact ⟨_, _, _, rfl, by rw [HR.out]; exact h4.under HB.out HB.out.size⟩

end Go.Proofs.Ytclblnkeakkdeaa
