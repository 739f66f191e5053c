/-
  The contracts of the laws' own helpers over texts: markText (a text for a number), eqStringS, markStringS, heldStringS, szStringS, toStringS. Conditions: fewer than 2^40 elements; what is marked is the call's own.
-/
import Derived.Test.YtbnagmjhdnnheaaMem
import Derived.Test.YtbnagmjhdnnheaaHelpI
import Derived.Deep.RegionHeld3
import Derived.Deep.DeepFit
import Derived.IntWalk
namespace Go.Proofs.Ytbnagmjhdnnheaa
open Go.RowKit

theorem Try.ulS' : Try.prog.underlying 53 = some (.slice 9) := by kernel_rfl
theorem Try.uls' : Try.prog.underlying 9 = some .string := by kernel_rfl
theorem Try.ulB' : Try.prog.underlying 115 = some (.slice 5) := by kernel_rfl
theorem Try.ulb' : Try.prog.underlying 5 = some (.int .u8) := by kernel_rfl

/-- The decimal digits of a number ahead of what is there. -/
def digL (k : Nat) (out : List UInt8) : List UInt8 := if h : 0 < k then digL (k / 10) (UInt8.ofNat (48 + k % 10) :: out) else out
termination_by k
decreasing_by omega

theorem digL_pos {k : Nat} (h : 0 < k) (out : List UInt8) : digL k out = digL (k / 10) (UInt8.ofNat (48 + k % 10) :: out) := by rw [digL, dif_pos h]
theorem digL_zero (out : List UInt8) : digL 0 out = out := by rw [digL, dif_neg (by omega)]

/-- The text that marks a number. -/
def markB (k : Nat) : ByteArray := ⟨(109 :: digL k []).toArray⟩

theorem one_byte_string {P : Program} (w : World) (src dst e : TypeId) (v : Int) (hs : P.underlying src = some (.slice e)) (he : P.underlying e = some (.int .u8)) (hd : P.underlying dst = some .string) :
    (convert src dst (.slice (some ⟨w.heap.size, 0, none⟩) 1 1)).run P (w.alloc (.cells #[.int .u8 v] e)) = .ok (.string ⟨#[UInt8.ofNat v.toNat]⟩) (w.alloc (.cells #[.int .u8 v] e)) := by
  rw [run_convert_bytes_string _ src dst e _ 1 1 hs he hd]
  have hl := run_loadCells_list (P := P) (w.alloc (.cells #[.int .u8 v] e)) ⟨w.heap.size, 0, none⟩ [.int .u8 v] (fun j u hj => by
    rw [Addr.add_lit, cell_of_row _ w.heap.size (0 + j) _ e (0, 0) (heap_alloc_new w _)]
    simpa using hj)
  rw [run_bytesToString _ ⟨w.heap.size, 0, none⟩ 1 1 [v] hl]
  rfl

theorem dig_cat (u : UInt8) (out : List UInt8) : (⟨#[u]⟩ : ByteArray) ++ ⟨out.toArray⟩ = ⟨(u :: out).toArray⟩ := by
  apply ByteArray.ext
  simp
theorem ret_strM {a b : ByteArray} (h : a = b) : Ending.returned (.string a) = .returned (.string b) := by rw [h]

set_option maxHeartbeats 1000000 in
theorem markText_any (k : Nat) (w : World) (h0 : 0 < k) (hk : k < 1099511627776) :
    Calls Try.prog 76 #[.int .i64 k] w fun e w' => e = .returned (.string (markB k)) ∧ Below w.heap.size w w' := by
  go_enter Try.func76, Try.ntmps76
  go_wp2
  go_loopw [0, 3] (fun q v wr => ∃ n : Nat, ∃ out : List UInt8, n + out.length ≤ k ∧ q = .int .i64 n ∧ v = .string ⟨out.toArray⟩ ∧ Hid (digL n out = digL k []) ∧ w.heap.size ≤ wr.heap.size ∧ Below w.heap.size w wr)
    (fun q _ _ => (intOf q).toNat)
  case atStart => exact ⟨k, [], by simp, rfl, rfl, Lib.hid rfl, Nat.le_refl _, Below.refl _ _⟩
  case round =>
    obtain ⟨n, out, hn, rfl, rfl, HD, hsz, hb⟩ := hrel
    by_cases hp : 0 < n
    · have HX := (show digL (n / 10) (UInt8.ofNat (48 + n % 10) :: out) = digL k [] by rw [← digL_pos hp, HD.out])
      have hm : n % 10 < 10 := Nat.mod_lt _ (by omega)
      have hd : n / 10 < n := by omega
      obtain ⟨r, hr⟩ : ∃ r, n % 10 = r := ⟨_, rfl⟩
      obtain ⟨q, hq⟩ : ∃ q, n / 10 = q := ⟨_, rfl⟩
      rw [hr] at hm HX
      rw [hq] at hd HX
      have e1 : (n : Int).tmod 10 = r := by rw [← hr]; exact (Int.ofNat_tmod n 10).symm
      have e2 : (n : Int).tdiv 10 = q := by rw [← hq]; exact (Int.ofNat_tdiv n 10).symm
      have e3 : IntKind.u8.wrap (48 + (r : Int)) = 48 + (r : Int) := by simp [IntKind.wrap, IntKind.bits, IntKind.signed]; omega
      obtain ⟨u, hu⟩ : ∃ u : UInt8, UInt8.ofNat (48 + r) = u := ⟨_, rfl⟩
      have hcv : ∀ w : World, (convert 115 9 (.slice (some ⟨w.heap.size, 0, none⟩) 1 1)).run Try.prog (w.alloc (.cells #[.int .u8 (48 + (r : Int))] 5)) = .ok (.string ⟨#[u]⟩) (w.alloc (.cells #[.int .u8 (48 + (r : Int))] 5)) := fun w => by
        rw [one_byte_string (P := Try.prog) w 115 9 5 (48 + (r : Int)) Try.ulB' Try.ulb' Try.uls', ← hu]
        have e : (48 + (r : Int)).toNat = 48 + r := by omega
        rw [e]
      rw [hu] at HX
      have HX := Lib.hid HX
      clear hr hq hu
      go_wp2
      go_roundw
      case rel => exact ⟨q, u :: out, by simp; omega, rfl, by rw [dig_cat], HX, Nat.le_trans hsz (heap_le_alloc _ _), hb.alloc hsz _⟩
      case measure => simp [intOf]; omega
    · obtain rfl : n = 0 := by omega
      have HE := Lib.hid (show (⟨#[109]⟩ : ByteArray) ++ ⟨out.toArray⟩ = markB k by
        have h := HD.out
        rw [digL_zero] at h
        rw [markB, ← h]
        apply ByteArray.ext
        simp)
      go_wp2
      go_ret
      exact ⟨ret_strM HE.out, hb⟩

theorem markText_is (z : Int) (t : ByteArray) (w : World) (h0 : 0 < z) (hk : z < 1099511627776) (ht : markB z.toNat = t) :
    Calls Try.prog 76 #[.int .i64 z] w fun e w' => e = .returned (.string t) ∧ Below w.heap.size w w' := by
  obtain ⟨k, rfl⟩ : ∃ k : Nat, z = k := ⟨z.toNat, by omega⟩
  subst ht
  exact markText_any k w (by omega) (by omega)

theorem grown_below {w w' : World} (h : Below w.heap.size w w') (row : Option Nat) : w.grownBy w' row := ⟨h.os, h.tape, h.output, h.size, fun k hk _ => h.block k hk⟩

/-! ### Slices of texts -/
theorem strs_len {w : World} {B : Nat} {e : TypeId} {a : Option Addr} {n c : Nat} {l : List ByteArray} (h : w.ownsRow B e 1 (.slice a n c) n (strsC l)) : n = l.length := by
  have := h.1
  rw [strsC_len] at this; omega

set_option maxHeartbeats 1000000 in
theorem eqStringS_same (a b : Option Addr) (n c d : Nat) (l : List ByteArray) (w : World) (hn : n = l.length) (hl : n < 1099511627776) (h1 : CellsAt w a (strsC l)) (h2 : CellsAt w b (strsC l)) :
    Calls Try.prog 43 #[.slice a n c, .slice b n d] w fun e w' => e = .returned (.bool true) ∧ ∃ q, w' = w.drewN q := by
  have HN := Lib.hid hn
  clear hn
  go_enter Try.func43, Try.ntmps43
  go_wp2
  go_loopw [5] (fun i wr => ∃ k : Nat, k ≤ n ∧ i = .int .i64 k ∧ ∃ q, wr = w.drewN q) (fun i _ => n - (intOf i).toNat)
  case atStart => exact ⟨0, Nat.zero_le _, rfl, 0, rfl⟩
  case round =>
    obtain ⟨k, hk, rfl, q, rfl⟩ := hrel
    by_cases hlt : k < n
    · have hkl : k < l.length := by rw [← HN.out]; exact hlt
      have hne : l ≠ [] := fun e => by rw [e] at hkl; simp at hkl
      obtain ⟨b1, o1, rfl, _, hc1⟩ := h1.str hne
      obtain ⟨b2, o2, rfl, _, hc2⟩ := h2.str hne
      have g1 := hc1 k hkl
      have g2 := hc2 k hkl
      obtain ⟨z, hz⟩ : ∃ z, l[k] = z := ⟨_, rfl⟩
      rw [hz] at g1 g2
      clear hz hc1 hc2 hne
      go_wp2
      go_quiet (fail)
      go_wp2
      go_roundw
      case rel => exact ⟨k + 1, by omega, by go_num, _, rfl⟩
      case measure => simp [intOf]; omega
    · go_wp2
      go_ret
      exact ⟨rfl, q, rfl⟩

/-- Texts that mark ascending numbers. -/
def marksT (m : Nat) (n : Nat) : List ByteArray := (List.range n).map fun i => markB (m + i)
theorem marksT_len (m n : Nat) : (marksT m n).length = n := by simp [marksT]
theorem marksT_get (m n k : Nat) (h : k < n) : (marksT m n)[k]'(by rw [marksT_len]; exact h) = markB (m + k) := by simp [marksT]
theorem marksT_step (m : Nat) (l : List ByteArray) (k : Nat) (h : k < l.length) {t : ByteArray} (ht : markB (m + k) = t) : (strsC (marksT m k ++ l.drop k)).set k (.string t) = strsC (marksT m (k + 1) ++ l.drop (k + 1)) := by
  have e : l.drop k = l[k] :: l.drop (k + 1) := (List.drop_eq_getElem_cons h)
  have e2 : (marksT m k ++ l.drop k).set k t = marksT m (k + 1) ++ l.drop (k + 1) := by
    rw [List.set_append, if_neg (by rw [marksT_len]; omega), marksT_len, Nat.sub_self, e, List.set_cons_zero, marksT, marksT, List.range_succ, List.map_append, List.append_assoc, ← ht]
    rfl
  rw [← e2, strsC, strsC, List.map_set]

set_option maxHeartbeats 2000000 in
theorem markStringS_any (B : Nat) (a : Option Addr) (n c : Nat) (l : List ByteArray) (m : Nat) (w : World) (hown : w.ownsRow B 9 1 (.slice a n c) n (strsC l)) (hn : n < 549755813888) (h0 : 0 < m) (hm : m < 549755813888) :
    Calls Try.prog 44 #[.slice a n c, .int .i64 m] w fun e w' => e = .returned (.int .i64 ((m : Int) + n)) ∧ w'.ownsRow B 9 1 (.slice a n c) n (strsC (marksT m n)) ∧ w.grownBy w' (Value.ownBlock (.slice a n c)) := by
  have hlen : l.length = n := (strs_len hown).symm
  have HL := Lib.hid hlen
  clear hlen
  go_enter Try.func44, Try.ntmps44
  go_wp2
  go_loopw [1, 5] (fun q i wr => ∃ k : Nat, k ≤ n ∧ i = .int .i64 k ∧ q = .int .i64 ((m : Int) + k) ∧ wr.ownsRow B 9 1 (.slice a n c) n (strsC (marksT m k ++ l.drop k)) ∧ w.grownBy wr (Value.ownBlock (.slice a n c))) (fun _ i _ => n - (intOf i).toNat)
  case atStart => exact ⟨0, Nat.zero_le _, rfl, by go_num, by simpa [marksT] using hown, World.grownBy.refl _ _⟩
  case round =>
    obtain ⟨k, hk, rfl, rfl, hownr, hg⟩ := hrel
    by_cases hlt : k < n
    · obtain ⟨g, rfl⟩ : ∃ g, a = some ⟨g, 0, none⟩ := by
        rcases hownr.2 with ⟨hv, h0⟩ | ⟨g, cap', cur, hv, _⟩
        · omega
        · exact ⟨g, (by simpa using hv : a = some ⟨g, 0, none⟩ ∧ c = cap').1⟩
      have hgs := (hownr.lt g rfl).2
      obtain ⟨t, ht⟩ : ∃ t, markB (m + k) = t := ⟨_, rfl⟩
      have HX := Lib.hid (marksT_step m l k (by rw [HL.out]; exact hlt) ht)
      have HT := Lib.hid ht
      clear ht
      have E0 : Hid ((m : Int) + (k : Int) = ((m + k : Nat) : Int)) := Lib.hid (by omega)
      go_wp2_with fail
      refine (markText_is _ t _ (by omega) (by omega) (by rw [E0.out]; exact HT.out)).mono ?_
      rintro e w1 ⟨rfl, hb1⟩
      have hown1 := ownsRow_below hownr hb1
      have hg1 := grownBy_trans hg (grown_below hb1 _)
      have hfz : w1.frozen? ⟨g, k, none⟩ = false := hown1.frozenAt k
      obtain ⟨z, hcell⟩ : ∃ z, w1.cell? ⟨g, k, none⟩ = some z := by
        rw [hown1.cellAt k (by omega)]
        exact ⟨_, List.getElem?_eq_getElem (by rw [strsC_len, List.length_append, marksT_len, List.length_drop, HL.out]; omega)⟩
      have hst := hown1.stored k (.string t)
      rw [HX.out] at hst
      obtain ⟨hs1, hs2⟩ := hst
      clear hownr hown1 hb1 hg
      go_wp2
      go_roundw
      case rel => exact ⟨k + 1, by omega, by go_num, by go_num, hs1, grownBy_trans hg1 hs2⟩
      case measure => simp [intOf]; omega
    · obtain rfl : k = n := by omega
      rw [show marksT m k ++ l.drop k = marksT m k from by rw [List.drop_of_length_le (by rw [HL.out]; exact Nat.le_refl _), List.append_nil]] at hownr
      go_wp2
      go_ret
      exact ⟨rfl, hownr, hg⟩



theorem Try.infoS' : (Try.prog.info? 9).map (fun i => (i.zero, i.size, i.bytes)) = some (some (.string ⟨#[]⟩), 1, 16) := by kernel_rfl

/-- How much room a law has left behind its texts. -/
theorem szStringS_any (l : List ByteArray) (a : Option Addr) (n c left : Nat) (w : World) (hn : n = l.length) (hl : left ≤ 1048576) (hm : n ≤ maxLen) (hs : ∀ x ∈ l, x.size ≤ maxLen) (hat : CellsAt w a (strsC l)) :
    Calls Try.prog 39 #[.slice a n c, .int .i64 left] w fun e w' => (∃ r : Int, e = .returned (.int .i64 r) ∧ (r < 0 ∨ (r = (left : Int) - n - totalS l ∧ 0 ≤ r))) ∧ w = w' := by
  unfold maxLen at hm hs
  have HN := Lib.hid hn
  have HS := Lib.hid hs
  clear hn hs
  by_cases h0 : left < n
  · have e1 : IntKind.i64.wrap ((left : Int) - n) = (left : Int) - n := IntWalk.i64_in _ (by omega)
    have t1 : (left : Int) - n < 0 := by omega
    go_enter Try.func39, Try.ntmps39
    go_wp2
    go_ret
    exact ⟨⟨-1, rfl, .inl (by decide)⟩, rfl⟩
  · have e1 : IntKind.i64.wrap ((left : Int) - n) = (left : Int) - n := IntWalk.i64_in _ (by omega)
    have t1 : ¬ (left : Int) - n < 0 := by omega
    go_enter Try.func39, Try.ntmps39
    go_wp2
    go_loop [1, 5] (fun q i => ∃ k m : Nat, k ≤ n ∧ i = .int .i64 k ∧ q = .int .i64 m ∧ m ≤ 1048576 ∧ Hid ((m : Int) = (left : Int) - n - totalS (l.take k))) (fun _ i => n - (intOf i).toNat)
    case atStart => exact ⟨0, left - n, Nat.zero_le _, rfl, by congr 1; omega, by omega, Lib.hid (by simp only [List.take_zero, totalS_nil]; omega)⟩
    case round =>
      obtain ⟨k, m, hk, rfl, rfl, hm9, HM⟩ := hrel
      by_cases hlt : k < n
      · have hkl : k < l.length := by rw [← HN.out]; exact hlt
        obtain ⟨b, o, rfl, _, hc⟩ := hat.str (fun e => by rw [e] at hkl; simp at hkl)
        have g1 := hc k hkl
        have hxs := HS.out (l[k]) (List.getElem_mem hkl)
        have htk := totalS_take l k hkl
        have hto := totalS_take_le l (k + 1)
        obtain ⟨x, hx⟩ : ∃ x, l[k] = x := ⟨_, rfl⟩
        rw [hx] at g1 hxs htk
        have HT := Lib.hid htk
        have HO := Lib.hid hto
        clear hc hx htk hto
        have e2 : IntKind.i64.wrap ((m : Int) - x.size) = (m : Int) - x.size := IntWalk.i64_in _ (by omega)
        by_cases hx : m < x.size
        · have t2 : (m : Int) - x.size < 0 := by omega
          go_wp2
          go_ret
          exact ⟨⟨-1, rfl, .inl (by decide)⟩, rfl⟩
        · have t2 : ¬ (m : Int) - x.size < 0 := by omega
          go_wp2
          go_round
          case rel => exact ⟨k + 1, m - x.size, by omega, by go_num, by congr 1; omega, by omega, Lib.hid (by have h1 := HM.out; have h2 := HT.out; omega)⟩
          case measure => simp [intOf]; omega
      · obtain rfl : k = n := by omega
        have hE : l.take k = l := List.take_of_length_le (by rw [HN.out]; exact Nat.le_refl _)
        have h1 := HM.out
        rw [hE] at h1
        have HE := Lib.hid h1
        clear hE h1 e1 t1
        go_wp2
        go_ret
        exact ⟨⟨m, rfl, .inr ⟨HE.out, by omega⟩⟩, rfl⟩

set_option maxHeartbeats 1000000 in
/-- The laws' copy of a slice of texts: a row of its own. -/
theorem toStringS_any (l : List ByteArray) (a : Option Addr) (n c : Nat) (w : World) (hn : n = l.length) (hm : n ≤ 1048576) (hat : CellsAt w a (strsC l)) :
    Calls Try.prog 41 #[.slice a n c] w fun e w' => ∃ a', e = .returned (.slice a' n n) ∧ One w w.heap.size w' 9 1 a' n n (strsC l) := by
  obtain ⟨zs, w1, hmk, hzl, hone⟩ := make_own (P := Try.prog) 53 9 Try.ulS' Try.infoS' n (by omega) (by unfold maxLen; omega) w
  have HN := Lib.hid hn
  have HZ := Lib.hid hzl
  clear hn hzl
  go_enter Try.func41, Try.ntmps41
  go_wp2
  clear hmk
  go_loopw [4] (fun i wr => ∃ k : Nat, k ≤ n ∧ i = .int .i64 k ∧ One w w.heap.size wr 9 1 (some ⟨w.heap.size, 0, none⟩) n n (strsC (l.take k) ++ zs.drop k)) (fun i _ => n - (intOf i).toNat)
  case atStart => exact ⟨0, Nat.zero_le _, rfl, by simpa [strsC] using hone⟩
  case round =>
    clear hone
    obtain ⟨k, hk, rfl, hone⟩ := hrel
    by_cases hlt : k < n
    · have hkl : k < l.length := by rw [← HN.out]; exact hlt
      obtain ⟨b, o, rfl, _, hc⟩ := (hat.below hone.below).str (fun e => by rw [e] at hkl; simp at hkl)
      have g1 := hc k hkl
      obtain ⟨t, ht⟩ : ∃ t, l[k] = t := ⟨_, rfl⟩
      rw [ht] at g1
      have hst := hone.stored k (.string t)
      rw [set_next (by rw [strsC_len, List.length_take]; omega) (by rw [HZ.out]; omega), ← ht, ← strsC_take l k hkl] at hst
      obtain ⟨z, hz⟩ := hone.cell k (by omega)
      have hfz := hone.frozen k
      rw [ht] at hst
      clear hc hone ht
      go_wp2
      go_roundw
      case rel => exact ⟨k + 1, by omega, by go_num, hst⟩
      case measure => simp [intOf]; omega
    · obtain rfl : k = n := by omega
      have hE : strsC (l.take k) ++ zs.drop k = strsC l := by
        rw [List.take_of_length_le (by rw [HN.out]; exact Nat.le_refl _), List.drop_of_length_le (by rw [HZ.out]; omega), List.append_nil]
      rw [hE] at hone
      clear hE
      go_wp2
      go_ret
      exact ⟨_, rfl, hone⟩

end Go.Proofs.Ytbnagmjhdnnheaa
