/-
  The contracts of the functions PutNumber and TakeNumber, the model's and the program's. Condition: texts have at most 2^22 bytes.
-/
import Derived.Test.YtapombdkkcjodaaMem
import Derived.Test.YtapombdkkcjodaaMathSix
import Derived.Test.YtapombdkkcjodaaProg
import Derived.Lib.Hide
import Derived.IntWalk
import Derived.Deep.QuietTactic
import Derived.BigQuiet
namespace Go.Proofs.Ytapombdkkcjodaa
open Go.RowKit

theorem Try.ulB6 : Try.prog.underlying 22 = some (.slice 5) := by kernel_rfl
theorem Try.ulb6 : Try.prog.underlying 5 = some (.int .u8) := by kernel_rfl
theorem Try.uls6 : Try.prog.underlying 9 = some .string := by kernel_rfl
theorem Try.infoB6 : (Try.prog.info? 5).map (fun i => (i.zero, i.size, i.bytes)) = some (some (.int .u8 0), 1, 1) := by kernel_rfl

theorem byteCellsN_snoc (l : List Nat) (b : Nat) (h : b < 256) : byteCells (ofN l) ++ [.int .u8 b] = byteCells (ofN (l ++ [b])) := by
  rw [ofN_append, byteCells_append]
  congr 1
  simp only [ofN, byteCells, List.map_cons, List.map_nil, UInt8.toNat_ofNat']
  rw [Nat.mod_eq_of_lt h]
theorem byteCells_snocI (l : List Nat) (b : Int) (h0 : 0 ≤ b) (h : b < 256) : byteCells (ofN l) ++ [.int .u8 b] = byteCells (ofN (l ++ [b.toNat])) := by
  obtain ⟨c, rfl⟩ : ∃ c : Nat, b = c := ⟨b.toNat, by omega⟩
  exact byteCellsN_snoc l c (by omega)
theorem ofN_len (l : List Nat) : (ofN l).length = l.length := by simp [ofN]
theorem bytes_ofN_len (l : List Nat) : (byteCells (ofN l)).length = l.length := by simp [byteCells, ofN]
theorem ret_str6 {a b : ByteArray} (h : a = b) : Ending.returned (.string a) = .returned (.string b) := by rw [h]
theorem putB_neg {n : Int} (h : n < 0) : putB n = ⟨#[]⟩ := by rw [putB, putL, if_pos h]; rfl
theorem putB_nat (n : Nat) : putB (n : Int) = strN (putN n) := by rw [putB, putL_nat]

set_option maxHeartbeats 2000000 in
theorem specPut_any (n : Int) (w : World) (h9 : n ≤ 9223372036854775807) :
    Calls Try.prog 12 #[.int .i64 n] w fun e w' => e = .returned (.string (putB n)) ∧ Below w.heap.size w w' := by
  by_cases h0 : n < 0
  · have HE := Lib.hid (putB_neg h0)
    go_enter Try.func12, Try.ntmps12
    go_wp2
    go_ret
    exact ⟨ret_str6 HE.out.symm, Below.refl _ _⟩
  · obtain ⟨m, rfl⟩ : ∃ m : Nat, n = m := ⟨n.toNat, by omega⟩
    have HE := Lib.hid (putB_nat m)
    have HL := Lib.hid (putN_nine (n := m) (by omega))
    go_enter Try.func12, Try.ntmps12
    go_wp2
    go_loopw [0, 3] (fun q v wr => ∃ c : Int, ∃ o : List Nat, ∃ a k d, q = .int .i64 c ∧ v = .slice a k d ∧ 0 ≤ c ∧ c ≤ 9223372036854775807 ∧ Hid (putN m = o ++ putN c.toNat) ∧ One w w.heap.size wr 5 1 a k d (byteCells (ofN o))) (fun q _ _ => (intOf q).toNat)
    case atStart => exact ⟨m, [], _, _, _, rfl, rfl, by omega, by omega, Lib.hid rfl, One.empty _ _ _⟩
    case round =>
      obtain ⟨c, o, a, k, d, rfl, rfl, hc0, hc9, HD, hone⟩ := hrel
      have hk : k ≤ 8 := by
        have h1 := hone.len
        rw [bytes_ofN_len] at h1
        have h2 := congrArg List.length HD.out
        rw [List.length_append] at h2
        have h3 := putN_len c.toNat
        have h4 := HL.out
        omega
      by_cases hc : c < 128
      · have HX := Lib.hid (putN_last HD.out (by omega))
        have e3 : IntKind.u8.wrap c = c := by simp [IntKind.wrap, IntKind.bits, IntKind.signed]; omega
        go_wp2_with (first
          | (at_builtin; refine wpList_append_row rfl (.tmp 18) (.tmp 21) 22 rfl Try.ulB6 Try.infoB6 rfl (by decide) hone rfl #[.int .u8 c] rfl rfl (by simp [Value.oneCell']) (by unfold maxLen; omega) (by omega) ?_; intro a5 c5 w5 h5; have hb5 := h5.below; have h6 := (byteCells_snocI o c hc0 (by omega)) ▸ h5.own; have hconv := run_string_owned (P := Try.prog) 22 9 5 Try.ulB6 Try.ulb6 Try.uls6 h6; clear h5 h6))
        go_ret
        exact ⟨ret_str6 (by rw [HE.out, HX.out]; rfl), hb5⟩
      · have HX := putN_round HD.out (by omega : ¬ c.toNat < 128)
        obtain ⟨r, hr⟩ : ∃ r : Int, c.tmod 128 = r := ⟨_, rfl⟩
        obtain ⟨q, hq⟩ : ∃ q : Int, c.tdiv 128 = q := ⟨_, rfl⟩
        rw [Int.tmod_eq_emod_of_nonneg hc0] at hr
        rw [Int.tdiv_eq_ediv_of_nonneg hc0] at hq
        have e5 : c.toNat % 128 + 128 = (r + 128).toNat := by omega
        have e6 : c.toNat / 128 = q.toNat := by omega
        rw [e5, e6] at HX
        have HX := Lib.hid HX
        have hr0 : 0 ≤ r := by omega
        have hr9 : r < 128 := by omega
        have hq0 : 0 ≤ q := by omega
        have hqc : q < c := by omega
        have e1 : c.tmod 128 = r := by rw [Int.tmod_eq_emod_of_nonneg hc0, hr]
        have e2 : c.tdiv 128 = q := by rw [Int.tdiv_eq_ediv_of_nonneg hc0, hq]
        have e3 : IntKind.u8.wrap (r + 128) = r + 128 := by simp [IntKind.wrap, IntKind.bits, IntKind.signed]; omega
        clear hr hq e5 e6
        go_wp2_with (first
          | (at_builtin; refine wpList_append_row rfl (.tmp 9) (.tmp 14) 22 rfl Try.ulB6 Try.infoB6 rfl (by decide) hone rfl #[.int .u8 (r + 128)] rfl rfl (by simp [Value.oneCell']) (by unfold maxLen; omega) (by omega) ?_; intro a5 c5 w5 h5))
        go_roundw
        case rel => exact ⟨q, o ++ [(r + 128).toNat], _, _, _, rfl, rfl, hq0, by omega, HX, (byteCells_snocI o (r + 128) (by omega) (by omega)) ▸ h5⟩
        case measure => simp [intOf]; omega

set_option maxHeartbeats 2000000 in
theorem implPut_any (n : Int) (w : World) (h9 : n ≤ 9223372036854775807) :
    Calls Try.prog 11 #[.int .i64 n] w fun e w' => e = .returned (.string (putB n)) ∧ Below w.heap.size w w' := by
  by_cases h0 : n < 0
  · have HE := Lib.hid (putB_neg h0)
    go_enter Try.func11, Try.ntmps11
    go_wp2
    go_ret
    exact ⟨ret_str6 HE.out.symm, Below.refl _ _⟩
  · obtain ⟨m, rfl⟩ : ∃ m : Nat, n = m := ⟨n.toNat, by omega⟩
    have HE := Lib.hid (putB_nat m)
    have HL := Lib.hid (putN_nine (n := m) (by omega))
    go_enter Try.func11, Try.ntmps11
    go_wp2
    go_loopw [3, 4] (fun v q wr => ∃ c : Int, ∃ o : List Nat, ∃ a k d, q = .int .i64 c ∧ v = .slice a k d ∧ 0 ≤ c ∧ c ≤ 9223372036854775807 ∧ Hid (putN m = o ++ putN c.toNat) ∧ One w w.heap.size wr 5 1 a k d (byteCells (ofN o))) (fun _ q _ => (intOf q).toNat)
    case atStart => exact ⟨m, [], _, _, _, rfl, rfl, by omega, by omega, Lib.hid rfl, One.nil _ _ _⟩
    case round =>
      obtain ⟨c, o, a, k, d, rfl, rfl, hc0, hc9, HD, hone⟩ := hrel
      have hk : k ≤ 8 := by
        have h1 := hone.len
        rw [bytes_ofN_len] at h1
        have h2 := congrArg List.length HD.out
        rw [List.length_append] at h2
        have h3 := putN_len c.toNat
        have h4 := HL.out
        omega
      by_cases hc : c < 128
      · have HX := Lib.hid (putN_last HD.out (by omega))
        have e3 : IntKind.u8.wrap c = c := by simp [IntKind.wrap, IntKind.bits, IntKind.signed]; omega
        go_wp2_with (first
          | (at_builtin; refine wpList_append_row rfl (.tmp 19) (.tmp 22) 22 rfl Try.ulB6 Try.infoB6 rfl (by decide) hone rfl #[.int .u8 c] rfl rfl (by simp [Value.oneCell']) (by unfold maxLen; omega) (by omega) ?_; intro a5 c5 w5 h5; have hb5 := h5.below; have h6 := (byteCells_snocI o c hc0 (by omega)) ▸ h5.own; have hconv := run_string_owned (P := Try.prog) 22 9 5 Try.ulB6 Try.ulb6 Try.uls6 h6; clear h5 h6))
        go_ret
        exact ⟨ret_str6 (by rw [HE.out, HX.out]; rfl), hb5⟩
      · have HX := putN_round HD.out (by omega : ¬ c.toNat < 128)
        obtain ⟨r, hr⟩ : ∃ r : Int, c.tmod 128 = r := ⟨_, rfl⟩
        obtain ⟨q, hq⟩ : ∃ q : Int, c.tdiv 128 = q := ⟨_, rfl⟩
        rw [Int.tmod_eq_emod_of_nonneg hc0] at hr
        rw [Int.tdiv_eq_ediv_of_nonneg hc0] at hq
        have e5 : c.toNat % 128 + 128 = (r + 128).toNat := by omega
        have e6 : c.toNat / 128 = q.toNat := by omega
        rw [e5, e6] at HX
        have HX := Lib.hid HX
        have hr0 : 0 ≤ r := by omega
        have hr9 : r < 128 := by omega
        have hq0 : 0 ≤ q := by omega
        have hqc : q < c := by omega
        have e1 : c.tmod 128 = r := by rw [Int.tmod_eq_emod_of_nonneg hc0, hr]
        have e2 : c.tdiv 128 = q := by rw [Int.tdiv_eq_ediv_of_nonneg hc0, hq]
        have e3 : IntKind.u8.wrap (r + 128) = r + 128 := by simp [IntKind.wrap, IntKind.bits, IntKind.signed]; omega
        clear hr hq e5 e6
        go_wp2_with (first
          | (at_builtin; refine wpList_append_row rfl (.tmp 10) (.tmp 15) 22 rfl Try.ulB6 Try.infoB6 rfl (by decide) hone rfl #[.int .u8 (r + 128)] rfl rfl (by simp [Value.oneCell']) (by unfold maxLen; omega) (by omega) ?_; intro a5 c5 w5 h5))
        go_roundw
        case rel => exact ⟨q, o ++ [(r + 128).toNat], _, _, _, rfl, rfl, hq0, by omega, HX, (byteCells_snocI o (r + 128) (by omega) (by omega)) ▸ h5⟩
        case measure => simp [intOf]; omega

end Go.Proofs.Ytapombdkkcjodaa
