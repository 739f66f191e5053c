/-
  The walk of chapter 3's law RollPrint over drawn texts: it returns true, and nothing that was there is written. No conditions.
-/
import Derived.Test.YtpheiapnhgllnaaLawsTN
import Derived.Deep.RegionWith
import Derived.Deep.DrawnRows
namespace Go.Proofs.Ytpheiapnhgllnaa
open Go.RowKit

/-- A string of one byte that was just laid. -/
theorem one_byte_str {P : Program} (w : World) (src dst e : TypeId) (v : Int) (hs : P.underlying src = some (.slice e)) (he : P.underlying e = some (.int .u8)) (hd : P.underlying dst = some .string) :
    (convert src dst (.slice (some ⟨w.heap.size, 0, none⟩) 1 1)).run P (w.alloc (.cells #[.int .u8 v] e)) = .ok (.string ⟨#[UInt8.ofNat v.toNat]⟩) (w.alloc (.cells #[.int .u8 v] e)) := by
  rw [run_convert_bytes_string _ src dst e _ 1 1 hs he hd]
  have hl := run_loadCells_list (P := P) (w.alloc (.cells #[.int .u8 v] e)) ⟨w.heap.size, 0, none⟩ [.int .u8 v] (fun j u hj => by
    rw [Addr.add_lit, cell_of_row _ w.heap.size (0 + j) _ e (0, 0) (heap_alloc_new w _)]
    simpa using hj)
  rw [run_bytesToString _ ⟨w.heap.size, 0, none⟩ 1 1 [v] hl]
  rfl

/-- What is behind the first byte of a text, with one byte more. -/
theorem rolled_text (s : ByteArray) (c : UInt8) (h : 0 < s.size) : rollN (prN s.data.toList) s.size s[0].toNat c.toNat = prN (s.extract 1 s.size ++ ({ data := #[c] } : ByteArray)).data.toList := by
  have hl : s.data.toList = s[0] :: s.data.toList.drop 1 := by
    have h2 : 0 < s.data.toList.length := h
    exact (List.drop_eq_getElem_cons h2)
  have e : (s.extract 1 s.size ++ ({ data := #[c] } : ByteArray)).data.toList = s.data.toList.drop 1 ++ [c] := by
    rw [ByteArray.data_append, Array.toList_append, ByteArray.data_extract, Array.toList_extract, List.extract_eq_take_drop]
    congr 1
    exact List.take_of_length_le (by rw [List.length_drop]; exact Nat.le_refl _)
  rw [e]
  have h3 := roll_eq s[0] (s.data.toList.drop 1) c 256 (by decide)
  rw [← hl, List.length_drop] at h3
  exact h3

attribute [local go_sem ↓] Go.wp_at_zero Go.wp_at_succ

set_option maxHeartbeats 4000000 in
theorem walkFnRollPrint (a : Option Addr) (len cap : Nat) (zs : List Int) (w : World) (h : IsRowK .u8 w a len cap zs) :
    Calls Try.prog 6 #[.slice a len cap] w fun e w' => e = .returned (.bool true) ∧ Below w.heap.size w w' := by
  by_cases hs : len ≤ 1048576
  · go_enter Try.func6, Try.ntmps6
    go_wp2_with fail
    refine (DrawRolled_any _ _ _ _ _ h).mono ?_
    rintro e w1 ⟨t, r, ht, hr, rfl, hb⟩
    clear h
    have hsz : (({ data := #[113] } : ByteArray) ++ t).size ≤ 501 := by rw [size_append]; show 1 + t.size ≤ _; omega
    have hs0 : 0 < (({ data := #[113] } : ByteArray) ++ t).size := by rw [size_append]; show 0 < 1 + t.size; omega
    obtain ⟨s, hss⟩ : ∃ s, ({ data := #[113] } : ByteArray) ++ t = s := ⟨_, rfl⟩
    rw [hss] at hsz hs0 ⊢
    clear hss
    obtain ⟨c, hc⟩ : ∃ c : UInt8, UInt8.ofNat r = c := ⟨_, rfl⟩
    have hcr : c.toNat = r := by rw [← hc]; simp; omega
    have hro := rolled_text s c hs0
    rw [hcr] at hro
    have hx9 := prN_lt s.data.toList
    obtain ⟨x, hx⟩ : ∃ x, prN s.data.toList = x := ⟨_, rfl⟩
    obtain ⟨z, hz⟩ : ∃ z, rollN x s.size s[0].toNat r = z := ⟨_, rfl⟩
    rw [hx, hz] at hro
    rw [hx] at hx9
    have hg : s[0].toNat ≤ 255 := by have := s[0].toNat_lt; omega
    have e3 : IntKind.u8.wrap (r : Int) = (r : Int) := by simp [IntKind.wrap, IntKind.bits, IntKind.signed]; omega
    have hcv : ∀ w : World, (convert 22 9 (.slice (some ⟨w.heap.size, 0, none⟩) 1 1)).run Try.prog (w.alloc (.cells #[.int .u8 (r : Int)] 5)) = .ok (.string ⟨#[c]⟩) (w.alloc (.cells #[.int .u8 (r : Int)] 5)) := fun w => by
      rw [one_byte_str (P := Try.prog) w 22 9 5 (r : Int) Try.ulB3 Try.ulb3 Try.uls3, Int.toNat_natCast, hc]
    have e4 : IntKind.i64.wrap (s[0].toNat : Int) = (s[0].toNat : Int) := IntWalk.i64_in _ (by omega)
    have hcw : ∀ q : Nat, (convert 22 9 (.slice (some ⟨w1.heap.size, 0, none⟩) 1 1)).run Try.prog ((w1.drewN q).alloc (.cells #[.int .u8 (r : Int)] 5)) = .ok (.string ⟨#[c]⟩) ((w1.drewN q).alloc (.cells #[.int .u8 (r : Int)] 5)) := fun q => hcv (w1.drewN q)
    clear hcv
    have hq9 : (s.extract 1 s.size ++ ({ data := #[c] } : ByteArray)).size ≤ 1048577 := by
      rw [size_append, ByteArray.size_extract]; show _ + 1 ≤ _; omega
    have c1 := fun w => implPrintOf_is s x w (by omega) hx
    have c2 := fun w => implRollPrint_ok x s.size s[0].toNat r z w hx9 (by omega) (by omega) hg hr hz
    have c3 := fun w => implPrintOf_is (s.extract 1 s.size ++ ({ data := #[c] } : ByteArray)) z w hq9 hro.symm
    have c4 := fun w => specPrintOf_is s x w (by omega) hx
    have c5 := fun w => specRollPrint_ok x s.size s[0].toNat r z w hx9 (by omega) (by omega) hg hr hz
    have z0 : (0 : Int) < s.size := by omega
    have z1 : (1 : Int) ≤ s.size := by omega
    clear hx hz hro hq9 hc hcr
    go_wp2
    go_quiet (first
      | (go_at_call 11; exact Calls.quiet_of_same ((c1 _).mono (fun _ _ h => ⟨h.1, h.2.symm⟩)))
      | (go_at_call 22; exact Calls.quiet_of_same ((c2 _).mono (fun _ _ h => ⟨h.1, h.2.symm⟩))))
    go_wp2
    go_region_with
      (first
        | (go_at_call 11; refine (c3 _).mono ?_; rintro e w2 ⟨rfl, rfl⟩)
        | (go_at_call 12; refine (c4 _).mono ?_; rintro e w2 ⟨rfl, rfl⟩)
        | (go_at_call 23; refine (c5 _).mono ?_; rintro e w2 ⟨rfl, rfl⟩)
        | (go_at_call 22; refine (implRollPrint_bad _ _ _ _ _ (by omega)).mono ?_; rintro e w2 ⟨rfl, rfl⟩)
        | (go_at_call 13; refine (alive_any _).mono ?_; rintro e w2 ⟨rfl, rfl⟩))
    all_goals
      go_wp2
      go_ret
      exact ⟨rfl, by repeat (first | exact hb | exact below_drewN' hb _ | refine Below.drew ?_ | refine Below.alloc ?_ (by first | exact hb.size | (simp; exact hb.size)) _)⟩
  · have h2 : (1048576 : Int) < (len : Int) := by omega
    go_enter Try.func6, Try.ntmps6
    go_wp2
    go_ret
    exact ⟨rfl, Below.refl _ _⟩

end Go.Proofs.Ytpheiapnhgllnaa
