/-
  Plain mathematics of chapter 1: a text made alike, as a machine that goes through its bytes once. No conditions.
-/
import Derived.Test.YtdcdminjoehiiaaMathA
import Derived.Test.YtdcdminjoehiiaaOwnA
namespace Go.Proofs.Ytdcdminjoehiiaa

/-- What the program holds while it goes through a text: the signs, their places, and the gap that is open. -/
structure AS where
  out : List UInt8
  at_ : List Int
  gap : Int

def AS.step (st : AS) (k : Nat) (b : UInt8) : AS :=
  if signOf b.toNat = 32 then { st with gap := if st.gap < 0 then k else st.gap }
  else if 0 ≤ st.gap ∧ st.out ≠ [] then
    { out := (st.out ++ [32]) ++ [UInt8.ofNat (signOf b.toNat).toNat], at_ := (st.at_ ++ [st.gap]) ++ [(k : Int)], gap := -1 }
  else
    { out := st.out ++ [UInt8.ofNat (signOf b.toNat).toNat], at_ := st.at_ ++ [(k : Int)], gap := -1 }

/-- The state behind the first k bytes. -/
def stA (s : List UInt8) : Nat → AS
  | 0 => ⟨[], [], -1⟩
  | k + 1 => (stA s k).step k (s.getD k 0)

def alikeT (s : List UInt8) : List UInt8 := (stA s s.length).out
def alikeP (s : List UInt8) : List Int := (stA s s.length).at_

theorem stA_gap (s : List UInt8) (k : Nat) : -1 ≤ (stA s k).gap ∧ (stA s k).gap ≤ k := by
  induction k with
  | zero => simp [stA]
  | succ k ih =>
    simp only [stA, AS.step]
    split
    · dsimp only; split <;> omega
    · split <;> (dsimp only; omega)

theorem stA_len (s : List UInt8) (k : Nat) : (stA s k).at_.length = (stA s k).out.length ∧ (stA s k).out.length ≤ 2 * k := by
  induction k with
  | zero => simp [stA]
  | succ k ih =>
    simp only [stA, AS.step]
    split
    · dsimp only; omega
    · split <;> (simp; omega)

/-- Signs are no more than the bytes up to them. -/
theorem stA_room (s : List UInt8) (k : Nat) : (stA s k).out.length + (if 0 ≤ (stA s k).gap then 1 else 0) ≤ k := by
  induction k with
  | zero => simp [stA]
  | succ k ih =>
    simp only [stA, AS.step]
    split
    · dsimp only; split <;> split at ih <;> (try split) <;> omega
    · split <;> (simp; split at ih <;> omega)

theorem step_gap {st : AS} {k : Nat} {b : UInt8} (h : signOf b.toNat = 32) (hg : st.gap < 0) : st.step k b = { st with gap := k } := by
  unfold AS.step; rw [if_pos h, if_pos hg]
theorem step_gap_on {st : AS} {k : Nat} {b : UInt8} (h : signOf b.toNat = 32) (hg : ¬ st.gap < 0) : st.step k b = st := by
  unfold AS.step; rw [if_pos h, if_neg hg]
theorem step_two {st : AS} {k : Nat} {b : UInt8} (h : signOf b.toNat ≠ 32) (hg : 0 ≤ st.gap) (ho : st.out ≠ []) :
    st.step k b = { out := (st.out ++ [32]) ++ [UInt8.ofNat (signOf b.toNat).toNat], at_ := (st.at_ ++ [st.gap]) ++ [(k : Int)], gap := -1 } := by
  unfold AS.step; rw [if_neg h, if_pos ⟨hg, ho⟩]
theorem step_one {st : AS} {k : Nat} {b : UInt8} (h : signOf b.toNat ≠ 32) (hg : st.gap < 0 ∨ st.out = []) :
    st.step k b = { out := st.out ++ [UInt8.ofNat (signOf b.toNat).toNat], at_ := st.at_ ++ [(k : Int)], gap := -1 } := by
  unfold AS.step; rw [if_neg h, if_neg (fun hh => hg.elim (fun hg => by omega) (fun hg => hh.2 hg))]

theorem signOf_byte (b : UInt8) (h : signOf b.toNat ≠ 32) : 48 ≤ signOf b.toNat ∧ signOf b.toNat ≤ 255 := by
  have h255 : b.toNat < 256 := b.toNat_lt
  revert h
  unfold signOf
  split
  · omega
  · split
    · omega
    · split <;> omega

/-- The text made alike, as a string. -/
def alikeB (s : ByteArray) : ByteArray := ⟨(alikeT s.data.toList).toArray⟩

theorem alikeT_len (s : List UInt8) : (alikeT s).length ≤ s.length ∧ (alikeP s).length = (alikeT s).length := by
  have h1 := stA_room s s.length
  have h2 := stA_len s s.length
  unfold alikeT alikeP
  refine ⟨?_, h2.1⟩
  split at h1 <;> omega

theorem alikeB_size (s : ByteArray) : (alikeB s).size ≤ s.size := (alikeT_len s.data.toList).1

theorem stA_places (s : List UInt8) (k : Nat) : ∀ x ∈ (stA s k).at_, 0 ≤ x ∧ x < k := by
  induction k with
  | zero => simp [stA]
  | succ k ih =>
    have hg := stA_gap s k
    simp only [stA, AS.step]
    split
    · intro x hx; have := ih x hx; omega
    · split
      · intro x hx
        simp only [List.mem_append, List.mem_singleton] at hx
        rcases hx with (hx | hx) | hx
        · have := ih x hx; omega
        · omega
        · omega
      · intro x hx
        simp only [List.mem_append, List.mem_singleton] at hx
        rcases hx with hx | hx
        · have := ih x hx; omega
        · omega

theorem alikeP_bound (s : List UInt8) (j : Nat) (hj : j < (alikeP s).length) : 0 ≤ (alikeP s).getD j 0 ∧ (alikeP s).getD j 0 < s.length := by
  have := stA_places s s.length ((alikeP s)[j]) (List.getElem_mem hj)
  simpa [List.getD, List.getElem?_eq_getElem hj] using this

theorem getD_at (s : ByteArray) (k : Nat) (h : k < s.size) : s.data.toList.getD k 0 = s[k] := by
  simp [List.getD, h]
  rfl

theorem byteCells_snoc {l : List UInt8} {g : Int} (h1 : 0 ≤ g) (h2 : g ≤ 255) : byteCells (l ++ [UInt8.ofNat g.toNat]) = byteCells l ++ [.int .u8 g] := by
  rw [byteCells_append]
  congr 1
  simp only [byteCells, List.map_cons, List.map_nil, List.cons.injEq, Value.int.injEq, true_and, and_true]
  rw [UInt8.toNat_ofNat', Nat.mod_eq_of_lt (by omega)]
  omega

theorem stA_succ {s : ByteArray} {k : Nat} (h : k < s.size) : stA s.data.toList (k + 1) = (stA s.data.toList k).step k s[k] := by rw [stA, getD_at s k h]

/-- What a gap does to the state. -/
theorem at_gap {s : ByteArray} {k : Nat} (h : k < s.size) (hs : signOf (s[k].toNat : Int) = 32) (hg : (stA s.data.toList k).gap < 0) :
    (stA s.data.toList (k + 1)).gap = k ∧ (stA s.data.toList (k + 1)).out = (stA s.data.toList k).out ∧ (stA s.data.toList (k + 1)).at_ = (stA s.data.toList k).at_ := by
  rw [stA_succ h, step_gap hs hg]
  exact ⟨rfl, rfl, rfl⟩
theorem at_gap_on {s : ByteArray} {k : Nat} (h : k < s.size) (hs : signOf (s[k].toNat : Int) = 32) (hg : ¬ (stA s.data.toList k).gap < 0) :
    stA s.data.toList (k + 1) = stA s.data.toList k := by rw [stA_succ h, step_gap_on hs hg]

/-- What a sign does to the state, with the gap ahead of it. -/
theorem at_two {s : ByteArray} {k : Nat} {g : Int} (h : k < s.size) (hs : signOf (s[k].toNat : Int) = g) (h1 : 48 ≤ g) (h2 : g ≤ 255) (hg : 0 ≤ (stA s.data.toList k).gap) (ho : 0 < (stA s.data.toList k).out.length) :
    (stA s.data.toList (k + 1)).gap = -1 ∧ byteCells (stA s.data.toList (k + 1)).out = byteCells (stA s.data.toList k).out ++ [.int .u8 32] ++ [.int .u8 g] ∧
      intCells (stA s.data.toList (k + 1)).at_ = intCells (stA s.data.toList k).at_ ++ [.int .i64 (stA s.data.toList k).gap] ++ [.int .i64 k] := by
  rw [stA_succ h, step_two (by rw [hs]; omega) hg (fun h0 => by rw [h0] at ho; simp at ho), hs]
  refine ⟨rfl, ?_, ?_⟩
  · rw [byteCells_snoc (by omega) h2, byteCells_append]
    rfl
  · simp [intCells]
theorem at_one {s : ByteArray} {k : Nat} {g : Int} (h : k < s.size) (hs : signOf (s[k].toNat : Int) = g) (h1 : 48 ≤ g) (h2 : g ≤ 255) (hg : (stA s.data.toList k).gap < 0 ∨ (stA s.data.toList k).out.length = 0) :
    (stA s.data.toList (k + 1)).gap = -1 ∧ byteCells (stA s.data.toList (k + 1)).out = byteCells (stA s.data.toList k).out ++ [.int .u8 g] ∧
      intCells (stA s.data.toList (k + 1)).at_ = intCells (stA s.data.toList k).at_ ++ [.int .i64 k] := by
  rw [stA_succ h, step_one (by rw [hs]; omega) (hg.imp id (fun h0 => List.length_eq_zero_iff.1 h0)), hs]
  refine ⟨rfl, ?_, ?_⟩
  · rw [byteCells_snoc (by omega) h2]
  · simp [intCells]

end Go.Proofs.Ytdcdminjoehiiaa
