/-
  Runs of consecutive numbers in a list, and texts of ranges; no program.
-/
import Derived.Test.YtjckgehlojcinaaDoorMem
namespace Go.Proofs.YtjckgehlojcinaaDoor.mk

theorem runLen_pos : ∀ (R : List Nat), R ≠ [] → 1 ≤ runLen R
  | [], h => absurd rfl h
  | [_], _ => by simp [runLen]
  | a :: b :: r, _ => by unfold runLen; split <;> omega

theorem runLen_le : ∀ (R : List Nat), runLen R ≤ R.length
  | [] => by simp [runLen]
  | [_] => by simp [runLen]
  | a :: b :: r => by
    have := runLen_le (b :: r)
    unfold runLen
    split
    · simp only [List.length_cons] at this ⊢; omega
    · simp

theorem runLen_in : ∀ (R : List Nat) (j : Nat), j + 1 < runLen R → R.getD (j + 1) 0 = R.getD j 0 + 1
  | [], j, h => by simp [runLen] at h
  | [_], j, h => by simp [runLen] at h
  | a :: b :: r, j, h => by
    unfold runLen at h
    split at h
    · rename_i hb
      cases j with
      | zero => simpa using hb
      | succ j =>
        have := runLen_in (b :: r) j (by omega)
        simpa using this
    · omega

theorem runLen_out : ∀ (R : List Nat) (j : Nat), j + 1 = runLen R → j + 1 < R.length → R.getD (j + 1) 0 ≠ R.getD j 0 + 1
  | [], j, h, _ => by simp [runLen] at h
  | [_], j, h, hl => by simp [runLen] at h; subst h; simp at hl
  | a :: b :: r, j, h, hl => by
    unfold runLen at h
    split at h
    · have hp := runLen_pos (b :: r) (by simp)
      cases j with
      | zero => omega
      | succ j =>
        have := runLen_out (b :: r) j (by omega) (by simp at hl ⊢; omega)
        simpa using this
    · rename_i hb
      obtain rfl : j = 0 := by omega
      simpa using hb

theorem runLen_val (R : List Nat) : ∀ j, j < runLen R → R.getD j 0 = R.getD 0 0 + j
  | 0, _ => rfl
  | j + 1, h => by rw [runLen_in R j h, runLen_val R j (by omega)]; omega

theorem grp_cons (f : Nat) (R : List Nat) (h : R ≠ []) : grp (f + 1) R = (R.getD 0 0, R.getD 0 0 + runLen R - 1) :: grp f (R.drop (runLen R)) := by
  match R, h with
  | a :: r, _ => rfl

theorem join_snoc (done : List (List UInt8)) (x : List UInt8) (h : done ≠ []) : Lib.join (done ++ [x]) [44] = Lib.join done [44] ++ [44] ++ x := by
  induction done with
  | nil => exact absurd rfl h
  | cons a r ih =>
    cases r with
    | nil => simp [Lib.join, List.intercalate, List.intersperse]
    | cons b t =>
      have e1 : Lib.join (a :: b :: t ++ [x]) [44] = a ++ [44] ++ Lib.join (b :: t ++ [x]) [44] := by simp [Lib.join, List.intercalate, List.intersperse]
      have e2 : Lib.join (a :: b :: t) [44] = a ++ [44] ++ Lib.join (b :: t) [44] := by simp [Lib.join, List.intercalate, List.intersperse]
      rw [e1, e2, ih (by simp)]
      simp

theorem mem_lt (m x : Nat) (h : x ∈ mem m) : x < 32 := by
  unfold mem at h
  rw [List.mem_filter, List.mem_range] at h
  exact h.1

theorem mem_getD (m j : Nat) (h : j < (mem m).length) : (mem m).getD j 0 < 32 := by
  have : (mem m).getD j 0 = (mem m)[j] := by simp [List.getD, h]
  rw [this]
  exact mem_lt m _ (List.getElem_mem h)

theorem mem_full (m : Nat) (h : m < 4294967296) (hl : (mem m).length = 32) : m = 4294967295 := by
  have hall : ∀ x ∈ List.range 32, m.testBit x = true := by
    have h2 := List.length_filter_eq_length_iff (p := fun n => m.testBit n) (l := List.range 32)
    exact h2.1 (by simpa [mem] using hl)
  apply Nat.eq_of_testBit_eq
  intro i
  have e : 4294967295 = 2 ^ 32 - 1 := by decide
  rw [e, Nat.testBit_two_pow_sub_one]
  by_cases hi : i < 32
  · rw [hall i (List.mem_range.2 hi)]; simp [hi]
  · rw [bit_high m i h (by omega)]; simp [hi]

theorem full_mem : (mem 4294967295).length = 32 := by decide +kernel
end Go.Proofs.YtjckgehlojcinaaDoor.mk
