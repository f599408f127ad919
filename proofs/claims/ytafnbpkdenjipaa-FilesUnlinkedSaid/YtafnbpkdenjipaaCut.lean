/-
  Cutting a text at each byte c, as plain lists; no program.
-/
import Derived.Lib.IndexLaws
import Derived.Lib.IndexBytes
namespace Go.Proofs.Ytafnbpkdenjipaa.rg

/-- a byte put in front of the first piece -/
def push (x : UInt8) : List (List UInt8) → List (List UInt8)
  | [] => [[x]]
  | p :: ps => (x :: p) :: ps

/-- the pieces of a text between the bytes c -/
def cutAt (c : UInt8) : List UInt8 → List (List UInt8)
  | [] => [[]]
  | x :: r => if x = c then [] :: cutAt c r else push x (cutAt c r)

theorem cutAt_cons (c x : UInt8) (r : List UInt8) : cutAt c (x :: r) = if x = c then [] :: cutAt c r else push x (cutAt c r) := rfl

theorem cutAt_ne (c : UInt8) : ∀ l, cutAt c l ≠ []
  | [] => by simp [cutAt]
  | x :: r => by
    rw [cutAt_cons]
    split
    · simp
    · cases cutAt c r <;> simp [push]

theorem cutAt_none (c : UInt8) : ∀ l : List UInt8, (∀ k : Nat, l[k]? ≠ some c) → cutAt c l = [l]
  | [], _ => rfl
  | x :: r, h => by
    have hx : x ≠ c := by have := h 0; simpa using this
    have ih := cutAt_none c r (fun k => by have := h (k + 1); simpa using this)
    rw [cutAt_cons, if_neg hx, ih]; rfl

theorem cutAt_some (c : UInt8) : ∀ (l : List UInt8) (i : Nat), l[i]? = some c → (∀ k : Nat, k < i → l[k]? ≠ some c) → cutAt c l = l.take i :: cutAt c (l.drop (i + 1))
  | [], i, h, _ => by simp at h
  | x :: r, 0, h, _ => by
    have hx : x = c := by simpa using h
    rw [cutAt_cons, if_pos hx]; rfl
  | x :: r, i + 1, h, hk => by
    have hx : x ≠ c := by have := hk 0 (by omega); simpa using this
    have ih := cutAt_some c r i (by simpa using h) (fun k hk' => by have := hk (k + 1) (by omega); simpa using this)
    rw [cutAt_cons, if_neg hx, ih]; rfl

/-- the pieces as strings -/
def cutB (c : UInt8) (s : ByteArray) : List ByteArray := (cutAt c s.data.toList).map fun l => ⟨l.toArray⟩

theorem bytes_eq (s : ByteArray) : (⟨s.data.toList.toArray⟩ : ByteArray) = s := by cases s; simp

theorem cutB_none (c : UInt8) (s : ByteArray) (h : Lib.indexByte s.data.toList c = -1) : cutB c s = [s] := by
  unfold cutB
  rw [cutAt_none c _ (Lib.indexByte_none h), List.map_cons, bytes_eq]; rfl

theorem cutB_some (c : UInt8) (s : ByteArray) (i : Nat) (h : Lib.indexByte s.data.toList c = (i : Int)) :
    i < s.size ∧ cutB c s = s.extract 0 i :: cutB c (s.extract (i + 1) s.size) := by
  obtain ⟨h1, h2⟩ := Lib.indexByte_some h
  have hi : i < s.size := by
    have := (List.getElem?_eq_some_iff.1 h1).1
    rwa [← Lib.size_eq] at this
  refine ⟨hi, ?_⟩
  have e1 : (⟨(s.data.toList.take i).toArray⟩ : ByteArray) = s.extract 0 i := by
    have := Lib.extract_data s 0 i
    rw [List.drop_zero, Nat.sub_zero] at this
    rw [← this, bytes_eq]
  have e2 := Lib.extract_to_end s (i + 1)
  unfold cutB
  rw [cutAt_some c _ i h1 h2, List.map_cons, e1, e2]

theorem cutB_at (c : UInt8) (s : ByteArray) (a i : Nat) (ha : a ≤ i) (h : s.data.toList[i]? = some c) (hk : ∀ k : Nat, a ≤ k → k < i → s.data.toList[k]? ≠ some c) :
    cutB c (s.extract a s.size) = s.extract a i :: cutB c (s.extract (i + 1) s.size) := by
  unfold cutB
  rw [Lib.extract_to_end, Lib.extract_to_end]
  have e := cutAt_some c (s.data.toList.drop a) (i - a) (by rw [List.getElem?_drop, show a + (i - a) = i by omega]; exact h) (fun k hk' => by rw [List.getElem?_drop]; exact hk _ (by omega) (by omega))
  rw [e, List.drop_drop, show a + (i - a + 1) = i + 1 by omega, List.map_cons, ← Lib.extract_data, bytes_eq]

theorem cutB_end (c : UInt8) (s : ByteArray) (a : Nat) (hk : ∀ k : Nat, a ≤ k → s.data.toList[k]? ≠ some c) : cutB c (s.extract a s.size) = [s.extract a s.size] := by
  have e : cutB c (s.extract a s.size) = (cutAt c (s.extract a s.size).data.toList).map fun l => ⟨l.toArray⟩ := rfl
  rw [e, cutAt_none c _ (fun k => by rw [Lib.extract_to_end, List.getElem?_drop]; exact hk _ (by omega)), List.map_cons, bytes_eq]; rfl

theorem extract_all (s : ByteArray) : s.extract 0 s.size = s := by
  have h := Lib.extract_to_end s 0
  rw [List.drop_zero] at h
  have := bytes_eq (s.extract 0 s.size)
  rw [h, bytes_eq] at this
  exact this.symm

theorem index_cases (s : ByteArray) (c : UInt8) : Lib.indexByte s.data.toList c = -1 ∨ ∃ i : Nat, Lib.indexByte s.data.toList c = (i : Int) := by
  have := Lib.indexByte_ge s.data.toList c
  by_cases h : Lib.indexByte s.data.toList c = -1
  · exact .inl h
  · exact .inr ⟨(Lib.indexByte s.data.toList c).toNat, by omega⟩

theorem cutAt_len (c : UInt8) : ∀ (l p : List UInt8), p ∈ cutAt c l → p.length ≤ l.length
  | [], p, h => by simp [cutAt] at h; subst h; simp
  | x :: r, p, h => by
    rw [cutAt_cons] at h
    have ih := cutAt_len c r
    split at h
    · rcases List.mem_cons.1 h with rfl | h
      · simp
      · have := ih p h; simp; omega
    · cases hq : cutAt c r with
      | nil => rw [hq] at h; simp [push] at h; subst h; simp
      | cons q qs =>
        rw [hq] at h ih
        rcases List.mem_cons.1 h with rfl | h
        · have := ih q (by simp); simp; omega
        · have := ih p (by simp [h]); simp; omega

theorem cutB_size (c : UInt8) (s x : ByteArray) (h : x ∈ cutB c s) : x.size ≤ s.size := by
  unfold cutB at h
  obtain ⟨l, hl, rfl⟩ := List.mem_map.1 h
  have := cutAt_len c _ _ hl
  rw [Lib.size_eq s]
  show l.toArray.size ≤ _
  rw [List.size_toArray]
  exact this
end Go.Proofs.Ytafnbpkdenjipaa.rg
