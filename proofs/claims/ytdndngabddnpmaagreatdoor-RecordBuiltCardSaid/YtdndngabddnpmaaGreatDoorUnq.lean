/-
  Unquoting in plain terms: by the first byte; without the marks; by the digits. No program.
-/
import Derived.Test.YtdndngabddnpmaaGreatDoorFromHex
import Derived.Lib.Strings
namespace Go.Proofs.YtdndngabddnpmaaGreatDoor.vl
open Go.RowKit Go.Proofs.YtdndngabddnpmaaGreatDoor.cm

theorem hexL_unhex : ∀ (n : Nat) (r t : List UInt8), r.length ≤ n → unhex r = some t → hexL t = r
  | _, [], t, _, h => by simp [unhex] at h; subst h; rfl
  | _, [_], t, _, h => by simp [unhex] at h
  | 0, a :: b :: r, t, hn, _ => by simp at hn
  | n + 1, a :: b :: r, t, hn, h => by
    cases ha : hv a with
    | none => rw [unhex_bad a b r (.inl ha)] at h; cases h
    | some x =>
      cases hb : hv b with
      | none => rw [unhex_bad a b r (.inr hb)] at h; cases h
      | some y =>
        rw [unhex_two r ha hb] at h
        cases hr : unhex r with
        | none => rw [hr] at h; cases h
        | some u =>
          rw [hr] at h
          simp only [Option.map_some, Option.some.injEq] at h
          subst h
          have ih := hexL_unhex n r u (by simp at hn; omega) hr
          obtain ⟨x1, x2, _⟩ := hv_some ha
          obtain ⟨y1, y2, _⟩ := hv_some hb
          have hm : (UInt8.ofNat (16 * x + y)).toNat = 16 * x + y := by rw [UInt8.toNat_ofNat']; omega
          rw [hexL, ih, hm, show (16 * x + y) / 16 = x by omega, show (16 * x + y) % 16 = y by omega, x2, y2]

/-- the text between the marks, and whether both are there -/
def wqT (l : List UInt8) : List UInt8 := Lib.trimSuffix (Lib.trimPrefix l [34]) [34]
def wqB (l : List UInt8) : Bool := Lib.hasPrefix l [34] && Lib.hasSuffix (Lib.trimPrefix l [34]) [34]

theorem wq_yes (u : List UInt8) : wqB (34 :: (u ++ [34])) = true ∧ wqT (34 :: (u ++ [34])) = u := by
  have h1 : Lib.hasPrefix (34 :: (u ++ [34])) [34] = true := by simp [Lib.hasPrefix]
  have h2 : Lib.trimPrefix (34 :: (u ++ [34])) [34] = u ++ [34] := by unfold Lib.trimPrefix; rw [h1]; simp
  have h3 : Lib.hasSuffix (u ++ [34]) [34] = true := by unfold Lib.hasSuffix; rw [List.isSuffixOf_iff_suffix]; exact ⟨u, rfl⟩
  constructor
  · unfold wqB; rw [h1, h2, h3]; rfl
  · unfold wqT; rw [h2]; unfold Lib.trimSuffix; rw [h3]; simp
theorem wq_form {l : List UInt8} (h : wqB l = true) : l = 34 :: (wqT l ++ [34]) := by
  unfold wqB at h
  rw [Bool.and_eq_true] at h
  obtain ⟨h1, h2⟩ := h
  unfold Lib.hasPrefix at h1
  rw [List.isPrefixOf_iff_prefix] at h1
  obtain ⟨t, rfl⟩ := h1
  have e : Lib.trimPrefix ([34] ++ t) [34] = t := by unfold Lib.trimPrefix; rw [show Lib.hasPrefix ([34] ++ t) [34] = true by simp [Lib.hasPrefix]]; simp
  rw [e] at h2
  unfold Lib.hasSuffix at h2
  rw [List.isSuffixOf_iff_suffix] at h2
  obtain ⟨u, rfl⟩ := h2
  show 34 :: (u ++ [34]) = 34 :: (wqT (34 :: (u ++ [34])) ++ [34])
  rw [(wq_yes u).2]

theorem quoteO_cases {t s : List UInt8} (h : quoteO t = some s) : t.length ≤ 640 ∧ ((t.all isSafe = true ∧ s = 34 :: (t ++ [34])) ∨ (t.all isSafe = false ∧ s = 120 :: hexL t)) := by
  unfold quoteO at h
  by_cases h1 : 640 < t.length
  · rw [if_pos h1] at h; cases h
  · rw [if_neg h1] at h
    refine ⟨by omega, ?_⟩
    cases h2 : t.all isSafe
    · rw [h2, if_neg (by simp)] at h; cases h; exact .inr ⟨rfl, rfl⟩
    · rw [h2, if_pos rfl] at h; cases h; exact .inl ⟨rfl, rfl⟩
theorem quoteO_safe {t : List UInt8} (h : t.length ≤ 640) (h2 : t.all isSafe = true) : quoteO t = some (34 :: (t ++ [34])) := by
  unfold quoteO; rw [if_neg (by omega), if_pos h2]
theorem quoteO_hex {t : List UInt8} (h : t.length ≤ 640) (h2 : t.all isSafe = false) : quoteO t = some (120 :: hexL t) := by
  unfold quoteO; rw [if_neg (by omega), if_neg (by rw [h2]; simp)]

theorem unqO_none_of {s : List UInt8} (h : ∀ t, quoteO t ≠ some s) : unqO s = none := by
  cases hu : unqO s with
  | none => rfl
  | some t => exact absurd ((unqO_iff s t).1 hu) (h t)

theorem unq_long {s : List UInt8} (h : 1281 < s.length) : unqO s = none := unqO_none_of fun t ht => by
  have := (quoteO_bytes ht).2.2.1
  omega

/-- behind an x -/
theorem unq_x_bad {r : List UInt8} (h : unhex r = none) : unqO (120 :: r) = none := unqO_none_of fun t ht => by
  obtain ⟨_, ⟨_, h2⟩ | ⟨_, h2⟩⟩ := quoteO_cases ht
  · simp at h2
  · simp at h2; rw [h2, unhex_hexL] at h; cases h
theorem unq_x_safe {r t : List UInt8} (h : unhex r = some t) (hs : t.all isSafe = true) : unqO (120 :: r) = none := unqO_none_of fun u hu => by
  obtain ⟨_, ⟨_, h2⟩ | ⟨h1, h2⟩⟩ := quoteO_cases hu
  · simp at h2
  · simp at h2; rw [h2, unhex_hexL] at h; cases h; rw [hs] at h1; cases h1
theorem unq_x {r t : List UInt8} (h : unhex r = some t) (hs : t.all isSafe = false) (hl : r.length ≤ 1280) : unqO (120 :: r) = some t := by
  rw [unqO_iff]
  have e := hexL_unhex r.length r t (Nat.le_refl _) h
  have hL := hexL_len t
  rw [e] at hL
  rw [quoteO_hex (by omega) hs, e]

/-- where no x stands -/
theorem unq_q {l : List UInt8} (hx : l.head? ≠ some 120) : unqO l = if wqB l = true ∧ (wqT l).all isSafe = true ∧ (wqT l).length ≤ 640 then some (wqT l) else none := by
  by_cases h : wqB l = true ∧ (wqT l).all isSafe = true ∧ (wqT l).length ≤ 640
  · rw [if_pos h]
    obtain ⟨h1, h2, h3⟩ := h
    rw [unqO_iff, quoteO_safe h3 h2, ← wq_form h1]
  · rw [if_neg h]
    apply unqO_none_of
    intro t ht
    obtain ⟨h1, ⟨h2, h3⟩ | ⟨h2, h3⟩⟩ := quoteO_cases ht
    · subst h3
      obtain ⟨a, b⟩ := wq_yes t
      exact h ⟨a, by rw [b]; exact h2, by rw [b]; exact h1⟩
    · subst h3; simp at hx

/-- what Unquote answers -/
def uqS (s : ByteArray) : ByteArray := match unqO s.data.toList with | some t => ⟨t.toArray⟩ | none => ⟨#[]⟩
def uqE (s : ByteArray) : Int := match unqO s.data.toList with | some _ => 0 | none => 21
theorem uq_some {s : ByteArray} {t : List UInt8} (h : unqO s.data.toList = some t) : uqS s = ⟨t.toArray⟩ ∧ uqE s = 0 := by unfold uqS uqE; rw [h]; exact ⟨rfl, rfl⟩
theorem uq_none {s : ByteArray} (h : unqO s.data.toList = none) : uqS s = ⟨#[]⟩ ∧ uqE s = 21 := by unfold uqS uqE; rw [h]; exact ⟨rfl, rfl⟩

theorem list_cons {s : ByteArray} (h : 0 < s.size) : s.data.toList = s[0] :: s.data.toList.drop 1 := by
  have h1 : 0 < s.data.toList.length := by rw [bytes_len]; exact h
  have := List.drop_eq_getElem_cons h1
  rw [List.drop_zero] at this
  exact this
theorem bytes_of {s : ByteArray} {l : List UInt8} (h : s.data.toList = l) : s = ⟨l.toArray⟩ := by subst h; rfl
theorem safeB_list (l : List UInt8) : safeB ⟨l.toArray⟩ = l.all isSafe := by unfold safeB; simp

theorem quoteO_B {t : ByteArray} (h : t.size ≤ 640) : quoteO t.data.toList = some (quoteB t).data.toList := by
  unfold quoteB
  cases hb : safeB t
  · rw [if_neg (by simp), quoteO_hex (by rw [bytes_len]; exact h) hb]
  · rw [if_pos rfl, quoteO_safe (by rw [bytes_len]; exact h) hb]
theorem quoteB_len (t : ByteArray) : (quoteB t).size = t.size + 2 ∨ (quoteB t).size = 2 * t.size + 1 := by
  unfold quoteB
  have hl := bytes_len t
  have hL := hexL_len t.data.toList
  split
  · left
    show (34 :: (t.data.toList ++ [34])).toArray.size = _
    rw [List.size_toArray]; simp
  · right
    show (120 :: hexL t.data.toList).toArray.size = _
    rw [List.size_toArray, List.length_cons]; omega
end Go.Proofs.YtdndngabddnpmaaGreatDoor.vl
