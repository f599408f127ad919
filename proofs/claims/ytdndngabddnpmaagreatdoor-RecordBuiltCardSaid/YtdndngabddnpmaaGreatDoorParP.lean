/-
  Parsing a pair in plain terms: what is cut off, what its value is. No program.
-/
import Derived.Test.YtdndngabddnpmaaGreatDoorFmtP
import Derived.Lib.AtoiAll
namespace Go.Proofs.YtdndngabddnpmaaGreatDoor.vl
open Go.RowKit Go.Proofs.YtdndngabddnpmaaGreatDoor.cm

theorem pu_app : ∀ (l r : List UInt8) (a b : Nat), Lib.parseUint10 a l = .ok b → Lib.parseUint10 a (l ++ r) = Lib.parseUint10 b r
  | [], r, a, b, h => by simp only [Lib.parseUint10] at h; injection h with h; subst h; rfl
  | c :: l, r, a, b, h => by
    rw [List.cons_append]
    unfold Lib.parseUint10 at h
    conv => lhs; unfold Lib.parseUint10
    split at h
    · rename_i h1
      rw [if_pos h1]
      split at h
      · cases h
      · rename_i h2
        rw [if_neg h2]
        split at h
        · cases h
        · rename_i h3
          rw [if_neg h3]
          exact pu_app l r _ b h
    · cases h

theorem pu_digits (u : Nat) : u < 18446744073709551616 → Lib.parseUint10 0 (Lib.decDigits u) = .ok u := by
  induction u using Nat.strongRecOn with
  | ind u ih =>
    intro hu
    have one : ∀ a d : Nat, d < 10 → a ≤ 1844674407370955161 → a * 10 + d < 18446744073709551616 → Lib.parseUint10 a [UInt8.ofNat (48 + d)] = .ok (a * 10 + d) := by
      intro a d hd ha hlt
      have ht : (UInt8.ofNat (48 + d)).toNat = 48 + d := by rw [UInt8.toNat_ofNat']; omega
      unfold Lib.parseUint10
      rw [ht, if_pos (by omega), if_neg (by omega), if_neg (by omega)]
      unfold Lib.parseUint10
      rw [show 48 + d - 48 = d by omega]
    by_cases h : u < 10
    · rw [Lib.decDigits_one h, one 0 u h (by omega) (by omega)]; simp
    · rw [Lib.decDigits, dif_neg h, pu_app _ _ 0 (u / 10) (ih (u / 10) (by omega) (by omega)), one (u / 10) (u % 10) (Nat.mod_lt _ (by omega)) (by omega) (by omega)]
      congr 1; omega

theorem mag_digits (u : Nat) (h : u < 18446744073709551616) : Lib.parseMag (Lib.decDigits u) = .ok u := by
  unfold Lib.parseMag
  rw [if_neg (digits_bytes u).1, pu_digits u h]

/-- what is written of a number is read as the number -/
theorem atoi_itoa (n : Int) (h : isInt n) : Lib.atoiAll (Lib.itoa n) = .ok n := by
  obtain ⟨h1, h2⟩ := h
  by_cases hn : n < 0
  · rw [itoa_neg' n hn]
    unfold Lib.atoiAll
    dsimp only
    rw [if_pos (by decide), mag_digits n.natAbs (by omega)]
    dsimp only
    rw [if_neg (by intro hc; exact hc.1 rfl), if_neg (by omega), if_pos (by decide)]
    congr 1; omega
  · rw [itoa_pos n (by omega)]
    obtain ⟨d1, d2⟩ := digits_bytes n.toNat
    cases hd : Lib.decDigits n.toNat with
    | nil => exact absurd hd d1
    | cons c r =>
      have hc := d2 c (by rw [hd]; simp)
      have hdig : 48 ≤ c.toNat ∧ c.toNat ≤ 57 := by simpa [digB] using hc.1
      unfold Lib.atoiAll
      dsimp only
      rw [if_neg (by omega), ← hd, mag_digits n.toNat (by omega)]
      dsimp only
      rw [if_neg (by omega), if_neg (by omega), if_neg (by omega)]
      congr 1; omega

/-- the kind, the number and the string of a value -/
def vV (v : List UInt8) : Option (Int × Int × List UInt8) :=
  if v = nullL then some (3, 0, []) else if v.head? = some 34 ∨ v.head? = some 120 then (unqO v).map (fun t => (2, 0, t)) else (numI v).map (fun n => (1, n, []))

theorem take_idx : ∀ (l : List UInt8), ∀ c ∈ l.take (l.idxOf 61), c ≠ 61
  | [], c, h => by simp at h
  | a :: r, c, h => by
    rw [List.idxOf_cons] at h
    by_cases ha : a = 61
    · subst ha; simp at h
    · have : (a == 61) = false := beq_eq_false_iff_ne.2 ha
      rw [this] at h
      simp only [cond_false, List.take_succ_cons] at h
      rcases List.mem_cons.1 h with rfl | h
      · exact ha
      · exact take_idx r c h

theorem cutE_form {s nm v : List UInt8} (h : cutE s = some (nm, v)) : s = nm ++ 61 :: v ∧ ∀ c ∈ nm, c ≠ 61 := by
  unfold cutE at h
  split at h
  · rename_i hi
    cases h
    constructor
    · have h1 : s[s.idxOf 61]'hi = 61 := List.getElem_idxOf hi
      have h2 := List.drop_eq_getElem_cons hi
      rw [h1] at h2
      rw [← h2, List.take_append_drop]
    · exact take_idx s
  · cases h

theorem vV_sound {nm v : List UInt8} {k n : Int} {t : List UInt8} (hnm : nameL nm = true) (h : vV v = some (k, n, t)) : checkP ⟨nm, k, n, t⟩ = 0 ∧ valL ⟨nm, k, n, t⟩ = v ∧ isInt n := by
  have h0 : isInt 0 := ⟨by omega, by omega⟩
  unfold vV at h
  by_cases h1 : v = nullL
  · rw [if_pos h1] at h
    cases h
    refine ⟨?_, ?_, h0⟩
    · unfold checkP; rw [if_neg (by simp [hnm]), if_neg (by simp), if_neg (by simp)]
    · unfold valL; rw [if_neg (show ¬ (3 : Int) = 1 by decide), if_neg (show ¬ (3 : Int) = 2 by decide), h1]
  · rw [if_neg h1] at h
    by_cases h2 : v.head? = some 34 ∨ v.head? = some 120
    · rw [if_pos h2] at h
      cases hu : unqO v with
      | none => rw [hu] at h; cases h
      | some u =>
        rw [hu] at h
        cases h
        have hq := (unqO_iff _ _).1 hu
        have hl := (quoteO_cases hq).1
        refine ⟨?_, ?_, h0⟩
        · unfold checkP; rw [if_neg (by simp [hnm]), if_neg (by simp), if_neg (show ¬ 640 < t.length by omega)]
        · unfold valL; rw [if_neg (show ¬ (2 : Int) = 1 by decide), if_pos rfl, hq]; rfl
    · rw [if_neg h2] at h
      cases hu : numI v with
      | none => rw [hu] at h; cases h
      | some u =>
        rw [hu] at h
        cases h
        obtain ⟨a, b⟩ := numI_some hu
        refine ⟨?_, ?_, a⟩
        · unfold checkP; rw [if_neg (by simp [hnm]), if_neg (by simp), if_neg (by simp)]
        · unfold valL; rw [if_pos rfl, b]

theorem vV_back {p : PairP} (h : checkP p = 0) (hn : isInt p.num) : vV (valL p) = some (p.kind, p.num, p.text) := by
  obtain ⟨nm, k, n, t⟩ := p
  obtain ⟨_, ⟨h1, h2⟩ | ⟨h1, h2, h3⟩ | ⟨h1, h2, h3⟩⟩ := sound_cases h
  · dsimp only at h1 h2 hn
    subst h1; subst h2
    unfold valL
    rw [if_pos rfl]
    obtain ⟨⟨c, r, e, n1, n2, n3⟩, _⟩ := itoa_bytes n
    unfold vV
    rw [if_neg (by rw [e]; intro hc; exact n3 (List.cons.inj hc).1), if_neg (by rw [e]; simp [n1, n2]), (numI_iff _ n hn).2 rfl]
    rfl
  · dsimp only at h1 h2 h3 hn
    subst h1; subst h2
    obtain ⟨q, hq⟩ : ∃ q, quoteO t = some q := by
      cases hq : quoteO t with
      | none => have := (quoteO_none t).1 hq; omega
      | some q => exact ⟨q, rfl⟩
    unfold valL
    rw [if_neg (show ¬ (2 : Int) = 1 by decide), if_pos rfl, hq]
    obtain ⟨⟨r, hr⟩, _⟩ := quoteO_bytes hq
    show vV q = _
    unfold vV
    rw [if_neg (by rcases hr with hr | hr <;> rw [hr] <;> intro hc <;> exact absurd (List.cons.inj hc).1 (by decide)), if_pos (by rcases hr with hr | hr <;> rw [hr] <;> simp), (unqO_iff q t).2 hq]
    rfl
  · dsimp only at h1 h2 h3 hn
    subst h1; subst h2; subst h3
    unfold valL
    rw [if_neg (show ¬ (3 : Int) = 1 by decide), if_neg (show ¬ (3 : Int) = 2 by decide)]
    unfold vV
    rw [if_pos rfl]

theorem parP_int {s : List UInt8} {p : PairP} (h : parP s = some p) : isInt p.num := by
  have h0 : isInt 0 := ⟨by omega, by omega⟩
  unfold parP at h
  cases hc : cutE s with
  | none => rw [hc] at h; cases h
  | some q =>
    obtain ⟨nm, v⟩ := q
    rw [hc] at h
    dsimp only at h
    split at h
    · cases h
      unfold valP
      cases hu : numI v with
      | some n => exact (numI_some hu).1
      | none => dsimp only; cases unqO v <;> exact h0
    · cases h

/-- the pair that a text is the text of, as the program finds it -/
theorem parP_char (s : List UInt8) : parP s = match cutE s with
    | none => none
    | some (nm, v) => if nameL nm = true then (vV v).map (fun q => ⟨nm, q.1, q.2.1, q.2.2⟩) else none := by
  cases hp : parP s with
  | some p =>
    have hn := parP_int hp
    have hf := parP_some hp
    unfold fmtP at hf
    by_cases hc : checkP p = 0
    · rw [if_pos hc] at hf
      obtain ⟨hnm, _⟩ := sound_cases hc
      have hs : s = p.name ++ 61 :: valL p := by injection hf with hf; exact hf.symm
      rw [hs, cutE_app _ _ (fun c hc' => ((nameL_bytes hnm).2.2 c hc').1)]
      dsimp only
      rw [if_pos hnm, vV_back hc hn]
      rfl
    · rw [if_neg hc] at hf; cases hf
  | none =>
    cases hc : cutE s with
    | none => rfl
    | some q =>
      obtain ⟨nm, v⟩ := q
      dsimp only
      by_cases hnm : nameL nm = true
      · rw [if_pos hnm]
        cases hv : vV v with
        | none => rfl
        | some q =>
          obtain ⟨k, n, t⟩ := q
          obtain ⟨a, b, c⟩ := vV_sound hnm hv
          have hs := (cutE_form hc).1
          have hf : fmtP ⟨nm, k, n, t⟩ = some s := by
            unfold fmtP; rw [if_pos a, b, hs]
          rw [parP_fmtP hf c] at hp
          cases hp
      · rw [if_neg hnm]

/-- the value of a pair, and of no pair -/
def pV (p : PairP) : Value := .agg #[.string ⟨p.name.toArray⟩, .int .i64 p.kind, .int .i64 p.num, .string ⟨p.text.toArray⟩]
def zV : Value := .agg #[.string ⟨#[]⟩, .int .i64 0, .int .i64 0, .string ⟨#[]⟩]
/-- what Parse answers -/
def parV (s : ByteArray) : Value := match parP s.data.toList with | some p => pV p | none => zV
def parE (s : ByteArray) : Int := match parP s.data.toList with | some _ => 0 | none => 21
theorem par_some {s : ByteArray} {p : PairP} (h : parP s.data.toList = some p) : parV s = pV p ∧ parE s = 0 := by unfold parV parE; rw [h]; exact ⟨rfl, rfl⟩
theorem par_none {s : ByteArray} (h : parP s.data.toList = none) : parV s = zV ∧ parE s = 21 := by unfold parV parE; rw [h]; exact ⟨rfl, rfl⟩
end Go.Proofs.YtdndngabddnpmaaGreatDoor.vl
