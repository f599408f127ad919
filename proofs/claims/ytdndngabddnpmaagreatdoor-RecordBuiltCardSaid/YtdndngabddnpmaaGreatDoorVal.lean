/-
  Layer 2 in plain terms: quoted texts, numbers, names, pairs and their texts, and that each is read back. No program.
-/
import Derived.Lib.ItoaNum
import Derived.Lib.ItoaLen
import Derived.Laws.BitsAllLaws
import Derived.Laws.BitsLemmas
namespace Go.Proofs.YtdndngabddnpmaaGreatDoor.vl

/-- a safe byte: 33 to 126, not the quotation mark -/
def isSafe (b : UInt8) : Bool := decide (33 ≤ b.toNat) && (decide (b.toNat ≤ 126) && decide (b.toNat ≠ 34))
/-- a hexadecimal digit -/
def hx (n : Nat) : UInt8 := if n < 10 then UInt8.ofNat (48 + n) else UInt8.ofNat (87 + n)
/-- two digits for each byte -/
def hexL : List UInt8 → List UInt8
  | [] => []
  | b :: r => hx (b.toNat / 16) :: hx (b.toNat % 16) :: hexL r
/-- the text that is written for a string, if it is not too long -/
def quoteO (l : List UInt8) : Option (List UInt8) :=
  if 640 < l.length then none else if l.all isSafe then some (34 :: (l ++ [34])) else some (120 :: hexL l)

/-- the value of a hexadecimal digit -/
def hv (c : UInt8) : Option Nat :=
  if 48 ≤ c.toNat ∧ c.toNat ≤ 57 then some (c.toNat - 48) else if 97 ≤ c.toNat ∧ c.toNat ≤ 102 then some (c.toNat - 87) else none
/-- bytes of pairs of digits -/
def unhex : List UInt8 → Option (List UInt8)
  | [] => some []
  | [_] => none
  | a :: b :: r => match hv a, hv b with
    | some x, some y => (unhex r).map (UInt8.ofNat (16 * x + y) :: ·)
    | _, _ => none

theorem hv_hx : ∀ n < 16, hv (hx n) = some n := by decide
theorem hx_ascii : ∀ n < 16, 48 ≤ (hx n).toNat ∧ (hx n).toNat ≤ 102 ∧ hx n ≠ 61 := by decide
theorem byte_back (b : UInt8) : UInt8.ofNat (16 * (b.toNat / 16) + b.toNat % 16) = b := by
  rw [Nat.div_add_mod]
  exact UInt8.ofNat_toNat

theorem unhex_hexL : ∀ l, unhex (hexL l) = some l
  | [] => rfl
  | b :: r => by
    have h1 : b.toNat / 16 < 16 := by have := b.toNat_lt; omega
    have h2 : b.toNat % 16 < 16 := Nat.mod_lt _ (by omega)
    rw [hexL, unhex, hv_hx _ h1, hv_hx _ h2]
    show (unhex (hexL r)).map _ = _
    rw [unhex_hexL r, byte_back]; rfl

theorem hexL_len : ∀ l, (hexL l).length = 2 * l.length
  | [] => rfl
  | b :: r => by simp [hexL, hexL_len r]; omega

theorem hexL_bytes : ∀ l, ∀ c ∈ hexL l, 48 ≤ c.toNat ∧ c.toNat ≤ 102 ∧ c ≠ 61
  | [], c, h => by simp [hexL] at h
  | b :: r, c, h => by
    have h1 : b.toNat / 16 < 16 := by have := b.toNat_lt; omega
    have h2 : b.toNat % 16 < 16 := Nat.mod_lt _ (by omega)
    rw [hexL] at h
    rcases List.mem_cons.1 h with rfl | h
    · exact hx_ascii _ h1
    · rcases List.mem_cons.1 h with rfl | h
      · exact hx_ascii _ h2
      · exact hexL_bytes r c h

/-- the string that a text may be the text of: none where a digit is wrong -/
def guess (s : List UInt8) : Option (List UInt8) :=
  if 2 ≤ s.length ∧ s.getD 0 0 = 34 then some ((s.drop 1).dropLast)
  else if 3 ≤ s.length ∧ s.getD 0 0 = 120 ∧ s.length % 2 = 1 ∧ s.length ≤ 1281 then unhex (s.drop 1)
  else some []
/-- the string that is written as a text, if there is one -/
def unqO (s : List UInt8) : Option (List UInt8) := match guess s with
  | none => none
  | some t => if quoteO t = some s then some t else none

theorem guess_quote {t s : List UInt8} (h : quoteO t = some s) : guess s = some t := by
  unfold quoteO at h
  by_cases h1 : 640 < t.length
  · rw [if_pos h1] at h; cases h
  · rw [if_neg h1] at h
    by_cases h2 : t.all isSafe = true
    · rw [if_pos h2] at h
      cases h
      unfold guess
      rw [if_pos (by simp)]
      simp
    · rw [if_neg h2] at h
      cases h
      have ht : t ≠ [] := by intro hc; rw [hc] at h2; exact h2 rfl
      have hl : 1 ≤ t.length := by cases t with | nil => exact absurd rfl ht | cons a b => simp
      have hL := hexL_len t
      unfold guess
      rw [if_neg (by simp), if_pos (by refine ⟨?_, ?_, ?_, ?_⟩ <;> simp <;> omega)]
      exact unhex_hexL t

theorem unqO_iff (s t : List UInt8) : unqO s = some t ↔ quoteO t = some s := by
  constructor
  · intro h
    unfold unqO at h
    cases hg : guess s with
    | none => rw [hg] at h; cases h
    | some u =>
      rw [hg] at h
      dsimp only at h
      split at h
      · cases h; assumption
      · cases h
  · intro h
    unfold unqO
    rw [guess_quote h]
    dsimp only
    rw [if_pos h]

theorem quoteO_inj {t u s : List UInt8} (h : quoteO t = some s) (h' : quoteO u = some s) : t = u := by
  have a := guess_quote h
  rw [guess_quote h'] at a
  exact (Option.some.inj a).symm

/-- what is quoted begins with a quotation mark or x, and is of printable bytes -/
theorem quoteO_bytes {t s : List UInt8} (h : quoteO t = some s) : (∃ r, s = 34 :: r ∨ s = 120 :: r) ∧ 2 ≤ s.length ∧ s.length ≤ 1281 ∧ ∀ c ∈ s, 33 ≤ c.toNat ∧ c.toNat ≤ 126 := by
  unfold quoteO at h
  by_cases h1 : 640 < t.length
  · rw [if_pos h1] at h; cases h
  · rw [if_neg h1] at h
    by_cases h2 : t.all isSafe = true
    · rw [if_pos h2] at h
      cases h
      refine ⟨⟨_, .inl rfl⟩, by simp, by simp; omega, fun c hc => ?_⟩
      rcases List.mem_cons.1 hc with rfl | hc
      · decide
      · rcases List.mem_append.1 hc with hc | hc
        · have := List.all_eq_true.1 h2 c hc
          simp [isSafe] at this
          omega
        · simp at hc; subst hc; decide
    · rw [if_neg h2] at h
      cases h
      have ht : t ≠ [] := by intro hc; rw [hc] at h2; exact h2 rfl
      have hl : 1 ≤ t.length := by cases t with | nil => exact absurd rfl ht | cons a b => simp
      have hL := hexL_len t
      refine ⟨⟨_, .inr rfl⟩, by simp; omega, by simp; omega, fun c hc => ?_⟩
      rcases List.mem_cons.1 hc with rfl | hc
      · decide
      · have := hexL_bytes t c hc; omega

theorem quoteO_none (t : List UInt8) : quoteO t = none ↔ 640 < t.length := by
  unfold quoteO
  constructor
  · intro h
    apply Classical.byContradiction
    intro hc
    rw [if_neg hc] at h
    split at h <;> cases h
  · intro h; rw [if_pos h]

-- numbers

def digB (b : UInt8) : Bool := decide (48 ≤ b.toNat) && decide (b.toNat ≤ 57)
/-- one more byte of a number that is read downwards, in 64 bits; other bytes are passed over -/
def stepI (a : Int) (b : UInt8) : Int := if digB b then IntKind.i64.wrap (IntKind.i64.wrap (a * 10) - ((b.toNat : Int) - 48)) else a
/-- what is read of a text: downwards, and turned if it does not begin with the sign -/
def downI (l : List UInt8) : Int := if 20 < l.length then 0 else l.foldl stepI 0
def readI (l : List UInt8) : Int := if 0 < l.length ∧ l.getD 0 0 ≠ 45 then IntKind.i64.wrap (-(downI l)) else downI l
/-- a number of the type int -/
def isInt (n : Int) : Prop := -9223372036854775808 ≤ n ∧ n ≤ 9223372036854775807

theorem dig_ofNat (d : Nat) (h : d < 10) : digB (UInt8.ofNat (48 + d)) = true ∧ ((UInt8.ofNat (48 + d)).toNat : Int) - 48 = d ∧ UInt8.ofNat (48 + d) ≠ 45 ∧ UInt8.ofNat (48 + d) ≠ 61 := by
  have : ∀ d < 10, digB (UInt8.ofNat (48 + d)) = true ∧ ((UInt8.ofNat (48 + d)).toNat : Int) - 48 = d ∧ UInt8.ofNat (48 + d) ≠ 45 ∧ UInt8.ofNat (48 + d) ≠ 61 := by decide
  exact this d h

theorem wrap_id (n : Int) (h : isInt n) : IntKind.i64.wrap n = n := by
  obtain ⟨h1, h2⟩ := h
  rw [IntKind.wrap_i64]; omega

theorem fold_digits (u : Nat) : u ≤ 9223372036854775808 → (Lib.decDigits u).foldl stepI 0 = -(u : Int) := by
  induction u using Nat.strongRecOn with
  | ind u ih =>
    intro hu
    by_cases h : u < 10
    · rw [Lib.decDigits_one h]
      obtain ⟨d1, d2, _⟩ := dig_ofNat u h
      simp only [List.foldl_cons, List.foldl_nil, stepI, d1, if_true, d2]
      rw [wrap_id (0 * 10) ⟨by omega, by omega⟩, wrap_id _ ⟨by omega, by omega⟩]; omega
    · rw [Lib.decDigits, dif_neg h, List.foldl_append, ih (u / 10) (by omega) (by omega)]
      obtain ⟨d1, d2, _⟩ := dig_ofNat (u % 10) (Nat.mod_lt _ (by omega))
      simp only [List.foldl_cons, List.foldl_nil, stepI, d1, if_true, d2]
      rw [wrap_id (-((u / 10 : Nat) : Int) * 10) ⟨by omega, by omega⟩, wrap_id _ ⟨by omega, by omega⟩]; omega

theorem digits_bytes (u : Nat) : Lib.decDigits u ≠ [] ∧ ∀ c ∈ Lib.decDigits u, digB c = true ∧ c ≠ 45 ∧ c ≠ 61 := by
  induction u using Nat.strongRecOn with
  | ind u ih =>
    by_cases h : u < 10
    · rw [Lib.decDigits_one h]
      obtain ⟨d1, _, d3, d4⟩ := dig_ofNat u h
      refine ⟨by simp, fun c hc => ?_⟩
      rw [List.mem_singleton] at hc; subst hc; exact ⟨d1, d3, d4⟩
    · rw [Lib.decDigits, dif_neg h]
      obtain ⟨i1, i2⟩ := ih (u / 10) (by omega)
      obtain ⟨d1, _, d3, d4⟩ := dig_ofNat (u % 10) (Nat.mod_lt _ (by omega))
      refine ⟨by simp, fun c hc => ?_⟩
      rcases List.mem_append.1 hc with hc | hc
      · exact i2 c hc
      · rw [List.mem_singleton] at hc; subst hc; exact ⟨d1, d3, d4⟩

theorem digits_le (k : Nat) : ∀ u, u < 10 ^ (k + 1) → (Lib.decDigits u).length ≤ k + 1 := by
  induction k with
  | zero => intro u h; rw [Lib.decDigits_one (by simpa using h)]; simp
  | succ k ih =>
    intro u h
    by_cases h1 : u < 10
    · rw [Lib.decDigits_one h1]; simp
    · rw [Lib.decDigits, dif_neg h1]
      have := ih (u / 10) (by rw [Nat.pow_succ] at h; omega)
      simp; omega

theorem itoa_pos (n : Int) (h : 0 ≤ n) : Lib.itoa n = Lib.decDigits n.toNat := by unfold Lib.itoa; rw [if_neg (by omega)]
theorem itoa_neg' (n : Int) (h : n < 0) : Lib.itoa n = 45 :: Lib.decDigits n.natAbs := by unfold Lib.itoa; rw [if_pos h]

theorem itoa_len (n : Int) (h : isInt n) : 1 ≤ (Lib.itoa n).length ∧ (Lib.itoa n).length ≤ 20 := by
  obtain ⟨h1, h2⟩ := h
  by_cases hn : n < 0
  · rw [itoa_neg' n hn]
    have := digits_le 18 n.natAbs (by simp; omega)
    simp; omega
  · rw [itoa_pos n (by omega)]
    have := digits_le 18 n.toNat (by simp; omega)
    obtain ⟨d1, _⟩ := digits_bytes n.toNat
    have hl : 1 ≤ (Lib.decDigits n.toNat).length := by cases hd : Lib.decDigits n.toNat with | nil => exact absurd hd d1 | cons a b => simp
    omega

/-- a number is read back -/
theorem readI_itoa (n : Int) (h : isInt n) : readI (Lib.itoa n) = n := by
  obtain ⟨l1, l2⟩ := itoa_len n h
  have hi := h
  obtain ⟨h1, h2⟩ := h
  unfold readI downI
  rw [if_neg (show ¬ 20 < (Lib.itoa n).length by omega)]
  by_cases hn : n < 0
  · rw [itoa_neg' n hn, if_neg (by simp), List.foldl_cons, show stepI 0 45 = 0 from by unfold stepI; rw [if_neg (by decide)], fold_digits _ (by omega)]
    omega
  · rw [itoa_pos n (by omega)]
    rw [itoa_pos n (by omega)] at l1
    obtain ⟨d1, d2⟩ := digits_bytes n.toNat
    have hne : (Lib.decDigits n.toNat).getD 0 0 ≠ 45 := by
      cases hd : Lib.decDigits n.toNat with
      | nil => exact absurd hd d1
      | cons a b => rw [hd] at d2; exact (d2 a (by simp)).2.1
    rw [if_pos ⟨by omega, hne⟩, fold_digits _ (by omega), wrap_id _ ⟨by omega, by omega⟩]
    omega

theorem readI_int (l : List UInt8) : isInt (readI l) := by
  have w : ∀ n, isInt (IntKind.i64.wrap n) := fun n => by rw [IntKind.wrap_i64]; unfold isInt; omega
  have hs : ∀ a b, isInt a → isInt (stepI a b) := fun a b ha => by unfold stepI; split; exact w _; exact ha
  have hf : ∀ (l : List UInt8) a, isInt a → isInt (l.foldl stepI a) := by
    intro l
    induction l with
    | nil => intro a ha; exact ha
    | cons b r ih => intro a ha; exact ih _ (hs a b ha)
  have hz : isInt 0 := ⟨by omega, by omega⟩
  have hd : isInt (downI l) := by unfold downI; split; exact hz; exact hf _ _ hz
  unfold readI
  split
  · exact w _
  · exact hd

/-- the number that is written as a text, if there is one -/
def numI (l : List UInt8) : Option Int := if Lib.itoa (readI l) = l then some (readI l) else none
theorem numI_iff (l : List UInt8) (n : Int) (h : isInt n) : numI l = some n ↔ Lib.itoa n = l := by
  unfold numI
  constructor
  · intro hh
    split at hh
    · cases hh; assumption
    · cases hh
  · intro hh
    subst hh
    rw [readI_itoa n h, if_pos rfl]
theorem numI_some {l : List UInt8} {n : Int} (h : numI l = some n) : isInt n ∧ Lib.itoa n = l := by
  unfold numI at h
  split at h
  · cases h; exact ⟨readI_int l, by assumption⟩
  · cases h

theorem itoa_bytes (n : Int) : (∃ c r, Lib.itoa n = c :: r ∧ c ≠ 34 ∧ c ≠ 120 ∧ c ≠ 40) ∧ ∀ c ∈ Lib.itoa n, 33 ≤ c.toNat ∧ c.toNat ≤ 126 ∧ c ≠ 61 := by
  have hd : ∀ c : UInt8, digB c = true → c ≠ 34 ∧ c ≠ 120 ∧ c ≠ 40 ∧ 33 ≤ c.toNat ∧ c.toNat ≤ 126 := by
    intro c hc
    simp [digB] at hc
    refine ⟨?_, ?_, ?_, by omega, by omega⟩ <;> (intro he; subst he; simp at hc)
  by_cases hn : n < 0
  · rw [itoa_neg' n hn]
    refine ⟨⟨_, _, rfl, by decide, by decide, by decide⟩, fun c hc => ?_⟩
    rcases List.mem_cons.1 hc with rfl | hc
    · decide
    · obtain ⟨d1, d2⟩ := digits_bytes n.natAbs
      obtain ⟨e1, e2, e3⟩ := d2 c hc
      exact ⟨(hd c e1).2.2.2.1, (hd c e1).2.2.2.2, e3⟩
  · rw [itoa_pos n (by omega)]
    obtain ⟨d1, d2⟩ := digits_bytes n.toNat
    refine ⟨?_, fun c hc => ?_⟩
    · cases hq : Lib.decDigits n.toNat with
      | nil => exact absurd hq d1
      | cons a b =>
        rw [hq] at d2
        obtain ⟨e1, _⟩ := d2 a (by simp)
        exact ⟨a, b, rfl, (hd a e1).1, (hd a e1).2.1, (hd a e1).2.2.1⟩
    · obtain ⟨e1, e2, e3⟩ := d2 c hc
      exact ⟨(hd c e1).2.2.2.1, (hd c e1).2.2.2.2, e3⟩

-- pairs

def lowB (b : UInt8) : Bool := decide (97 ≤ b.toNat) && decide (b.toNat ≤ 122)
def nameB (b : UInt8) : Bool := lowB b || (digB b || decide (b.toNat = 95))
/-- the name of a pair -/
def nameL : List UInt8 → Bool
  | [] => false
  | c :: r => decide (r.length < 16) && (lowB c && r.all nameB)

/-- a pair -/
structure PairP where
  name : List UInt8
  kind : Int
  num : Int
  text : List UInt8

/-- the first error of a pair, or 0 -/
def checkP (p : PairP) : Int :=
  if nameL p.name = false then 22
  else if p.kind < 1 ∨ 3 < p.kind ∨ (p.kind ≠ 1 ∧ p.num ≠ 0) ∨ (p.kind ≠ 2 ∧ p.text ≠ []) then 23
  else if 640 < p.text.length then 20 else 0

def nullL : List UInt8 := [40, 110, 117, 108, 108, 41]
/-- the text of the value of a sound pair -/
def valL (p : PairP) : List UInt8 := if p.kind = 1 then Lib.itoa p.num else if p.kind = 2 then (quoteO p.text).getD [] else nullL
/-- the text of a pair, if it is sound -/
def fmtP (p : PairP) : Option (List UInt8) := if checkP p = 0 then some (p.name ++ 61 :: valL p) else none

theorem nameL_bytes {l : List UInt8} (h : nameL l = true) : l ≠ [] ∧ l.length ≤ 16 ∧ ∀ c ∈ l, c ≠ 61 ∧ 33 ≤ c.toNat ∧ c.toNat ≤ 126 := by
  cases l with
  | nil => cases h
  | cons c r =>
    simp only [nameL, Bool.and_eq_true, decide_eq_true_eq] at h
    obtain ⟨h1, h2, h3⟩ := h
    have hb : ∀ b : UInt8, nameB b = true → b ≠ 61 ∧ 33 ≤ b.toNat ∧ b.toNat ≤ 126 := by
      intro b hb
      have : (97 ≤ b.toNat ∧ b.toNat ≤ 122) ∨ (48 ≤ b.toNat ∧ b.toNat ≤ 57) ∨ b.toNat = 95 := by simpa [nameB, lowB, digB] using hb
      refine ⟨?_, by omega, by omega⟩
      intro he; subst he; simp at this
    refine ⟨by simp, by simp; omega, fun b hb' => ?_⟩
    rcases List.mem_cons.1 hb' with rfl | hb'
    · exact hb _ (by simp [nameB, h2])
    · exact hb _ (List.all_eq_true.1 h3 b hb')

/-- the pair that is written as a text, if there is one: cut at the first '=' -/
def valP (nm v : List UInt8) : PairP := match numI v with
  | some n => ⟨nm, 1, n, []⟩
  | none => match unqO v with
    | some t => ⟨nm, 2, 0, t⟩
    | none => ⟨nm, 3, 0, []⟩
def cutE (s : List UInt8) : Option (List UInt8 × List UInt8) :=
  if s.idxOf 61 < s.length then some (s.take (s.idxOf 61), s.drop (s.idxOf 61 + 1)) else none
def parP (s : List UInt8) : Option PairP := match cutE s with
  | none => none
  | some (nm, v) => if fmtP (valP nm v) = some s then some (valP nm v) else none

theorem cutE_app (nm v : List UInt8) (h : ∀ c ∈ nm, c ≠ 61) : cutE (nm ++ 61 :: v) = some (nm, v) := by
  have hi : (nm ++ 61 :: v).idxOf 61 = nm.length := by
    rw [List.idxOf_append, if_neg (fun hc => h 61 hc rfl)]; simp
  unfold cutE
  rw [hi, if_pos (by simp), List.take_left, show nm.length + 1 = (nm ++ [61]).length by simp, show nm ++ 61 :: v = (nm ++ [61]) ++ v by simp, List.drop_left]

/-- a sound pair, by its kind -/
theorem sound_cases {p : PairP} (h : checkP p = 0) : nameL p.name = true ∧ ((p.kind = 1 ∧ p.text = []) ∨ (p.kind = 2 ∧ p.num = 0 ∧ p.text.length ≤ 640) ∨ (p.kind = 3 ∧ p.num = 0 ∧ p.text = [])) := by
  unfold checkP at h
  by_cases h1 : nameL p.name = false
  · rw [if_pos h1] at h; simp at h
  · rw [if_neg h1] at h
    by_cases h2 : p.kind < 1 ∨ 3 < p.kind ∨ (p.kind ≠ 1 ∧ p.num ≠ 0) ∨ (p.kind ≠ 2 ∧ p.text ≠ [])
    · rw [if_pos h2] at h; simp at h
    · rw [if_neg h2] at h
      by_cases h3 : 640 < p.text.length
      · rw [if_pos h3] at h; simp at h
      · refine ⟨by simpa using h1, ?_⟩
        have hn : ¬ p.kind < 1 := fun hc => h2 (.inl hc)
        have hm : ¬ 3 < p.kind := fun hc => h2 (.inr (.inl hc))
        have hx : p.kind ≠ 1 → p.num = 0 := fun hk => Classical.byContradiction fun hc => h2 (.inr (.inr (.inl ⟨hk, hc⟩)))
        have hy : p.kind ≠ 2 → p.text = [] := fun hk => Classical.byContradiction fun hc => h2 (.inr (.inr (.inr ⟨hk, hc⟩)))
        by_cases k1 : p.kind = 1
        · exact .inl ⟨k1, hy (by omega)⟩
        · by_cases k2 : p.kind = 2
          · exact .inr (.inl ⟨k2, hx k1, by omega⟩)
          · exact .inr (.inr ⟨by omega, hx k1, hy k2⟩)

/-- a value is read back -/
theorem valP_valL (p : PairP) (h : checkP p = 0) (hn : isInt p.num) : valP p.name (valL p) = p := by
  obtain ⟨nm, k, n, t⟩ := p
  obtain ⟨_, ⟨h1, h2⟩ | ⟨h1, h2, h3⟩ | ⟨h1, h2, h3⟩⟩ := sound_cases h
  · dsimp only at h1 h2 hn
    subst h1; subst h2
    unfold valP valL
    rw [if_pos rfl, (numI_iff _ n hn).2 rfl]
  · dsimp only at h1 h2 h3 hn
    subst h1; subst h2
    obtain ⟨q, hq⟩ : ∃ q, quoteO t = some q := by
      cases hq : quoteO t with
      | none => have := (quoteO_none t).1 hq; omega
      | some q => exact ⟨q, rfl⟩
    unfold valP valL
    rw [if_neg (show ¬ (2 : Int) = 1 by decide), if_pos rfl, hq]
    have hnn : numI q = none := by
      cases hz : numI q with
      | none => rfl
      | some z =>
        obtain ⟨_, hz2⟩ := numI_some hz
        obtain ⟨⟨c, r, e, n1, n2, _⟩, _⟩ := itoa_bytes z
        obtain ⟨⟨r', hr'⟩, _⟩ := quoteO_bytes hq
        rw [e] at hz2
        rcases hr' with hr' | hr' <;> rw [hr'] at hz2
        · exact absurd (List.cons.inj hz2).1 n1
        · exact absurd (List.cons.inj hz2).1 n2
    show (match numI q with | some n => _ | none => match unqO q with | some t => _ | none => _) = _
    rw [hnn, (unqO_iff q t).2 hq]
  · dsimp only at h1 h2 h3 hn
    subst h1; subst h2; subst h3
    unfold valP valL
    rw [if_neg (show ¬ (3 : Int) = 1 by decide), if_neg (show ¬ (3 : Int) = 2 by decide)]
    have hnn : numI nullL = none := by
      cases hz : numI nullL with
      | none => rfl
      | some z =>
        obtain ⟨_, hz2⟩ := numI_some hz
        obtain ⟨⟨c, r, e, _, _, n3⟩, _⟩ := itoa_bytes z
        rw [e] at hz2
        exact absurd (List.cons.inj hz2).1 n3
    have hqq : unqO nullL = none := by
      cases hz : unqO nullL with
      | none => rfl
      | some z =>
        obtain ⟨⟨r', hr'⟩, _⟩ := quoteO_bytes ((unqO_iff _ _).1 hz)
        rcases hr' with hr' | hr' <;> exact absurd (List.cons.inj hr').1 (by decide)
    rw [hnn]
    dsimp only
    rw [hqq]

/-- the text of a pair is read back -/
theorem parP_fmtP {p : PairP} {s : List UInt8} (h : fmtP p = some s) (hn : isInt p.num) : parP s = some p := by
  have hf := h
  unfold fmtP at h
  by_cases hc : checkP p = 0
  · rw [if_pos hc] at h
    cases h
    obtain ⟨hnm, _⟩ := sound_cases hc
    unfold parP
    rw [cutE_app _ _ (fun c hc' => ((nameL_bytes hnm).2.2 c hc').1)]
    dsimp only
    rw [valP_valL p hc hn, if_pos hf]
  · rw [if_neg hc] at h; cases h

theorem parP_some {p : PairP} {s : List UInt8} (h : parP s = some p) : fmtP p = some s := by
  unfold parP at h
  cases hc : cutE s with
  | none => rw [hc] at h; cases h
  | some q =>
    obtain ⟨nm, v⟩ := q
    rw [hc] at h
    dsimp only at h
    split at h
    · cases h; assumption
    · cases h

/-- the text of a pair has printable bytes alone, and is short -/
theorem fmtP_bytes {p : PairP} {s : List UInt8} (h : fmtP p = some s) (hn : isInt p.num) : s.length ≤ 1300 ∧ ∀ c ∈ s, 33 ≤ c.toNat ∧ c.toNat ≤ 126 := by
  unfold fmtP at h
  by_cases hc : checkP p = 0
  · rw [if_pos hc] at h
    cases h
    obtain ⟨hnm, hk⟩ := sound_cases hc
    obtain ⟨_, hl, hb⟩ := nameL_bytes hnm
    have hv : (valL p).length ≤ 1281 ∧ ∀ c ∈ valL p, 33 ≤ c.toNat ∧ c.toNat ≤ 126 := by
      unfold valL
      rcases hk with ⟨h1, h2⟩ | ⟨h1, h2, h3⟩ | ⟨h1, h2, h3⟩
      · rw [if_pos h1]
        have := (itoa_len p.num hn).2
        exact ⟨by omega, fun c hc => ⟨((itoa_bytes p.num).2 c hc).1, ((itoa_bytes p.num).2 c hc).2.1⟩⟩
      · rw [if_neg (by omega), if_pos h1]
        cases hq : quoteO p.text with
        | none => simp
        | some q => exact ⟨(quoteO_bytes hq).2.2.1, (quoteO_bytes hq).2.2.2⟩
      · rw [if_neg (by omega), if_neg (by omega)]
        decide
    refine ⟨by simp; omega, fun c hc' => ?_⟩
    rcases List.mem_append.1 hc' with hc' | hc'
    · exact (hb c hc').2
    · rcases List.mem_cons.1 hc' with rfl | hc'
      · decide
      · exact hv.2 c hc'
  · rw [if_neg hc] at h; cases h
end Go.Proofs.YtdndngabddnpmaaGreatDoor.vl
