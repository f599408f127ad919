/-
  Layer 3 in plain terms: the table of types, records, their first error, their lines, and that a line is read back. No program.
-/
import Derived.Test.YtdndngabddnpmaaGreatDoorVal
import Derived.Test.YtdndngabddnpmaaGreatDoorCut
namespace Go.Proofs.YtdndngabddnpmaaGreatDoor.rd
open Go.Proofs.YtdndngabddnpmaaGreatDoor.vl

/-- the table of types: name, number, single -/
def kinds : List (List UInt8 × Int × Bool) :=
  [([85, 83, 69, 82], 1005, true), ([68, 65, 69, 77, 79, 78], 1200, true), ([83, 89, 83, 67, 65, 76, 76], 1300, false), ([80, 65, 84, 72], 1302, false), ([67, 79, 78, 70, 73, 71], 1305, true),
   ([83, 79, 67, 75, 65, 68, 68, 82], 1306, false), ([67, 87, 68], 1307, false), ([69, 88, 69, 67, 86, 69], 1309, false), ([69, 79, 69], 1320, false), ([76, 79, 83, 83], 1331, true)]
/-- the row of a type -/
def findT (t : Int) : Option (List UInt8 × Int × Bool) := kinds.find? fun k => k.2.1 == t
def nameT (t : Int) : List UInt8 := match findT t with | some k => k.1 | none => []
def singleT (t : Int) : Bool := match findT t with | some k => k.2.2 | none => false
def numT (nm : List UInt8) : Int := match kinds.find? fun k => k.1 == nm with | some k => k.2.1 | none => 0

theorem find_cases {t : Int} (h : (findT t).isSome = true) : t = 1005 ∨ t = 1200 ∨ t = 1300 ∨ t = 1302 ∨ t = 1305 ∨ t = 1306 ∨ t = 1307 ∨ t = 1309 ∨ t = 1320 ∨ t = 1331 := by
  apply Classical.byContradiction
  intro hc
  have hn : findT t = none := by
    unfold findT
    rw [List.find?_eq_none]
    intro x hx
    simp [kinds] at hx
    rcases hx with rfl | rfl | rfl | rfl | rfl | rfl | rfl | rfl | rfl | rfl <;> simp <;> omega
  rw [hn] at h; cases h

/-- a name is read back, is short, and holds no space -/
theorem name_back {t : Int} (h : (findT t).isSome = true) : numT (nameT t) = t ∧ (nameT t).length ≤ 8 ∧ ∀ c ∈ nameT t, c ≠ 32 ∧ 33 ≤ c.toNat ∧ c.toNat ≤ 126 := by
  rcases find_cases h with rfl | rfl | rfl | rfl | rfl | rfl | rfl | rfl | rfl | rfl <;> decide

/-- a record -/
structure RecP where
  type : Int
  time : Int
  serial : Int
  pairs : List PairP

/-- the first error of pairs, behind names that have been seen, or 0 -/
def checkPs : List (List UInt8) → List PairP → Int
  | _, [] => 0
  | seen, p :: r => if checkP p ≠ 0 then checkP p else if p.name ∈ seen then 33 else checkPs (seen ++ [p.name]) r

/-- the decimal digits of a number below 1000, three of them -/
def three (n : Nat) : List UInt8 := Lib.decDigits (n / 100) ++ (Lib.decDigits (n / 10 % 10) ++ Lib.decDigits (n % 10))
/-- what stands between the brackets, and behind -/
def stampL (tm sr : Nat) : List UInt8 := Lib.decDigits (tm / 1000) ++ 46 :: (three (tm % 1000) ++ 58 :: (Lib.decDigits sr ++ [41, 58]))
/-- the two words in front of the pairs -/
def word0 (t : Int) : List UInt8 := [116, 121, 112, 101, 61] ++ nameT t
def word1 (tm sr : Nat) : List UInt8 := [109, 115, 103, 61, 97, 117, 100, 105, 116, 40] ++ stampL tm sr
/-- the text of a sound pair -/
def pairL (p : PairP) : List UInt8 := (fmtP p).getD []
/-- the line of a record of sound parts -/
def lineL (r : RecP) : List UInt8 := word0 r.type ++ 32 :: (word1 r.time.toNat r.serial.toNat ++ (r.pairs.map fun p => 32 :: pairL p).flatten)

-- reading the stamp

def readT : List UInt8 → Nat → Nat
  | [], a => a
  | c :: r, a => if c = 58 then a else readT r (if digB c = true ∧ a ≤ 1099511627776 then a * 10 + (c.toNat - 48) else a)
def readS : List UInt8 → Nat → Nat
  | [], a => a
  | c :: r, a => if 1073741824 < a then a else readS r (if digB c = true then a * 10 + (c.toNat - 48) else a)
/-- what stands from the colon on -/
def fromColon (l : List UInt8) : List UInt8 := l.dropWhile (· != 58)

theorem dig_val (d : Nat) (h : d < 10) : digB (UInt8.ofNat (48 + d)) = true ∧ (UInt8.ofNat (48 + d)).toNat - 48 = d ∧ UInt8.ofNat (48 + d) ≠ 58 ∧ UInt8.ofNat (48 + d) ≠ 32 := by
  have : ∀ d < 10, digB (UInt8.ofNat (48 + d)) = true ∧ (UInt8.ofNat (48 + d)).toNat - 48 = d ∧ UInt8.ofNat (48 + d) ≠ 58 ∧ UInt8.ofNat (48 + d) ≠ 32 := by decide
  exact this d h

/-- the number of digits, from a on -/
def valD (a : Nat) (l : List UInt8) : Nat := l.foldl (fun a c => a * 10 + (c.toNat - 48)) a
theorem valD_mono : ∀ (l : List UInt8) (a : Nat), a ≤ valD a l
  | [], a => Nat.le_refl _
  | c :: r, a => Nat.le_trans (by omega) (valD_mono r (a * 10 + (c.toNat - 48)))
theorem valD_dec (n : Nat) : valD 0 (Lib.decDigits n) = n := by
  induction n using Nat.strongRecOn with
  | ind n ih =>
    by_cases h : n < 10
    · rw [Lib.decDigits_one h]
      show 0 * 10 + ((UInt8.ofNat (48 + n)).toNat - 48) = n
      rw [(dig_val n h).2.1]; omega
    · rw [Lib.decDigits, dif_neg h]
      unfold valD
      rw [List.foldl_append]
      have := ih (n / 10) (by omega)
      unfold valD at this
      rw [this]
      show n / 10 * 10 + ((UInt8.ofNat (48 + n % 10)).toNat - 48) = n
      rw [(dig_val (n % 10) (Nat.mod_lt _ (by omega))).2.1]; omega
theorem valD_app (a : Nat) (l r : List UInt8) : valD a (l ++ r) = valD (valD a l) r := by unfold valD; rw [List.foldl_append]
theorem valD_one (a d : Nat) (h : d < 10) : valD a (Lib.decDigits d) = a * 10 + d := by
  rw [Lib.decDigits_one h]
  show a * 10 + ((UInt8.ofNat (48 + d)).toNat - 48) = _
  rw [(dig_val d h).2.1]
theorem valD_three (a m : Nat) (h : m < 1000) : valD a (three m) = a * 1000 + m := by
  unfold three
  rw [valD_app, valD_app, valD_one _ _ (by omega), valD_one _ _ (by omega), valD_one _ _ (by omega)]
  omega

theorem dig_not58 {c : UInt8} (h : digB c = true) : c ≠ 58 := by
  intro hc; subst hc; simp [digB] at h

theorem readT_all (r : List UInt8) : ∀ (l : List UInt8) (a : Nat), (∀ c ∈ l, digB c = true) → valD a l ≤ 1099511627776 → readT (l ++ r) a = readT r (valD a l)
  | [], a, _, _ => rfl
  | c :: l, a, hd, hv => by
    have h1 := hd c (by simp)
    have h2 : a ≤ 1099511627776 := Nat.le_trans (valD_mono (c :: l) a) hv
    show readT (c :: (l ++ r)) a = readT r (valD (a * 10 + (c.toNat - 48)) l)
    rw [readT, if_neg (dig_not58 h1), if_pos ⟨h1, h2⟩]
    exact readT_all r l _ (fun c hc => hd c (List.mem_cons_of_mem _ hc)) hv
theorem readS_all (r : List UInt8) : ∀ (l : List UInt8) (a : Nat), (∀ c ∈ l, digB c = true) → valD a l ≤ 1073741824 → readS (l ++ r) a = readS r (valD a l)
  | [], a, _, _ => rfl
  | c :: l, a, hd, hv => by
    have h1 := hd c (by simp)
    have h2 : a ≤ 1073741824 := Nat.le_trans (valD_mono (c :: l) a) hv
    show readS (c :: (l ++ r)) a = readS r (valD (a * 10 + (c.toNat - 48)) l)
    rw [readS, if_neg (by omega), if_pos h1]
    exact readS_all r l _ (fun c hc => hd c (List.mem_cons_of_mem _ hc)) hv

theorem dec_dig (n : Nat) : ∀ c ∈ Lib.decDigits n, digB c = true := fun c hc => ((digits_bytes n).2 c hc).1
theorem three_dig (m : Nat) : ∀ c ∈ three m, digB c = true := by
  intro c hc
  unfold three at hc
  rcases List.mem_append.1 hc with hc | hc
  · exact dec_dig _ c hc
  · rcases List.mem_append.1 hc with hc | hc
    · exact dec_dig _ c hc
    · exact dec_dig _ c hc

theorem stamp_time (tm sr : Nat) (h : tm ≤ 1099511627776) : readT (stampL tm sr) 0 = tm := by
  unfold stampL
  rw [readT_all _ _ 0 (dec_dig _) (by rw [valD_dec]; omega), valD_dec]
  rw [readT, if_neg (by decide), if_neg (by intro hc; exact absurd hc.1 (by decide))]
  rw [readT_all _ _ _ (three_dig _) (by rw [valD_three _ _ (Nat.mod_lt _ (by omega))]; omega), valD_three _ _ (Nat.mod_lt _ (by omega))]
  rw [readT, if_pos rfl]
  omega

theorem drop_dig : ∀ (l r : List UInt8), (∀ c ∈ l, c ≠ 58) → fromColon (l ++ r) = fromColon r
  | [], r, _ => rfl
  | c :: l, r, h => by
    have h1 : (c != 58) = true := by simp [h c (by simp)]
    unfold fromColon
    rw [List.cons_append, List.dropWhile_cons]
    simp only [h1, if_true]
    exact drop_dig l r (fun c hc => h c (List.mem_cons_of_mem _ hc))

theorem stamp_serial (tm sr : Nat) (h : sr ≤ 1073741824) : readS (fromColon (stampL tm sr)) 0 = sr := by
  unfold stampL
  rw [drop_dig _ _ (fun c hc => dig_not58 (dec_dig _ c hc))]
  rw [show (46 : UInt8) :: (three (tm % 1000) ++ 58 :: (Lib.decDigits sr ++ [41, 58])) = [46] ++ (three (tm % 1000) ++ 58 :: (Lib.decDigits sr ++ [41, 58])) from rfl, drop_dig _ _ (by decide)]
  rw [drop_dig _ _ (fun c hc => dig_not58 (three_dig _ c hc))]
  have e : fromColon (58 :: (Lib.decDigits sr ++ [41, 58])) = 58 :: (Lib.decDigits sr ++ [41, 58]) := by
    unfold fromColon; rw [List.dropWhile_cons_of_neg (by decide)]
  rw [e, readS, if_neg (by omega), if_neg (by decide), readS_all _ _ 0 (dec_dig _) (by rw [valD_dec]; exact h), valD_dec]
  rw [readS, if_neg (by omega), if_neg (by decide), readS, if_neg (by omega), if_neg (by decide), readS]

-- the words of a line

open Go.Proofs.YtdndngabddnpmaaGreatDoor.rg in
/-- words without a space, set apart by spaces, are cut as they were -/
theorem cut_words : ∀ (ws : List (List UInt8)) (w : List UInt8), (∀ c ∈ w, c ≠ 32) → (∀ v ∈ ws, ∀ c ∈ v, c ≠ 32) → cutAt 32 (w ++ (ws.map fun v => 32 :: v).flatten) = w :: ws
  | ws, c :: w, hw, hws => by
    have ih := cut_words ws w (fun c hc => hw c (List.mem_cons_of_mem _ hc)) hws
    show cutAt 32 (c :: (w ++ _)) = _
    rw [cutAt_cons, if_neg (hw c (by simp)), ih]
    rfl
  | [], [], _, _ => rfl
  | v :: ws, [], _, hws => by
    have ih := cut_words ws v (hws v (by simp)) (fun u hu => hws u (List.mem_cons_of_mem _ hu))
    show cutAt 32 (32 :: (v ++ (ws.map fun v => 32 :: v).flatten)) = _
    rw [cutAt_cons, if_pos rfl, ih]

/-- the first error of a record, or 0 -/
def checkR (r : RecP) : Int :=
  if (findT r.type).isSome = false then 30
  else if r.time < 0 ∨ 1099511627776 < r.time ∨ r.serial < 0 ∨ 1073741824 < r.serial then 31
  else if 24 < r.pairs.length then 32 else checkPs [] r.pairs
/-- the line of a record, if it is sound -/
def fmtR (r : RecP) : Option (List UInt8) := if checkR r = 0 then some (lineL r) else none

/-- the record that is written as a line, as the reference reads it -/
def guessR (ws : List (List UInt8)) : Option RecP := match (ws.drop 2).mapM parP with
  | none => none
  | some ps => some ⟨numT ((ws.getD 0 []).drop 5), (readT ((ws.getD 1 []).drop 10) 0 : Nat), (readS (fromColon ((ws.getD 1 []).drop 10)) 0 : Nat), ps⟩
def parR (s : List UInt8) : Option RecP :=
  if 31240 < s.length then none
  else if (rg.cutAt 32 s).length < 2 ∨ 26 < (rg.cutAt 32 s).length ∨ ((rg.cutAt 32 s).getD 0 []).length < 5 ∨ ((rg.cutAt 32 s).getD 1 []).length < 12 ∨ 60 < ((rg.cutAt 32 s).getD 1 []).length then none
  else match guessR (rg.cutAt 32 s) with
    | none => none
    | some r => if fmtR r = some s then some r else none

-- a line is read back

theorem checkPs_sound : ∀ (ps : List PairP) (seen : List (List UInt8)), checkPs seen ps = 0 → ∀ p ∈ ps, checkP p = 0
  | [], _, _, p, hp => by simp at hp
  | q :: ps, seen, h, p, hp => by
    unfold checkPs at h
    by_cases h1 : checkP q ≠ 0
    · rw [if_pos h1] at h; exact absurd h h1
    · rw [if_neg h1] at h
      by_cases h2 : q.name ∈ seen
      · rw [if_pos h2] at h; simp at h
      · rw [if_neg h2] at h
        rcases List.mem_cons.1 hp with rfl | hp
        · exact Classical.byContradiction h1
        · exact checkPs_sound ps _ h p hp

theorem checkR_parts {r : RecP} (h : checkR r = 0) : (findT r.type).isSome = true ∧ (0 ≤ r.time ∧ r.time ≤ 1099511627776) ∧ (0 ≤ r.serial ∧ r.serial ≤ 1073741824) ∧ r.pairs.length ≤ 24 ∧ checkPs [] r.pairs = 0 := by
  unfold checkR at h
  by_cases h1 : (findT r.type).isSome = false
  · rw [if_pos h1] at h; simp at h
  · rw [if_neg h1] at h
    by_cases h2 : r.time < 0 ∨ 1099511627776 < r.time ∨ r.serial < 0 ∨ 1073741824 < r.serial
    · rw [if_pos h2] at h; simp at h
    · rw [if_neg h2] at h
      by_cases h3 : 24 < r.pairs.length
      · rw [if_pos h3] at h; simp at h
      · rw [if_neg h3] at h
        exact ⟨by cases hq : (findT r.type).isSome; exact absurd hq h1; rfl, by omega, by omega, by omega, h⟩

theorem fmtP_some {p : PairP} (h : checkP p = 0) : fmtP p = some (pairL p) := by
  unfold pairL fmtP; rw [if_pos h]; rfl

/-- the text of a pair has at most 1298 bytes -/
theorem pair_len {p : PairP} (h : checkP p = 0) (hn : isInt p.num) : 2 ≤ (pairL p).length ∧ (pairL p).length ≤ 1298 := by
  obtain ⟨hnm, hk⟩ := sound_cases h
  obtain ⟨n0, hl, _⟩ := nameL_bytes hnm
  have hn1 : 1 ≤ p.name.length := List.length_pos_iff.2 n0
  have hv : (valL p).length ≤ 1281 := by
    unfold valL
    rcases hk with ⟨h1, h2⟩ | ⟨h1, h2, h3⟩ | ⟨h1, h2, h3⟩
    · rw [if_pos h1]
      have := (itoa_len p.num hn).2
      omega
    · rw [if_neg (by omega), if_pos h1]
      cases hq : quoteO p.text with
      | none => simp
      | some q => exact (quoteO_bytes hq).2.2.1
    · rw [if_neg (by omega), if_neg (by omega)]
      decide
  have e : pairL p = p.name ++ 61 :: valL p := by unfold pairL fmtP; rw [if_pos h]; rfl
  rw [e]
  simp
  omega

theorem dec_len (n : Nat) (k : Nat) (h : n < 10 ^ (k + 1)) : 1 ≤ (Lib.decDigits n).length ∧ (Lib.decDigits n).length ≤ k + 1 :=
  ⟨List.length_pos_iff.2 (digits_bytes n).1, digits_le k n h⟩
theorem three_len (m : Nat) (h : m < 1000) : (three m).length = 3 := by
  unfold three
  rw [List.length_append, List.length_append, Lib.decDigits_one (show m / 100 < 10 by omega), Lib.decDigits_one (show m / 10 % 10 < 10 by omega), Lib.decDigits_one (show m % 10 < 10 by omega)]
  rfl
theorem stamp_len (tm sr : Nat) (h1 : tm ≤ 1099511627776) (h2 : sr ≤ 1073741824) : 8 ≤ (stampL tm sr).length ∧ (stampL tm sr).length ≤ 27 := by
  have a := dec_len (tm / 1000) 9 (by simp; omega)
  have b := dec_len sr 9 (by simp; omega)
  have c := three_len (tm % 1000) (Nat.mod_lt _ (by omega))
  unfold stampL
  simp
  omega
theorem stamp_bytes (tm sr : Nat) : ∀ c ∈ stampL tm sr, 33 ≤ c.toNat ∧ c.toNat ≤ 126 := by
  have hd : ∀ c : UInt8, digB c = true → 33 ≤ c.toNat ∧ c.toNat ≤ 126 := fun c hc => by simp [digB] at hc; omega
  intro c hc
  unfold stampL at hc
  rcases List.mem_append.1 hc with hc | hc
  · exact hd c (dec_dig _ c hc)
  · rcases List.mem_cons.1 hc with rfl | hc
    · decide
    · rcases List.mem_append.1 hc with hc | hc
      · exact hd c (three_dig _ c hc)
      · rcases List.mem_cons.1 hc with rfl | hc
        · decide
        · rcases List.mem_append.1 hc with hc | hc
          · exact hd c (dec_dig _ c hc)
          · simp at hc; rcases hc with rfl | rfl <;> decide

theorem head0 : ∀ c ∈ ([116, 121, 112, 101, 61] : List UInt8), c ≠ 32 ∧ 32 ≤ c.toNat ∧ c.toNat ≤ 126 := by decide
theorem head1 : ∀ c ∈ ([109, 115, 103, 61, 97, 117, 100, 105, 116, 40] : List UInt8), c ≠ 32 ∧ 32 ≤ c.toNat ∧ c.toNat ≤ 126 := by decide
theorem ne32 {c : UInt8} (h : 33 ≤ c.toNat) : c ≠ 32 := by intro hc; subst hc; simp at h

/-- the words of a sound record's line -/
theorem line_words {r : RecP} (h : checkR r = 0) (hi : ∀ p ∈ r.pairs, isInt p.num) : rg.cutAt 32 (lineL r) = word0 r.type :: word1 r.time.toNat r.serial.toNat :: r.pairs.map pairL := by
  obtain ⟨h1, _, _, _, h5⟩ := checkR_parts h
  have e : lineL r = word0 r.type ++ ((word1 r.time.toNat r.serial.toNat :: r.pairs.map pairL).map fun v => 32 :: v).flatten := by
    unfold lineL
    simp [Function.comp_def]
  rw [e]
  refine cut_words _ _ (fun c hc => ?_) (fun v hv c hc => ?_)
  · unfold word0 at hc
    rcases List.mem_append.1 hc with hc | hc
    · exact (head0 c hc).1
    · exact ((name_back h1).2.2 c hc).1
  · rcases List.mem_cons.1 hv with rfl | hv
    · unfold word1 at hc
      rcases List.mem_append.1 hc with hc | hc
      · exact (head1 c hc).1
      · exact ne32 (stamp_bytes _ _ c hc).1
    · obtain ⟨p, hp, rfl⟩ := List.mem_map.1 hv
      have hc0 := checkPs_sound r.pairs [] h5 p hp
      exact ne32 ((fmtP_bytes (fmtP_some hc0) (hi p hp)).2 c hc).1

theorem mapM_pairs : ∀ (ps : List PairP), (∀ p ∈ ps, checkP p = 0 ∧ isInt p.num) → (ps.map pairL).mapM parP = some ps
  | [], _ => rfl
  | p :: ps, h => by
    have h1 := h p (by simp)
    have ih := mapM_pairs ps (fun q hq => h q (List.mem_cons_of_mem _ hq))
    rw [List.map_cons, List.mapM_cons, parP_fmtP (fmtP_some h1.1) h1.2, ih]
    rfl

theorem flat_len : ∀ (ps : List PairP), (∀ p ∈ ps, (pairL p).length ≤ 1298) → ((ps.map fun p => 32 :: pairL p).flatten).length ≤ 1299 * ps.length
  | [], _ => by simp
  | p :: ps, h => by
    have ih := flat_len ps (fun q hq => h q (List.mem_cons_of_mem _ hq))
    have := h p (by simp)
    rw [List.map_cons, List.flatten_cons, List.length_append, List.length_cons, List.length_cons]
    omega

/-- the line of a sound record is not too long, and its bytes are printable or spaces -/
theorem line_len {r : RecP} (h : checkR r = 0) (hi : ∀ p ∈ r.pairs, isInt p.num) : (lineL r).length ≤ 31240 := by
  obtain ⟨h1, h2, h3, h4, h5⟩ := checkR_parts h
  have a := (name_back h1).2.1
  have b := stamp_len r.time.toNat r.serial.toNat (by omega) (by omega)
  have c := flat_len r.pairs (fun p hp => (pair_len (checkPs_sound r.pairs [] h5 p hp) (hi p hp)).2)
  unfold lineL word0 word1
  simp only [List.length_append, List.length_cons, List.length_nil]
  omega
theorem line_bytes {r : RecP} (h : checkR r = 0) (hi : ∀ p ∈ r.pairs, isInt p.num) : ∀ c ∈ lineL r, 32 ≤ c.toNat ∧ c.toNat ≤ 126 := by
  obtain ⟨h1, h2, h3, h4, h5⟩ := checkR_parts h
  intro c hc
  unfold lineL word0 word1 at hc
  rcases List.mem_append.1 hc with hc | hc
  · rcases List.mem_append.1 hc with hc | hc
    · exact (head0 c hc).2
    · have := ((name_back h1).2.2 c hc).2; omega
  · rcases List.mem_cons.1 hc with rfl | hc
    · decide
    · rcases List.mem_append.1 hc with hc | hc
      · rcases List.mem_append.1 hc with hc | hc
        · exact (head1 c hc).2
        · have := stamp_bytes _ _ c hc; omega
      · obtain ⟨v, hv, hc⟩ := List.mem_flatten.1 hc
        obtain ⟨p, hp, rfl⟩ := List.mem_map.1 hv
        rcases List.mem_cons.1 hc with rfl | hc
        · decide
        · have := (fmtP_bytes (fmtP_some (checkPs_sound r.pairs [] h5 p hp)) (hi p hp)).2 c hc
          omega

/-- a record's line is read back -/
theorem parR_fmtR {r : RecP} {s : List UInt8} (h : fmtR r = some s) (hi : ∀ p ∈ r.pairs, isInt p.num) : parR s = some r := by
  have hf := h
  unfold fmtR at h
  by_cases hc : checkR r = 0
  · rw [if_pos hc] at h
    cases h
    obtain ⟨h1, h2, h3, h4, h5⟩ := checkR_parts hc
    have hw := line_words hc hi
    have hs := stamp_len r.time.toNat r.serial.toNat (by omega) (by omega)
    unfold parR
    have hl := line_len hc hi
    rw [if_neg (by omega), hw]
    rw [if_neg (by
      simp [word0, word1]
      omega)]
    have hg : guessR (word0 r.type :: word1 r.time.toNat r.serial.toNat :: r.pairs.map pairL) = some r := by
      unfold guessR
      rw [show (word0 r.type :: word1 r.time.toNat r.serial.toNat :: r.pairs.map pairL).drop 2 = r.pairs.map pairL from rfl, mapM_pairs _ (fun p hp => ⟨checkPs_sound r.pairs [] h5 p hp, hi p hp⟩)]
      show some (RecP.mk (numT (nameT r.type)) (readT (stampL r.time.toNat r.serial.toNat) 0 : Nat) (readS (fromColon (stampL r.time.toNat r.serial.toNat)) 0 : Nat) r.pairs) = _
      rw [(name_back h1).1, stamp_time _ _ (by omega), stamp_serial _ _ (by omega), Int.toNat_of_nonneg h2.1, Int.toNat_of_nonneg h3.1]
    rw [hg]
    dsimp only
    rw [if_pos hf]
  · rw [if_neg hc] at h; cases h

theorem parR_some {r : RecP} {s : List UInt8} (h : parR s = some r) : fmtR r = some s := by
  unfold parR at h
  split at h
  · cases h
  · split at h
    · cases h
    · split at h
      · cases h
      · split at h
        · cases h; assumption
        · cases h
end Go.Proofs.YtdndngabddnpmaaGreatDoor.rd
