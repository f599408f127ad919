/-
  Names and clean paths, as plain lists of bytes; no program.
-/
import Derived.Test.YtafnbpkdenjipaaCut
import Derived.Lib.Strings
namespace Go.Proofs.Ytafnbpkdenjipaa.pt
open Go.Proofs.Ytafnbpkdenjipaa.rg

/-- no byte of a name -/
def badC (b : UInt8) : Bool := b == 0 || b == 47
/-- is a text a name -/
def nameL (l : List UInt8) : Bool := !(l.isEmpty || decide (12 < l.length) || l == [46] || l == [46, 46] || l.any badC)
/-- names, a slash in front of each -/
def joinL (xs : List (List UInt8)) : List UInt8 := xs.flatMap fun x => 47 :: x
/-- the parts between the slashes that are not empty -/
def piecesL (l : List UInt8) : List (List UInt8) := (cutAt 47 l).filter fun x => !x.isEmpty
/-- is a text a clean path -/
def cleanL (l : List UInt8) : Bool := l == [47] || match l with
  | c :: r => c == 47 && (cutAt 47 r).all nameL
  | [] => false

theorem join_nil : joinL [] = [] := rfl
theorem join_cons (x : List UInt8) (xs : List (List UInt8)) : joinL (x :: xs) = 47 :: (x ++ joinL xs) := by simp [joinL]
theorem join_app (xs ys : List (List UInt8)) : joinL (xs ++ ys) = joinL xs ++ joinL ys := by simp [joinL]

theorem join_cut : ∀ r, joinL (cutAt 47 r) = 47 :: r
  | [] => rfl
  | x :: r => by
    have ih := join_cut r
    rw [cutAt_cons]
    split
    · rename_i hx
      subst hx
      rw [join_cons, ih]; rfl
    · cases hq : cutAt 47 r with
      | nil => exact (cutAt_ne _ _ hq).elim
      | cons q qs =>
        rw [hq, join_cons] at ih
        injection ih with _ ih
        rw [push, join_cons, List.cons_append, ih]

theorem cut_app (c : UInt8) : ∀ a b, cutAt c (a ++ c :: b) = cutAt c a ++ cutAt c b
  | [], b => by simp [cutAt]
  | x :: a, b => by
    rw [List.cons_append, cutAt_cons, cutAt_cons, cut_app c a b]
    split
    · rfl
    · cases hq : cutAt c a with
      | nil => exact (cutAt_ne _ _ hq).elim
      | cons q qs => rfl

theorem cut_noslash (l : List UInt8) (h : (47 : UInt8) ∉ l) : cutAt 47 l = [l] :=
  cutAt_none 47 l fun _ hk => h (List.mem_of_getElem? hk)

theorem cut_join_at : ∀ (xs : List (List UInt8)) (x : List UInt8), (47 : UInt8) ∉ x → (∀ y ∈ xs, (47 : UInt8) ∉ y) → cutAt 47 (x ++ joinL xs) = x :: xs
  | [], x, hx, _ => by rw [join_nil, List.append_nil, cut_noslash x hx]
  | y :: ys, x, hx, hy => by
    rw [join_cons, cut_app, cut_noslash x hx, cut_join_at ys y (hy y (by simp)) (fun z hz => hy z (by simp [hz]))]; rfl
theorem cut_join (xs : List (List UInt8)) (h : ∀ y ∈ xs, (47 : UInt8) ∉ y) : cutAt 47 (joinL xs) = [] :: xs := by
  have := cut_join_at xs [] (by simp) h
  simpa using this

theorem cut_slash : ∀ (l x : List UInt8), x ∈ cutAt 47 l → (47 : UInt8) ∉ x
  | [], x, h => by simp [cutAt] at h; subst h; simp
  | c :: r, x, h => by
    have ih := cut_slash r
    rw [cutAt_cons] at h
    split at h
    · rcases List.mem_cons.1 h with rfl | h
      · simp
      · exact ih x h
    · rename_i hc
      cases hq : cutAt 47 r with
      | nil => exact (cutAt_ne _ _ hq).elim
      | cons q qs =>
        rw [hq] at h ih
        rcases List.mem_cons.1 h with rfl | h
        · intro hm
          rcases List.mem_cons.1 hm with e | hm
          · exact hc e.symm
          · exact ih q (by simp) hm
        · exact ih x (by simp [h])

theorem name_parts {l : List UInt8} (h : nameL l = true) : l ≠ [] ∧ l.length ≤ 12 ∧ (47 : UInt8) ∉ l := by
  unfold nameL at h
  simp only [Bool.not_eq_true', Bool.or_eq_false_iff, decide_eq_false_iff_not, List.any_eq_false] at h
  obtain ⟨⟨⟨⟨h1, h2⟩, _⟩, _⟩, h3⟩ := h
  refine ⟨fun e => ?_, by omega, fun hm => ?_⟩
  · subst e; simp at h1
  · exact h3 _ hm (by decide)
theorem names_noslash {xs : List (List UInt8)} (h : xs.all nameL = true) : ∀ y ∈ xs, (47 : UInt8) ∉ y := fun y hy => (name_parts (List.all_eq_true.1 h y hy)).2.2
theorem names_ne {xs : List (List UInt8)} (h : xs.all nameL = true) : ∀ y ∈ xs, y ≠ [] := fun y hy => (name_parts (List.all_eq_true.1 h y hy)).1

theorem clean_iff (l : List UInt8) : cleanL l = true ↔ l = [47] ∨ ∃ xs, xs ≠ [] ∧ xs.all nameL = true ∧ l = joinL xs := by
  unfold cleanL
  rw [Bool.or_eq_true, beq_iff_eq]
  constructor
  · rintro (h | h)
    · exact .inl h
    · cases l with
      | nil => cases h
      | cons c r =>
        simp only [Bool.and_eq_true, beq_iff_eq] at h
        obtain ⟨rfl, h⟩ := h
        exact .inr ⟨cutAt 47 r, cutAt_ne _ _, h, (join_cut r).symm⟩
  · rintro (h | ⟨xs, hne, hall, rfl⟩)
    · exact .inl h
    · right
      cases xs with
      | nil => exact (hne rfl).elim
      | cons x xs =>
        have hs := names_noslash hall
        rw [join_cons]
        show ((47 : UInt8) == 47 && (cutAt 47 (x ++ joinL xs)).all nameL) = true
        rw [cut_join_at xs x (hs x (by simp)) (fun y hy => hs y (by simp [hy])), hall]; rfl

theorem filter_ne {xs : List (List UInt8)} (h : ∀ y ∈ xs, y ≠ []) : xs.filter (fun x => !x.isEmpty) = xs := by
  rw [List.filter_eq_self]
  intro y hy
  have := h y hy
  cases y with
  | nil => exact (this rfl).elim
  | cons _ _ => rfl
theorem pieces_join {xs : List (List UInt8)} (h : xs.all nameL = true) : piecesL (joinL xs) = xs := by
  unfold piecesL
  rw [cut_join xs (names_noslash h), List.filter_cons]
  simpa using filter_ne (names_ne h)
theorem pieces_root : piecesL [47] = [] := by decide
theorem clean_root : cleanL [47] = true := by decide
theorem root_ne {xs : List (List UInt8)} (hne : xs ≠ []) (h : xs.all nameL = true) : joinL xs ≠ [47] := by
  intro e
  have h1 := pieces_join h
  rw [e, pieces_root] at h1
  exact hne h1.symm

/-- the reference's test -/
def rcleanL (l : List UInt8) : Bool := (piecesL l).all nameL && (l == [47] || (!(piecesL l).isEmpty && l == joinL (piecesL l)))
theorem rclean_eq (l : List UInt8) : rcleanL l = cleanL l := by
  rw [Bool.eq_iff_iff, clean_iff]
  unfold rcleanL
  simp only [Bool.and_eq_true, Bool.or_eq_true, beq_iff_eq, Bool.not_eq_true']
  constructor
  · rintro ⟨h, h1 | ⟨h1, h2⟩⟩
    · exact .inl h1
    · refine .inr ⟨piecesL l, ?_, h, h2⟩
      intro e; rw [e] at h1; simp at h1
  · rintro (rfl | ⟨xs, hne, hall, rfl⟩)
    · exact ⟨by rw [pieces_root]; rfl, .inl rfl⟩
    · rw [pieces_join hall]
      refine ⟨hall, .inr ⟨?_, rfl⟩⟩
      cases xs with
      | nil => exact (hne rfl).elim
      | cons _ _ => rfl

/-- a directory's path -/
def dirL (ys : List (List UInt8)) : List UInt8 := if ys = [] then [47] else joinL ys
theorem dir_root : dirL [] = [47] := rfl
theorem dir_join {ys : List (List UInt8)} (h : ys ≠ []) : dirL ys = joinL ys := by unfold dirL; rw [if_neg h]
theorem clean_dir {ys : List (List UInt8)} (h : ys.all nameL = true) : cleanL (dirL ys) = true := by
  by_cases e : ys = []
  · subst e; rfl
  · rw [dir_join e]; exact (clean_iff _).2 (.inr ⟨ys, e, h, rfl⟩)
theorem pieces_dir {ys : List (List UInt8)} (h : ys.all nameL = true) : piecesL (dirL ys) = ys := by
  by_cases e : ys = []
  · subst e; exact pieces_root
  · rw [dir_join e]; exact pieces_join h
/-- a clean path is that of a list of names -/
theorem clean_names {l : List UInt8} (h : cleanL l = true) : ∃ ys, ys.all nameL = true ∧ l = dirL ys := by
  rcases (clean_iff l).1 h with rfl | ⟨xs, hne, hall, rfl⟩
  · exact ⟨[], rfl, rfl⟩
  · exact ⟨xs, hall, (dir_join hne).symm⟩

def endsL (l : List UInt8) : Bool := l.getLast? == some 47
/-- a directory and an entry -/
def joinP (d n : List UInt8) : List UInt8 := if endsL d = true then d ++ n else d ++ 47 :: n
theorem ends_app (l : List UInt8) {x : List UInt8} (hx : x ≠ []) : endsL (l ++ x) = endsL x := by
  unfold endsL
  rw [List.getLast?_append]
  cases h : x.getLast? with
  | none => exact (hx (List.getLast?_eq_none_iff.1 h)).elim
  | some y => rfl
theorem ends_noslash {x : List UInt8} (h : (47 : UInt8) ∉ x) : endsL x = false := by
  unfold endsL
  rw [beq_eq_false_iff_ne]
  intro e
  exact h (List.mem_of_getLast? e)
theorem join_snoc (ys : List (List UInt8)) (n : List UInt8) : joinL (ys ++ [n]) = joinL ys ++ 47 :: n := by rw [join_app, join_cons, join_nil, List.append_nil]
theorem joinP_dir {ys : List (List UInt8)} (h : ys.all nameL = true) (n : List UInt8) : joinP (dirL ys) n = joinL (ys ++ [n]) := by
  unfold joinP
  by_cases e : ys = []
  · subst e; simp [dir_root, endsL, join_cons, join_nil]
  · rw [dir_join e]
    obtain ⟨zs, z, rfl⟩ : ∃ zs z, ys = zs ++ [z] := ⟨ys.dropLast, ys.getLast e, (List.dropLast_concat_getLast e).symm⟩
    have hz := name_parts (List.all_eq_true.1 h z (by simp))
    have he : endsL (joinL (zs ++ [z])) = false := by
      rw [join_snoc, ends_app _ (by simp), show (47 : UInt8) :: z = [47] ++ z from rfl, ends_app _ hz.1]
      exact ends_noslash hz.2.2
    rw [if_neg (by rw [he]; decide), join_snoc (zs ++ [z])]

/-- is a path another one or below it -/
def underL (a b : List UInt8) : Bool := cleanL a && cleanL b && (piecesL a).isPrefixOf (piecesL b)
theorem join_pre {xs ys : List (List UInt8)} {r : List UInt8} (hx : xs.all nameL = true) (hy : ys.all nameL = true) (h : joinL xs ++ r = joinL ys) (hr : r = [] ∨ ∃ t, r = 47 :: t) : xs <+: ys := by
  have h1 := cut_join ys (names_noslash hy)
  rw [← h] at h1
  rcases hr with rfl | ⟨t, rfl⟩
  · rw [List.append_nil, cut_join xs (names_noslash hx)] at h1
    injection h1 with _ h1
    exact ⟨[], by simpa using h1⟩
  · rw [cut_app, cut_join xs (names_noslash hx)] at h1
    injection h1 with _ h1
    exact ⟨_, h1⟩
/-- the program's test of two clean paths -/
def puL (a b : List UInt8) : Bool := Lib.hasPrefix b a && (a == [47] || (Lib.trimPrefix b a).isEmpty || Lib.hasPrefix (Lib.trimPrefix b a) [47])
theorem has_iff (s p : List UInt8) : Lib.hasPrefix s p = true ↔ ∃ r, p ++ r = s := by
  unfold Lib.hasPrefix; rw [List.isPrefixOf_iff_prefix]; rfl
theorem trim_app (p r : List UInt8) : Lib.trimPrefix (p ++ r) p = r := by
  unfold Lib.trimPrefix
  rw [if_pos ((has_iff _ _).2 ⟨r, rfl⟩)]; simp
theorem pu_eq {a b : List UInt8} (ha : cleanL a = true) (hb : cleanL b = true) : puL a b = (piecesL a).isPrefixOf (piecesL b) := by
  rw [Bool.eq_iff_iff, List.isPrefixOf_iff_prefix]
  obtain ⟨xs, hx, rfl⟩ := clean_names ha
  obtain ⟨ys, hy, rfl⟩ := clean_names hb
  rw [pieces_dir hx, pieces_dir hy]
  by_cases e : xs = []
  · subst e
    refine ⟨fun _ => List.nil_prefix, fun _ => ?_⟩
    have : Lib.hasPrefix (dirL ys) (dirL []) = true := by
      rw [has_iff, dir_root]
      by_cases ey : ys = []
      · subst ey; exact ⟨[], rfl⟩
      · rw [dir_join ey]
        cases ys with
        | nil => exact (ey rfl).elim
        | cons y ys => exact ⟨y ++ joinL ys, by rw [join_cons]; rfl⟩
    unfold puL
    rw [this, dir_root]; simp
  · have hne : dirL xs ≠ [47] := by rw [dir_join e]; exact root_ne e hx
    have hne' : (dirL xs == [47]) = false := beq_eq_false_iff_ne.2 hne
    unfold puL
    rw [hne', Bool.false_or, Bool.and_eq_true, Bool.or_eq_true]
    rw [dir_join e]
    constructor
    · rintro ⟨h1, h2⟩
      obtain ⟨r, hr⟩ := (has_iff _ _).1 h1
      rw [← hr, trim_app] at h2
      have hr' : r = [] ∨ ∃ t, r = 47 :: t := by
        rcases h2 with h2 | h2
        · left; cases r with
          | nil => rfl
          | cons _ _ => cases h2
        · obtain ⟨t, ht⟩ := (has_iff _ _).1 h2
          exact .inr ⟨t, ht.symm⟩
      by_cases ey : ys = []
      · subst ey
        rw [dir_root] at hr
        cases xs with
        | nil => exact (e rfl).elim
        | cons x xs =>
          have hx1 := (name_parts (List.all_eq_true.1 hx x (by simp))).1
          rw [join_cons, List.cons_append] at hr
          injection hr with _ hr
          simp at hr
          exact (hx1 hr.1).elim
      · rw [dir_join ey] at hr
        exact join_pre hx hy hr hr'
    · rintro ⟨zs, rfl⟩
      have ey : xs ++ zs ≠ [] := by simp [e]
      rw [dir_join ey, join_app]
      refine ⟨(has_iff _ _).2 ⟨_, rfl⟩, ?_⟩
      rw [trim_app]
      cases zs with
      | nil => exact .inl rfl
      | cons z zs => exact .inr ((has_iff _ _).2 ⟨z ++ joinL zs, by rw [join_cons]; rfl⟩)

/-- what Parent answers -/
def parentL (l : List UInt8) : List UInt8 × List UInt8 × Bool :=
  if cleanL l = true ∧ l ≠ [47] then (dirL (piecesL l).dropLast, (piecesL l).getLast?.getD [], true) else ([], [], false)
theorem parent_no {l : List UInt8} (h : cleanL l = false) : parentL l = ([], [], false) := by unfold parentL; rw [if_neg (by rw [h]; simp)]
theorem parent_root : parentL [47] = ([], [], false) := by unfold parentL; rw [if_neg (by simp)]
theorem parent_join {ys : List (List UInt8)} {n : List UInt8} (h : ys.all nameL = true) (hn : nameL n = true) : parentL (joinL (ys ++ [n])) = (dirL ys, n, true) := by
  have hall : (ys ++ [n]).all nameL = true := by rw [List.all_append, h]; simp [hn]
  unfold parentL
  rw [if_pos ⟨(clean_iff _).2 (.inr ⟨_, by simp, hall, rfl⟩), root_ne (by simp) hall⟩, pieces_join hall]
  simp
/-- a clean path that is not the root -/
theorem clean_snoc {l : List UInt8} (h : cleanL l = true) (hr : l ≠ [47]) : ∃ ys n, ys.all nameL = true ∧ nameL n = true ∧ l = joinL (ys ++ [n]) := by
  obtain ⟨xs, hx, rfl⟩ := clean_names h
  by_cases e : xs = []
  · subst e; exact (hr rfl).elim
  · refine ⟨xs.dropLast, xs.getLast e, ?_, List.all_eq_true.1 hx _ (List.getLast_mem e), ?_⟩
    · rw [List.all_eq_true]; intro y hy; exact List.all_eq_true.1 hx y (List.dropLast_subset _ hy)
    · rw [List.dropLast_concat_getLast e, dir_join e]
/-- joined with a text without a slash: clean exactly if the text is a name -/
theorem clean_snoc_iff {ys : List (List UInt8)} {n : List UInt8} (h : ys.all nameL = true) (hn : (47 : UInt8) ∉ n) (he : ys ≠ [] ∨ n ≠ []) : cleanL (joinL (ys ++ [n])) = nameL n := by
  rw [Bool.eq_iff_iff, clean_iff]
  constructor
  · rintro (e | ⟨xs, hne, hall, e⟩)
    · exfalso
      rw [join_snoc] at e
      by_cases ey : ys = []
      · subst ey
        rw [join_nil, List.nil_append] at e
        injection e with _ e
        rcases he with he | he
        · exact he rfl
        · exact he e
      · cases ys with
        | nil => exact ey rfl
        | cons y ys =>
          rw [join_cons, List.cons_append, List.append_assoc] at e
          injection e with _ e
          simp at e
    · have h1 := cut_join xs (names_noslash hall)
      rw [← e, cut_join _ (fun y hy => by
        rcases List.mem_append.1 hy with hy | hy
        · exact names_noslash h y hy
        · simp at hy; subst hy; exact hn)] at h1
      injection h1 with _ h1
      rw [← h1] at hall
      exact List.all_eq_true.1 hall n (by simp)
  · intro hnm
    exact .inr ⟨_, by simp, by rw [List.all_append, h]; simp [hnm], rfl⟩

theorem under_refl {a : List UInt8} (h : cleanL a = true) : underL a a = true := by
  unfold underL; rw [h]; simp
theorem under_root {a : List UInt8} (h : cleanL a = true) : underL [47] a = true := by
  unfold underL; rw [h, clean_root, pieces_root]; simp
theorem under_top {a : List UInt8} (h : cleanL a = true) (hr : a ≠ [47]) : underL a [47] = false := by
  obtain ⟨ys, n, h1, h2, rfl⟩ := clean_snoc h hr
  unfold underL
  rw [pieces_root, pieces_join (by rw [List.all_append, h1]; simp [h2])]
  cases ys <;> simp
theorem pieces_inj {a b : List UInt8} (ha : cleanL a = true) (hb : cleanL b = true) (h : piecesL a = piecesL b) : a = b := by
  obtain ⟨xs, hx, rfl⟩ := clean_names ha
  obtain ⟨ys, hy, rfl⟩ := clean_names hb
  rw [pieces_dir hx, pieces_dir hy] at h
  rw [h]
theorem under_iff (a b : List UInt8) : underL a b = true ↔ cleanL a = true ∧ cleanL b = true ∧ piecesL a <+: piecesL b := by
  unfold underL; rw [Bool.and_eq_true, Bool.and_eq_true, List.isPrefixOf_iff_prefix, and_assoc]
theorem under_anti {a b : List UInt8} (h : underL a b = true) (k : underL b a = true) : a = b := by
  obtain ⟨h1, h2, h3⟩ := (under_iff _ _).1 h
  obtain ⟨_, _, k3⟩ := (under_iff _ _).1 k
  exact pieces_inj h1 h2 (h3.eq_of_length_le k3.length_le)
theorem under_trans {a b c : List UInt8} (h : underL a b = true) (k : underL b c = true) : underL a c = true := by
  obtain ⟨h1, h2, h3⟩ := (under_iff _ _).1 h
  obtain ⟨_, k2, k3⟩ := (under_iff _ _).1 k
  exact (under_iff _ _).2 ⟨h1, k2, h3.trans k3⟩
end Go.Proofs.Ytafnbpkdenjipaa.pt
