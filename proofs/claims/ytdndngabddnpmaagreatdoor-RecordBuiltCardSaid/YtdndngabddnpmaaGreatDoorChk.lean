/-
  Check of package value and of its reference return the same first error.
-/
import Derived.Test.YtdndngabddnpmaaGreatDoorRUnq2
namespace Go.Proofs.YtdndngabddnpmaaGreatDoor.vl
open Go.RowKit Go.Proofs.YtdndngabddnpmaaGreatDoor.cm

/-- the first error of a pair, or 0 -/
def ckI (nm : ByteArray) (k n : Int) (t : ByteArray) : Int := checkP ⟨nm.data.toList, k, n, t.data.toList⟩

/-- the ways of a check behind the name, as the program's tests have them -/
inductive Ways (k n : Int) (t : ByteArray) : Int → Prop where
  | kind : (k == 1) = false → (k == 2) = false → (k == 3) = false → (k < 1 ∨ (1 ≤ k ∧ 3 < k)) → Ways k n t 23
  | num : 1 ≤ k → k ≤ 3 → (k == 1) = false → (k = 2 ∨ k = 3) → (n == 0) = false → n ≠ 0 → Ways k n t 23
  | text : 1 ≤ k → k ≤ 3 → (k == 2) = false → (k = 1 ∨ (k = 3 ∧ n = 0)) → (t.toList == []) = false → t.toList.isEmpty = false → Ways k n t 23
  | long : k = 2 → n = 0 → 640 < t.size → Ways k n t 20
  | fine1 : k = 1 → t = ⟨#[]⟩ → Ways k n t 0
  | fine2 : k = 2 → n = 0 → t.size ≤ 640 → Ways k n t 0
  | fine3 : k = 3 → n = 0 → t = ⟨#[]⟩ → Ways k n t 0

theorem nil_iff (t : ByteArray) : t.data.toList = [] ↔ t = ⟨#[]⟩ := by
  constructor
  · intro h; exact bytes_of h
  · intro h; rw [h]
theorem nil_false {t : ByteArray} (h : t ≠ ⟨#[]⟩) : (t.toList == []) = false := by
  apply beq_eq_false_iff_ne.2
  rw [ByteArray.toList_eq]
  intro hc
  exact h ((nil_iff t).1 hc)

theorem nil_empty {t : ByteArray} (h : t ≠ ⟨#[]⟩) : t.toList.isEmpty = false := by
  have := beq_eq_false_iff_ne.1 (nil_false h)
  cases hl : t.toList with
  | nil => exact absurd hl this
  | cons a r => rfl

theorem ckI_name {nm : ByteArray} (h : nameS nm = false) (k n : Int) (t : ByteArray) : ckI nm k n t = 22 := by
  unfold ckI checkP; rw [if_pos (show nameL nm.data.toList = false from h)]

theorem ckI_ways {nm : ByteArray} (h : nameS nm = true) (k n : Int) (t : ByteArray) : Ways k n t (ckI nm k n t) := by
  have hl := bytes_len t
  unfold ckI checkP
  rw [if_neg (show ¬ nameL nm.data.toList = false by rw [show nameL nm.data.toList = true from h]; simp)]
  dsimp only
  by_cases h1 : k < 1 ∨ 3 < k
  · rw [if_pos (by rcases h1 with h1 | h1; exact .inl h1; exact .inr (.inl h1))]
    exact .kind (beq_eq_false_iff_ne.2 (by omega)) (beq_eq_false_iff_ne.2 (by omega)) (beq_eq_false_iff_ne.2 (by omega)) (by omega)
  · by_cases h2 : k ≠ 1 ∧ n ≠ 0
    · rw [if_pos (.inr (.inr (.inl h2)))]
      exact .num (by omega) (by omega) (beq_eq_false_iff_ne.2 h2.1) (by omega) (beq_eq_false_iff_ne.2 h2.2) h2.2
    · by_cases h3 : k ≠ 2 ∧ t.data.toList ≠ []
      · rw [if_pos (.inr (.inr (.inr h3)))]
        exact .text (by omega) (by omega) (beq_eq_false_iff_ne.2 h3.1) (by omega) (nil_false (fun hc => h3.2 ((nil_iff t).2 hc))) (nil_empty (fun hc => h3.2 ((nil_iff t).2 hc)))
      · rw [if_neg (by rintro (h | h | h | h); exact h1 (.inl h); exact h1 (.inr h); exact h2 h; exact h3 h), hl]
        by_cases k2 : k = 2
        · by_cases h4 : 640 < t.size
          · rw [if_pos h4]; exact .long k2 (by omega) h4
          · rw [if_neg h4]; exact .fine2 k2 (by omega) (by omega)
        · have ht : t = ⟨#[]⟩ := (nil_iff t).1 (Classical.byContradiction fun hc => h3 ⟨k2, hc⟩)
          rw [if_neg (by subst ht; decide)]
          by_cases k1 : k = 1
          · exact .fine1 k1 ht
          · exact .fine3 (by omega) (by omega) ht

theorem isKind_no (k : Int) (w : World) (h1 : (k == 1) = false) (h2 : (k == 2) = false) (h3 : (k == 3) = false) :
    Calls Tryz.prog 57 #[.int .i64 k] w fun e w' => e = .returned (.bool false) ∧ w = w' := by
  go_enter Tryz.func57, Tryz.ntmps57
  go_wp2
  go_ret
  exact ⟨rfl, rfl⟩
theorem isKind_yes (k : Int) (w : World) (h : k = 1 ∨ k = 2 ∨ k = 3) :
    Calls Tryz.prog 57 #[.int .i64 k] w fun e w' => e = .returned (.bool true) ∧ w = w' := by
  rcases h with rfl | rfl | rfl
  all_goals
    go_enter Tryz.func57, Tryz.ntmps57
    go_wp2
    go_ret
    exact ⟨rfl, rfl⟩

set_option maxHeartbeats 4000000 in
theorem Check_any (nm t : ByteArray) (k n : Int) (w : World) (hn : nm.size ≤ maxLen) (ht : t.size ≤ maxLen) :
    Calls Tryz.prog 37 #[.agg #[.string nm, .int .i64 k, .int .i64 n, .string t]] w fun e w' => e = .returned (.int .i64 (ckI nm k n t)) ∧ Below w.heap.size w w' := by
  have CN := fun W => isName_any nm W hn
  unfold maxLen at hn ht
  cases hb : nameS nm
  · have HC := Lib.hid (ckI_name hb k n t)
    rw [hb] at CN
    have CN := Lib.hid CN
    clear hb
    go_enter Tryz.func37, Tryz.ntmps37
    go_wp2_with fail
    refine (CN.out _).mono ?_
    rintro e w' ⟨rfl, rfl⟩
    go_wp2_with fail
    go_ret
    exact ⟨ret_int HC.out.symm, (Below.refl _ _).alloc (Nat.le_refl _) _⟩
  · have hw := ckI_ways hb k n t
    rw [hb] at CN
    have CN := Lib.hid CN
    clear hb
    generalize ckI nm k n t = er at *
    cases hw with
    | kind a1 a2 a3 a4 =>
      have CK := Lib.hid (fun W => isKind_no k W a1 a2 a3)
      go_enter Tryz.func37, Tryz.ntmps37
      go_wp2_with fail
      refine (CN.out _).mono ?_
      rintro e w' ⟨rfl, rfl⟩
      go_wp2_with fail
      refine (CK.out _).mono ?_
      rintro e w' ⟨rfl, rfl⟩
      go_wp2_with fail
      go_ret
      exact ⟨rfl, (Below.refl _ _).alloc (Nat.le_refl _) _⟩
    | num a1 a2 a3 a4 a5 a6 =>
      have CK := Lib.hid (fun W => isKind_yes k W (by omega))
      have a7 : (n != 0) = true := by simp [bne, a5]
      rcases a4 with rfl | rfl
      all_goals
        go_enter Tryz.func37, Tryz.ntmps37
        go_wp2_with fail
        refine (CN.out _).mono ?_
        rintro e w' ⟨rfl, rfl⟩
        go_wp2_with fail
        refine (CK.out _).mono ?_
        rintro e w' ⟨rfl, rfl⟩
        go_wp2_with fail
        all_goals
          go_ret
          exact ⟨rfl, (Below.refl _ _).alloc (Nat.le_refl _) _⟩
    | text a1 a2 a3 a4 a5 a6 =>
      have CK := Lib.hid (fun W => isKind_yes k W (by omega))
      rcases a4 with rfl | ⟨rfl, rfl⟩
      all_goals
        go_enter Tryz.func37, Tryz.ntmps37
        go_wp2_with fail
        refine (CN.out _).mono ?_
        rintro e w' ⟨rfl, rfl⟩
        go_wp2_with fail
        refine (CK.out _).mono ?_
        rintro e w' ⟨rfl, rfl⟩
        go_wp2_with fail
        all_goals
          go_ret
          exact ⟨rfl, (Below.refl _ _).alloc (Nat.le_refl _) _⟩
    | long a1 a2 a3 =>
      subst a1; subst a2
      have CK := Lib.hid (fun W => isKind_yes 2 W (by omega))
      go_enter Tryz.func37, Tryz.ntmps37
      go_wp2_with fail
      refine (CN.out _).mono ?_
      rintro e w' ⟨rfl, rfl⟩
      go_wp2_with fail
      refine (CK.out _).mono ?_
      rintro e w' ⟨rfl, rfl⟩
      go_wp2_with fail
      all_goals
        go_ret
        exact ⟨rfl, (Below.refl _ _).alloc (Nat.le_refl _) _⟩
    | fine1 a1 a2 =>
      subst a1; subst a2
      have CK := Lib.hid (fun W => isKind_yes 1 W (by omega))
      go_enter Tryz.func37, Tryz.ntmps37
      go_wp2_with fail
      refine (CN.out _).mono ?_
      rintro e w' ⟨rfl, rfl⟩
      go_wp2_with fail
      refine (CK.out _).mono ?_
      rintro e w' ⟨rfl, rfl⟩
      go_wp2_with fail
      all_goals
        go_ret
        exact ⟨rfl, (Below.refl _ _).alloc (Nat.le_refl _) _⟩
    | fine2 a1 a2 a3 =>
      subst a1; subst a2
      have CK := Lib.hid (fun W => isKind_yes 2 W (by omega))
      go_enter Tryz.func37, Tryz.ntmps37
      go_wp2_with fail
      refine (CN.out _).mono ?_
      rintro e w' ⟨rfl, rfl⟩
      go_wp2_with fail
      refine (CK.out _).mono ?_
      rintro e w' ⟨rfl, rfl⟩
      go_wp2_with fail
      all_goals
        go_ret
        exact ⟨rfl, (Below.refl _ _).alloc (Nat.le_refl _) _⟩
    | fine3 a1 a2 a3 =>
      subst a1; subst a2; subst a3
      have CK := Lib.hid (fun W => isKind_yes 3 W (by omega))
      go_enter Tryz.func37, Tryz.ntmps37
      go_wp2_with fail
      refine (CN.out _).mono ?_
      rintro e w' ⟨rfl, rfl⟩
      go_wp2_with fail
      refine (CK.out _).mono ?_
      rintro e w' ⟨rfl, rfl⟩
      go_wp2_with fail
      all_goals
        go_ret
        exact ⟨rfl, (Below.refl _ _).alloc (Nat.le_refl _) _⟩

set_option maxHeartbeats 4000000 in
theorem rCheck_any (nm t : ByteArray) (k n : Int) (w : World) (hn : nm.size ≤ maxLen) (ht : t.size ≤ maxLen) :
    Calls Tryz.prog 40 #[.agg #[.string nm, .int .i64 k, .int .i64 n, .string t]] w fun e w' => e = .returned (.int .i64 (ckI nm k n t)) ∧ Below w.heap.size w w' := by
  have CN := fun W => rname_any nm W hn
  unfold maxLen at hn ht
  cases hb : nameS nm
  · have HC := Lib.hid (ckI_name hb k n t)
    rw [hb] at CN
    have CN := Lib.hid CN
    clear hb
    go_enter Tryz.func40, Tryz.ntmps40
    go_wp2_with fail
    refine (CN.out _).mono ?_
    rintro e w' ⟨rfl, rfl⟩
    go_wp2_with fail
    go_ret
    exact ⟨ret_int HC.out.symm, (Below.refl _ _).alloc (Nat.le_refl _) _⟩
  · have hw := ckI_ways hb k n t
    rw [hb] at CN
    have CN := Lib.hid CN
    clear hb
    generalize ckI nm k n t = er at *
    cases hw with
    | kind a1 a2 a3 a4 =>
      rcases a4 with a4 | ⟨a4, a5⟩
      all_goals
        go_enter Tryz.func40, Tryz.ntmps40
        go_wp2_with fail
        refine (CN.out _).mono ?_
        rintro e w' ⟨rfl, rfl⟩
        go_wp2_with fail
        all_goals
          go_ret
          exact ⟨rfl, (Below.refl _ _).alloc (Nat.le_refl _) _⟩
    | num a1 a2 a3 a4 a5 a6 =>
      rcases a4 with rfl | rfl
      all_goals
        go_enter Tryz.func40, Tryz.ntmps40
        go_wp2_with fail
        refine (CN.out _).mono ?_
        rintro e w' ⟨rfl, rfl⟩
        go_wp2_with fail
        all_goals
          go_ret
          exact ⟨rfl, (Below.refl _ _).alloc (Nat.le_refl _) _⟩
    | text a1 a2 a3 a4 a5 a6 =>
      rcases a4 with rfl | ⟨rfl, rfl⟩
      all_goals
        go_enter Tryz.func40, Tryz.ntmps40
        go_wp2_with fail
        refine (CN.out _).mono ?_
        rintro e w' ⟨rfl, rfl⟩
        go_wp2_with fail
        all_goals
          go_ret
          exact ⟨rfl, (Below.refl _ _).alloc (Nat.le_refl _) _⟩
    | long a1 a2 a3 =>
      subst a1; subst a2
      go_enter Tryz.func40, Tryz.ntmps40
      go_wp2_with fail
      refine (CN.out _).mono ?_
      rintro e w' ⟨rfl, rfl⟩
      go_wp2_with fail
      all_goals
        go_ret
        exact ⟨rfl, (Below.refl _ _).alloc (Nat.le_refl _) _⟩
    | fine1 a1 a2 =>
      subst a1; subst a2
      go_enter Tryz.func40, Tryz.ntmps40
      go_wp2_with fail
      refine (CN.out _).mono ?_
      rintro e w' ⟨rfl, rfl⟩
      go_wp2_with fail
      all_goals
        go_ret
        exact ⟨rfl, (Below.refl _ _).alloc (Nat.le_refl _) _⟩
    | fine2 a1 a2 a3 =>
      subst a1; subst a2
      go_enter Tryz.func40, Tryz.ntmps40
      go_wp2_with fail
      refine (CN.out _).mono ?_
      rintro e w' ⟨rfl, rfl⟩
      go_wp2_with fail
      all_goals
        go_ret
        exact ⟨rfl, (Below.refl _ _).alloc (Nat.le_refl _) _⟩
    | fine3 a1 a2 a3 =>
      subst a1; subst a2; subst a3
      go_enter Tryz.func40, Tryz.ntmps40
      go_wp2_with fail
      refine (CN.out _).mono ?_
      rintro e w' ⟨rfl, rfl⟩
      go_wp2_with fail
      all_goals
        go_ret
        exact ⟨rfl, (Below.refl _ _).alloc (Nat.le_refl _) _⟩
end Go.Proofs.YtdndngabddnpmaaGreatDoor.vl
