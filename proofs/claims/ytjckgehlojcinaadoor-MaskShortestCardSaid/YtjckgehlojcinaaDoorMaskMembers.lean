/-
  The law MaskMembers: its walk.
-/
import Derived.Test.YtjckgehlojcinaaDoorList
import Derived.Test.YtjckgehlojcinaaDoorMaskOfs
namespace Go.Proofs.YtjckgehlojcinaaDoor
open Go.RowKit

theorem mk.memTo_prefix (m j : Nat) (hj : j < 32) (hb : m.testBit j = true) : (mk.memTo m 32)[(mk.memTo m j).length]? = some j := by
  have e : List.range 32 = List.range j ++ (j :: List.range' (j + 1) (32 - (j + 1))) := by
    rw [List.range_eq_range', List.range_eq_range']
    have h1 : j :: List.range' (j + 1) (32 - (j + 1)) = List.range' j (32 - j) := by
      have : 32 - j = (32 - (j + 1)) + 1 := by omega
      rw [this, List.range'_succ]
    rw [h1]
    have e2 := List.range'_append_1 (s := 0) (m := j) (n := 32 - j)
    rw [Nat.zero_add] at e2
    rw [e2]
    congr 1
    omega
  unfold mk.memTo
  rw [e, List.filter_append, List.getElem?_append_right (Nat.le_refl _)]
  simp [hb]

theorem mk.ofL_mem (m : Nat) : ∀ k, k ≤ 32 → mk.ofL 0 (mk.ints (mk.memTo m k)) = (m % 2 ^ k, 0)
  | 0, _ => by simp [mk.memTo, mk.ints, mk.ofL]; omega
  | k + 1, h => by
    have ih := mk.ofL_mem m k (by omega)
    have gen : ∀ (l : List Int) (a M x : Nat), x < 32 → mk.ofL a l = (M, 0) → mk.ofL a (l ++ [(x : Int)]) = (M ||| 2 ^ x, 0) := by
      intro l
      induction l with
      | nil => intro a M x hx h; simp [mk.ofL] at h; subst h; simp [mk.ofL]; omega
      | cons y r ihl =>
        intro a M x hx h
        simp only [List.cons_append, mk.ofL] at h ⊢
        by_cases hy : 0 ≤ y ∧ y < 32
        · rw [if_pos hy] at h ⊢; exact ihl _ _ _ hx h
        · rw [if_neg hy] at h; simp at h
    rw [mk.memTo_succ]
    cases hb : m.testBit k
    · have e : m % 2 ^ (k + 1) = m % 2 ^ k := by
        apply Nat.eq_of_testBit_eq
        intro i
        rw [Nat.testBit_mod_two_pow, Nat.testBit_mod_two_pow]
        by_cases hi : i = k
        · subst hi; simp [hb]
        · have : decide (i < k + 1) = decide (i < k) := by rw [Bool.eq_iff_iff]; simp; omega
          rw [this]
      rw [e]
      simpa using ih
    · have e : m % 2 ^ (k + 1) = m % 2 ^ k ||| 2 ^ k := by
        apply Nat.eq_of_testBit_eq
        intro i
        rw [Nat.testBit_mod_two_pow, Nat.testBit_or, Nat.testBit_mod_two_pow, Nat.testBit_two_pow]
        by_cases hi : i = k
        · subst hi; simp [hb]
        · have : decide (i < k + 1) = decide (i < k) := by rw [Bool.eq_iff_iff]; simp; omega
          rw [this]
          have : decide (k = i) = false := by simp; omega
          rw [this]; simp
      rw [e]
      have := gen (mk.ints (mk.memTo m k)) 0 (m % 2 ^ k) k (by omega) ih
      simpa [mk.ints] using this

theorem mk.hasB_at (m k : Nat) : mk.hasB m ((k : Int) - 2) = (decide (2 ≤ k) && (decide (k - 2 < 32) && m.testBit (k - 2))) := by
  unfold mk.hasB
  by_cases h : 2 ≤ k
  · rw [show ((k : Int) - 2).toNat = k - 2 by omega, show decide (0 ≤ (k : Int) - 2) = decide (2 ≤ k) by simp; omega, show decide ((k : Int) - 2 < 32) = decide (k - 2 < 32) by simp; omega]
  · rw [show decide (0 ≤ (k : Int) - 2) = false by simp; omega, show decide (2 ≤ k) = false by simp; omega]; simp

theorem mk.int_eq {a b : Int} (h : a = b) : Value.int .i64 a = Value.int .i64 b := by rw [h]

theorem mk.u64_range {n : Int} (h : (Lit.int .u64 n).wf = true) : 0 ≤ n ∧ n < 18446744073709551616 := by
  have := bounds_u64 h
  omega

namespace maskMembers
open mk
/-- how many members there are below the k-th number from -2 on -/
def cntTo (m k : Nat) : Nat := (memTo m (min (k - 2) 32)).length

theorem cnt_no (m k : Nat) (h : hasB m ((k : Int) - 2) = false) : cntTo m (k + 1) = cntTo m k := by
  rw [hasB_at] at h
  unfold cntTo
  by_cases h2 : 2 ≤ k
  · by_cases h3 : k - 2 < 32
    · rw [show min (k + 1 - 2) 32 = (k - 2) + 1 by omega, show min (k - 2) 32 = k - 2 by omega, memTo_succ]
      have : m.testBit (k - 2) = false := by simpa [h2, h3] using h
      simp [this]
    · rw [show min (k + 1 - 2) 32 = 32 by omega, show min (k - 2) 32 = 32 by omega]
  · rw [show min (k + 1 - 2) 32 = 0 by omega, show min (k - 2) 32 = 0 by omega]

theorem cnt_yes (m k : Nat) (h : hasB m ((k : Int) - 2) = true) : cntTo m (k + 1) = cntTo m k + 1 ∧ (memTo m 32)[cntTo m k]? = some (k - 2) ∧ 2 ≤ k ∧ k - 2 < 32 := by
  rw [hasB_at] at h
  simp at h
  obtain ⟨h2, h3, h4⟩ := h
  unfold cntTo
  rw [show min (k + 1 - 2) 32 = (k - 2) + 1 by omega, show min (k - 2) 32 = k - 2 by omega, memTo_succ]
  refine ⟨by simp [h4], memTo_prefix m (k - 2) (by omega) h4, h2, by omega⟩

set_option maxHeartbeats 2000000 in
set_option maxRecDepth 100000 in
theorem core (m : Nat) (hm : m < 18446744073709551616) (w : World) (hT : Tabs w) (h0w : 0 < w.heap.size) :
    Calls Tryd.prog 9 #[.int .u64 m] w fun e w' => e = .returned (.bool true) ∧ Below w.heap.size w w' := by
  have hb := low_num m hm
  have HL := Lib.hid (memTo_low m)
  have HO : Hid (ofL 0 (ints (mem (m % 4294967296))) = (m % 4294967296, 0)) := Lib.hid (by
    have := ofL_mem m 32 (by omega)
    rw [memTo_low] at this
    simpa using this)
  have hcl := cnt_le (m % 4294967296)
  have C1 := Lib.hid (list_any m hm w hT h0w)
  have HT := Lib.hid hT
  clear hT
  generalize m % 4294967296 = M at *
  go_enter Tryd.func9, Tryd.ntmps9
  go_wp2_with fail
  refine C1.out.mono ?_
  rintro e w1 ⟨v, rfl, hv, hb1⟩
  have HV := Lib.hid hv
  have hs1 := hb1.size
  obtain ⟨a, c, rfl, hcell⟩ : ∃ a c, v = .slice a (mem M).length c ∧ ∀ j, j < (mem M).length → ∃ b o, a = some ⟨b, o, none⟩ ∧ w1.cell? ⟨b, o + j, none⟩ = some (.int .i64 (((mem M).getD j 0 : Nat) : Int)) := by
    rcases hv with ⟨a, c, rfl, hz⟩ | ⟨b, o, c, rfl, hc⟩
    · have : mem M = [] := by simpa [ints] using hz
      rw [this]
      exact ⟨a, c, rfl, fun j hj => by simp at hj⟩
    · refine ⟨some ⟨b, o, none⟩, c, by simp [ints], fun j hj => ⟨b, o, rfl, ?_⟩⟩
      rw [hc j (by simpa [ints] using hj)]
      simp [ints, List.getD, hj]
  clear hv C1
  generalize hn : (mem M).length = n at *
  have HN := Lib.hid hn
  have HC := Lib.hid hcell
  clear hn hcell
  go_wp2_with fail
  go_loopw [4, 5] (fun x i wr => ∃ k q : Nat, k ≤ 74 ∧ i = .int .i64 ((k : Int) - 2) ∧ x = .int .i64 (cntTo m k : Nat) ∧ wr = w1.drewN q) (fun _ i _ => 74 - (intOf i + 2).toNat)
  case atStart => exact ⟨0, 0, by omega, rfl, rfl, rfl⟩
  case round =>
    obtain ⟨k, q, hk, rfl, rfl, rfl⟩ := hrel
    by_cases hlt : k < 74
    · have hlt' : (k : Int) - 2 < 72 := by omega
      have CH := fun W => has_any m ((k : Int) - 2) W hm
      cases hh : hasB m ((k : Int) - 2)
      · have HE := Lib.hid (cnt_no m k hh)
        rw [hh] at CH
        clear hh
        have CH := Lib.hid CH
        generalize cntTo m k = x at *
        go_wp2_with fail
        refine (CH.out _).mono ?_
        rintro e w' ⟨rfl, q1, rfl⟩
        go_wp2_with fail
        refine ⟨⟨k + 1, _, by omega, int_eq (by omega), int_eq (by have := HE.out; omega), rfl⟩, ?_⟩
        simp [intOf]; omega
      · obtain ⟨e1, e2, e3, e4⟩ := cnt_yes m k hh
        rw [HL.out] at e2
        have hx : cntTo m k < (mem M).length := by
          apply Nat.lt_of_not_le; intro hc; rw [List.getElem?_eq_none hc] at e2; cases e2
        rw [HN.out] at hx
        have hg : (mem M).getD (cntTo m k) 0 = k - 2 := by simp [List.getD, e2]
        obtain ⟨b, o, ha, hc⟩ := HC.out _ hx
        subst ha
        rw [hg, show (((k - 2 : Nat) : Nat) : Int) = (k : Int) - 2 by omega] at hc
        have HE := Lib.hid e1
        clear e1 e2 hg
        rw [hh] at CH
        clear hh
        have CH := Lib.hid CH
        generalize cntTo m k = x at *
        have ht : decide (n ≤ x) = false := by simp; omega
        go_wp2_with fail
        refine (CH.out _).mono ?_
        rintro e w' ⟨rfl, q1, rfl⟩
        go_wp2_with fail
        refine ⟨⟨k + 1, _, by omega, int_eq (by omega), ?_, rfl⟩, ?_⟩
        · exact int_eq (by have := HE.out; omega)
        · simp [intOf]; omega
    · obtain rfl : k = 74 := by omega
      have hx : cntTo m 74 = n := by
        unfold cntTo
        rw [show min (74 - 2) 32 = 32 from rfl, HL.out, HN.out]
      rw [hx]
      clear hx
      have CO := Lib.hid (fun W h => of_any (.slice a n c) (ints (mem M)) W h (by simp [ints]; have := HN.out; omega))
      rw [HO.out] at CO
      go_wp2_with fail
      refine (CO.out _ (HV.out.below (below_drewN (Below.refl _ _) q))).mono ?_
      rintro e w' ⟨rfl, q1, rfl⟩
      go_wp2_with fail
      have hb2 : Below w.heap.size w (w1.drewN (q + q1)) := below_drewN hb1 _
      refine (awake_any _ (HT.out.below hb2 h0w) (by simp; omega)).mono ?_
      rintro e w' ⟨rfl, hb3⟩
      go_wp2_with fail
      go_ret
      exact ⟨rfl, hb2.trans (hb3.mono hb2.size)⟩

theorem walk (n : Int) (w : World) (wf : (Lit.int .u64 n).wf = true) (hL : laidMetH Tryd.prog Rows.maskMembersRow.laid w) (_ : w.ShapedOpen Tryd.prog) :
    Calls Tryd.prog 9 #[.int .u64 n] w fun e w' => e = .returned (.bool true) ∧ Below w.heap.size w w' := by
  obtain ⟨h0, h1⟩ := u64_range wf
  obtain ⟨m, rfl⟩ := Int.eq_ofNat_of_zero_le h0
  have hT := tabs_of hL (by rfl)
  exact core m (by omega) w hT (heap_pos hT)
end maskMembers
end Go.Proofs.YtjckgehlojcinaaDoor
