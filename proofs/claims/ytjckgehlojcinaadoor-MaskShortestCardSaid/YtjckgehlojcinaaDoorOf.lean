/-
  mask.Of and the reference's Of return the set of a list's numbers, or the error.
-/
import Derived.Test.YtjckgehlojcinaaDoorLeaf
namespace Go.Proofs.YtjckgehlojcinaaDoor.mk
open Go.RowKit

/-- v is a slice of the numbers zs -/
def IsInts (w : World) (v : Value) (zs : List Int) : Prop :=
  (∃ a c, v = .slice a 0 c ∧ zs = []) ∨ ∃ b o c, v = .slice (some ⟨b, o, none⟩) zs.length c ∧ ∀ k, k < zs.length → w.cell? ⟨b, o + k, none⟩ = some (.int .i64 (zs.getD k 0))

theorem ofL_snoc (zs : List Int) (k : Nat) (hk : k < zs.length) (m : Nat) (h : ofL 0 (zs.take k) = (m, 0)) (h0 : 0 ≤ zs.getD k 0) (h1 : zs.getD k 0 < 32) :
    ofL 0 (zs.take (k + 1)) = (m ||| 2 ^ (zs.getD k 0).toNat, 0) := by
  have gen : ∀ (l : List Int) (a m : Nat) (x : Int), 0 ≤ x → x < 32 → ofL a l = (m, 0) → ofL a (l ++ [x]) = (m ||| 2 ^ x.toNat, 0) := by
    intro l
    induction l with
    | nil => intro a m x h0 h1 h; simp [ofL] at h; subst h; simp [ofL, h0, h1]
    | cons y r ih =>
      intro a m x h0 h1 h
      simp only [List.cons_append, ofL] at h ⊢
      by_cases hy : 0 ≤ y ∧ y < 32
      · rw [if_pos hy] at h ⊢; exact ih _ _ _ h0 h1 h
      · rw [if_neg hy] at h; simp at h
  rw [List.take_succ_eq_append_getElem hk]
  have : zs[k] = zs.getD k 0 := by simp [List.getD, hk]
  rw [this]
  exact gen _ _ _ _ h0 h1 h

theorem ofL_lt : ∀ (l : List Int) (a m : Nat) (e : Int), a < 4294967296 → ofL a l = (m, e) → m < 4294967296
  | [], a, m, e, ha, h => by simp [ofL] at h; omega
  | y :: r, a, m, e, ha, h => by
    simp only [ofL] at h
    by_cases hy : 0 ≤ y ∧ y < 32
    · rw [if_pos hy] at h; exact ofL_lt r _ _ _ (or_lt a _ ha (by omega)) h
    · rw [if_neg hy] at h; simp at h; omega

theorem ofL_bad (zs : List Int) (k : Nat) (hk : k < zs.length) (m : Nat) (h : ofL 0 (zs.take k) = (m, 0)) (hb : ¬ (0 ≤ zs.getD k 0 ∧ zs.getD k 0 < 32)) : ofL 0 zs = (0, 10) := by
  have gen : ∀ (l : List Int) (a m : Nat) (x : Int) (r : List Int), ¬ (0 ≤ x ∧ x < 32) → ofL a l = (m, 0) → ofL a (l ++ x :: r) = (0, 10) := by
    intro l
    induction l with
    | nil => intro a m x r hb _; simp only [List.nil_append, ofL]; rw [if_neg hb]
    | cons y r' ih =>
      intro a m x r hb h
      simp only [List.cons_append, ofL] at h ⊢
      by_cases hy : 0 ≤ y ∧ y < 32
      · rw [if_pos hy] at h ⊢; exact ih _ _ _ _ hb h
      · rw [if_neg hy] at h; simp at h
  have e : zs = zs.take k ++ zs.getD k 0 :: zs.drop (k + 1) := by
    have : zs[k] = zs.getD k 0 := by simp [List.getD, hk]
    rw [← this, List.getElem_cons_drop, List.take_append_drop]
  rw [e]
  exact gen _ _ _ _ _ hb h

theorem ret_pair {m m' : Nat} {e e' : Int} (h : m = m') (h' : e = e') : Ending.returned (.tuple #[.int .u64 (m : Int), .int .i64 e]) = .returned (.tuple #[.int .u64 (m' : Int), .int .i64 e']) := by rw [h, h']

set_option maxHeartbeats 1000000 in
theorem of_any (v : Value) (zs : List Int) (w : World) (hv : IsInts w v zs) (hl : zs.length ≤ 40000) :
    Calls Tryd.prog 11 #[v] w fun e w' => e = .returned (.tuple #[.int .u64 ((ofL 0 zs).1 : Int), .int .i64 (ofL 0 zs).2]) ∧ ∃ k, w' = w.drewN k := by
  rcases hv with ⟨a, c, rfl, rfl⟩ | ⟨b, o, c, rfl, hc⟩
  · go_enter Tryd.func11, Tryd.ntmps11
    go_wp2
    go_loop [4, 9] (fun m i => m = .int .u64 0 ∧ i = .int .i64 0) (fun _ _ => 0)
    case atStart => exact ⟨rfl, rfl⟩
    case round =>
      obtain ⟨rfl, rfl⟩ := hrel
      go_wp2
      go_ret2
      exact ⟨rfl, 0, rfl⟩
  · generalize hn : zs.length = n at *
    go_enter Tryd.func11, Tryd.ntmps11
    go_wp2
    go_loopw [4, 9] (fun m i wr => ∃ k M : Nat, k ≤ n ∧ i = .int .i64 k ∧ m = .int .u64 (M : Int) ∧ Hid (ofL 0 (zs.take k) = (M, 0)) ∧ ∃ q, wr = w.drewN q) (fun _ i _ => n - (intOf i).toNat)
    case atStart => exact ⟨0, 0, Nat.zero_le _, rfl, rfl, Lib.hid rfl, 0, rfl⟩
    case round =>
      obtain ⟨k, M, hk, rfl, rfl, HM, q, rfl⟩ := hrel
      by_cases hlt : k < n
      · have hcell := hc k hlt
        have HC := Lib.hid hc
        clear hc
        by_cases hin : 0 ≤ zs.getD k 0 ∧ zs.getD k 0 < 32
        · have HS := Lib.hid (ofL_snoc zs k (by omega) M HM.out hin.1 hin.2)
          have HO := ofL_lt _ _ _ _ (by omega) HM.out
          generalize hx : zs.getD k 0 = x at *
          have HX := Lib.hid hx
          clear hx
          obtain ⟨h0, h1⟩ := hin
          obtain ⟨X, rfl⟩ := Int.eq_ofNat_of_zero_le h0
          have c1 := fun w => isCall_any (X : Int) w
          have hd : decide (0 ≤ (X : Int) ∧ (X : Int) < 32) = true := by simp; omega
          simp only [hd] at c1
          have C1 := Lib.hid c1
          clear c1 hd
          have HR := Lib.hid (or_num M X HO (by omega))
          go_wp2_with fail
          refine (C1.out _).mono ?_
          rintro e w' ⟨rfl, rfl⟩
          go_wp2_with fail
          refine (span_any X X _ (by omega) (by omega)).mono ?_
          rintro e w' ⟨rfl, nq, rfl⟩
          go_wp2_with fail
          go_roundw
          case rel => exact ⟨k + 1, M ||| 2 ^ X, by omega, by go_num, by rw [HR.out], Lib.hid HS.out, _, rfl⟩
          case measure => simp [intOf]; omega
        · have HS := Lib.hid (ofL_bad zs k (by omega) M HM.out hin)
          generalize hx : zs.getD k 0 = x at *
          have HX := Lib.hid hx
          clear hx
          have c1 := fun w => isCall_any x w
          have hd : decide (0 ≤ x ∧ x < 32) = false := by simp; omega
          simp only [hd] at c1
          have C1 := Lib.hid c1
          clear c1 hd
          go_wp2_with fail
          refine (C1.out _).mono ?_
          rintro e w' ⟨rfl, rfl⟩
          go_wp2_with fail
          go_ret2
          exact ⟨ret_pair (by rw [HS.out]) (by rw [HS.out]), _, rfl⟩
      · obtain rfl : k = n := by omega
        have HE : Hid (ofL 0 zs = (M, 0)) := Lib.hid (by have := HM.out; rwa [List.take_of_length_le (by omega)] at this)
        have HN := Lib.hid hn
        clear hn
        go_wp2_with fail
        go_ret2
        exact ⟨ret_pair (by rw [HE.out]) (by rw [HE.out]), _, rfl⟩

set_option maxHeartbeats 1000000 in
theorem rof_any (v : Value) (zs : List Int) (w : World) (hv : IsInts w v zs) (hl : zs.length ≤ 40000) :
    Calls Tryd.prog 12 #[v] w fun e w' => e = .returned (.tuple #[.int .u64 ((ofL 0 zs).1 : Int), .int .i64 (ofL 0 zs).2]) ∧ ∃ k, w' = w.drewN k := by
  rcases hv with ⟨a, c, rfl, rfl⟩ | ⟨b, o, c, rfl, hc⟩
  · go_enter Tryd.func12, Tryd.ntmps12
    go_wp2
    go_loop [4, 5] (fun m i => m = .int .u64 0 ∧ i = .int .i64 0) (fun _ _ => 0)
    case atStart => exact ⟨rfl, rfl⟩
    case round =>
      obtain ⟨rfl, rfl⟩ := hrel
      go_wp2
      go_ret2
      exact ⟨rfl, 0, rfl⟩
  · generalize hn : zs.length = n at *
    go_enter Tryd.func12, Tryd.ntmps12
    go_wp2
    go_loopw [4, 5] (fun m i wr => ∃ k M : Nat, k ≤ n ∧ i = .int .i64 k ∧ m = .int .u64 (M : Int) ∧ Hid (ofL 0 (zs.take k) = (M, 0)) ∧ ∃ q, wr = w.drewN q) (fun _ i _ => n - (intOf i).toNat)
    case atStart => exact ⟨0, 0, Nat.zero_le _, rfl, rfl, Lib.hid rfl, 0, rfl⟩
    case round =>
      obtain ⟨k, M, hk, rfl, rfl, HM, q, rfl⟩ := hrel
      by_cases hlt : k < n
      · have hcell := hc k hlt
        have HC := Lib.hid hc
        clear hc
        by_cases hin : 0 ≤ zs.getD k 0 ∧ zs.getD k 0 < 32
        · have HS := Lib.hid (ofL_snoc zs k (by omega) M HM.out hin.1 hin.2)
          have HO := ofL_lt _ _ _ _ (by omega) HM.out
          generalize hx : zs.getD k 0 = x at *
          have HX := Lib.hid hx
          clear hx
          obtain ⟨h0, h1⟩ := hin
          obtain ⟨X, rfl⟩ := Int.eq_ofNat_of_zero_le h0
          have HR := Lib.hid (or_num' M X HO (by omega))
          go_wp2
          go_roundw
          case rel => exact ⟨k + 1, M ||| 2 ^ X, by omega, by go_num, by rw [← HR.out], Lib.hid HS.out, _, rfl⟩
          case measure => simp [intOf]; omega
        · have HS := Lib.hid (ofL_bad zs k (by omega) M HM.out hin)
          generalize hx : zs.getD k 0 = x at *
          have HX := Lib.hid hx
          clear hx
          by_cases h0 : x < 0
          · go_wp2
            go_ret2
            exact ⟨ret_pair (by rw [HS.out]) (by rw [HS.out]), _, rfl⟩
          · have h1 : 32 ≤ x := by omega
            go_wp2
            go_ret2
            exact ⟨ret_pair (by rw [HS.out]) (by rw [HS.out]), _, rfl⟩
      · obtain rfl : k = n := by omega
        have HE : Hid (ofL 0 zs = (M, 0)) := Lib.hid (by have := HM.out; rwa [List.take_of_length_le (by omega)] at this)
        have HN := Lib.hid hn
        clear hn
        go_wp2_with fail
        go_ret2
        exact ⟨ret_pair (by rw [HE.out]) (by rw [HE.out]), _, rfl⟩
end Go.Proofs.YtjckgehlojcinaaDoor.mk
