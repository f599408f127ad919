/-
  The source of numbers hands out names and paths.
-/
import Derived.Test.YtafnbpkdenjipaaSrcB
import Derived.Test.YtafnbpkdenjipaaPth
namespace Go.Proofs.Ytafnbpkdenjipaa.sr
open Go.RowKit Go.Proofs.Ytafnbpkdenjipaa.pt

/-- what Name hands out -/
def NmP (t : ByteArray) : Prop := t.size ≤ 13 ∧ (t = ⟨#[97, 47, 98]⟩ ∨ (47 : UInt8) ∉ t.data.toList)

set_option maxRecDepth 100000 in
set_option maxHeartbeats 4000000 in
theorem name_b (W0 w : World) (b : Nat) (a : Option Addr) (len cap k : Nat) (h : SrcAt W0 w b a len cap k) (hk : k + 2 ≤ 100000) :
    Calls Try.prog 16 #[.pointer (some ⟨b, 0, none⟩)] w (StrB W0 b a len cap (k + 2) NmP w) := by
  have CN := Lib.hid (n_b W0 w b a len cap k 20 h (by omega) (by omega) (by omega))
  have hbl := h.lt
  clear h
  go_enter Try.func16, Try.ntmps16
  go_wp2_with fail
  refine CN.out.mono ?_
  rintro e w1 ⟨x, hx, rfl, hs, hb⟩
  have hbl2 := hs.lt
  by_cases h19 : x = 19
  · subst h19
    have CW := Lib.hid (word_b W0 (w1.alloc (.cells #[.string ⟨#[]⟩, .string ⟨#[46]⟩, .string ⟨#[46, 46]⟩, .string ⟨#[97, 47, 98]⟩, .string ⟨#[97, 98, 99, 100, 101, 102, 103, 104, 105, 106, 107, 108]⟩, .string ⟨#[97, 98, 99, 100, 101, 102, 103, 104, 105, 106, 107, 108, 109]⟩, .string ⟨#[97, 0]⟩, .string ⟨#[126]⟩] 9)) b a len cap (k + 1) (hs.alloc _) (by omega) w1.heap.size (by omega) (by simp) 8 (by omega) (by omega) 8 NmP (fun j hj => by
      match j, hj with
      | 0, _ => exact ⟨_, by first | (simp; rfl) | simp, by decide, .inr (by decide)⟩
      | 1, _ => exact ⟨_, by first | (simp; rfl) | simp, by decide, .inr (by decide)⟩
      | 2, _ => exact ⟨_, by first | (simp; rfl) | simp, by decide, .inr (by decide)⟩
      | 3, _ => exact ⟨_, by first | (simp; rfl) | simp, by decide, .inl rfl⟩
      | 4, _ => exact ⟨_, by first | (simp; rfl) | simp, by decide, .inr (by decide)⟩
      | 5, _ => exact ⟨_, by first | (simp; rfl) | simp, by decide, .inr (by decide)⟩
      | 6, _ => exact ⟨_, by first | (simp; rfl) | simp, by decide, .inr (by decide)⟩
      | 7, _ => exact ⟨_, by first | (simp; rfl) | simp, by decide, .inr (by decide)⟩))
    go_wp2_with fail
    refine CW.out.mono ?_
    rintro e w2 ⟨y, hy, rfl, hs2, hb2⟩
    go_wp2_with fail
    go_ret
    exact ⟨y, hy, rfl, hs2, (hb.alloc _).trans hb2⟩
  · have hx19 : ((x : Int) == 19) = false := by simp; omega
    have CW := Lib.hid (word_b W0 (w1.alloc (.cells #[.string ⟨#[97]⟩, .string ⟨#[98]⟩, .string ⟨#[99]⟩, .string ⟨#[100]⟩, .string ⟨#[108]⟩, .string ⟨#[109]⟩] 9)) b a len cap (k + 1) (hs.alloc _) (by omega) w1.heap.size (by omega) (by simp) 6 (by omega) (by omega) 6 NmP (fun j hj => by
      match j, hj with
      | 0, _ => exact ⟨_, by first | (simp; rfl) | simp, by decide, .inr (by decide)⟩
      | 1, _ => exact ⟨_, by first | (simp; rfl) | simp, by decide, .inr (by decide)⟩
      | 2, _ => exact ⟨_, by first | (simp; rfl) | simp, by decide, .inr (by decide)⟩
      | 3, _ => exact ⟨_, by first | (simp; rfl) | simp, by decide, .inr (by decide)⟩
      | 4, _ => exact ⟨_, by first | (simp; rfl) | simp, by decide, .inr (by decide)⟩
      | 5, _ => exact ⟨_, by first | (simp; rfl) | simp, by decide, .inr (by decide)⟩))
    go_wp2_with fail
    refine CW.out.mono ?_
    rintro e w2 ⟨y, hy, rfl, hs2, hb2⟩
    go_wp2_with fail
    go_ret
    exact ⟨y, hy, rfl, hs2, (hb.alloc _).trans hb2⟩

set_option maxRecDepth 100000 in
set_option maxHeartbeats 4000000 in
theorem path_b (W0 w : World) (b : Nat) (a : Option Addr) (len cap k : Nat) (h : SrcAt W0 w b a len cap k) (hk : k + 15 ≤ 100000) :
    Calls Try.prog 44 #[.pointer (some ⟨b, 0, none⟩)] w (fun e w' => ∃ k', k' ≤ k + 15 ∧ StrB W0 b a len cap k' (fun t => t.size ≤ 60) w e w') := by
  have CN := Lib.hid (n_b W0 w b a len cap k 6 h (by omega) (by omega) (by omega))
  have hbl := h.lt
  clear h
  go_enter Try.func44, Try.ntmps44
  go_wp2_with fail
  refine CN.out.mono ?_
  rintro e w1 ⟨x, hx, rfl, hs, hb⟩
  have hbl2 := hs.lt
  have CP := Lib.hid (pick_b W0 (w1.alloc (.cells #[.int .i64 1, .int .i64 1, .int .i64 2, .int .i64 2, .int .i64 3, .int .i64 0, .int .i64 4] 3)) b a len cap (k + 1) (hs.alloc _) (by omega) w1.heap.size (by omega) (by simp) 7 (by omega) (by omega) 7 (fun x => 0 ≤ x ∧ x ≤ 4) (fun j hj => by
    match j, hj with
    | 0, _ => exact ⟨_, by first | (simp; rfl) | simp, by decide⟩
    | 1, _ => exact ⟨_, by first | (simp; rfl) | simp, by decide⟩
    | 2, _ => exact ⟨_, by first | (simp; rfl) | simp, by decide⟩
    | 3, _ => exact ⟨_, by first | (simp; rfl) | simp, by decide⟩
    | 4, _ => exact ⟨_, by first | (simp; rfl) | simp, by decide⟩
    | 5, _ => exact ⟨_, by first | (simp; rfl) | simp, by decide⟩
    | 6, _ => exact ⟨_, by first | (simp; rfl) | simp, by decide⟩))
  go_wp2_with fail
  all_goals
    refine CP.out.mono ?_
    rintro e w2 ⟨z, ⟨hz0, hz4⟩, rfl, hs2, hb2⟩
    have hb02 := (hb.alloc _).trans hb2
    obtain ⟨n0, rfl⟩ := Int.eq_ofNat_of_zero_le hz0
    clear hz0 hb2
    go_wp2_with fail
    go_loopw [3, 5] (fun v i wr => ∃ (n k' : Nat) (t : ByteArray), i = .int .i64 (n : Int) ∧ v = .string t ∧ n ≤ n0 ∧ t.size ≤ 1 + 14 * n ∧ k' ≤ k + 2 + 3 * n ∧ SrcAt W0 wr b a len cap k' ∧ Beside b w wr) (fun _ i _ => n0 - (intOf i).toNat)
    case atStart => exact ⟨0, k + 1 + 1, _, rfl, rfl, Nat.zero_le _, by decide, by omega, hs2, hb02⟩
    case round =>
      obtain ⟨n, k', t, rfl, rfl, hn, ht, hk', hsr, hbr⟩ := hrel
      have hbl3 := hsr.lt
      by_cases hlt : n < n0
      · have C8 := Lib.hid (n_b W0 wr b a len cap k' 8 hsr (by omega) (by omega) (by omega))
        have hlt' : (n : Int) < (n0 : Int) := by omega
        go_wp2_with fail
        all_goals
          refine C8.out.mono ?_
          rintro e w3 ⟨y, hy, rfl, hs3, hb3⟩
          have hbl4 := hs3.lt
          have hbr3 := hbr.trans hb3
          by_cases h7 : y = 7
          · subst h7
            have CW := Lib.hid (word_b W0 (w3.alloc (.cells #[.string ⟨#[46]⟩, .string ⟨#[46, 46]⟩, .string ⟨#[]⟩, .string ⟨#[97, 47, 47, 98]⟩] 9)) b a len cap (k' + 1) (hs3.alloc _) (by omega) w3.heap.size (by omega) (by simp) 4 (by omega) (by omega) 4 (fun t => t.size ≤ 13) (fun j hj => by
              match j, hj with
              | 0, _ => exact ⟨_, by first | (simp; rfl) | simp, by decide⟩
              | 1, _ => exact ⟨_, by first | (simp; rfl) | simp, by decide⟩
              | 2, _ => exact ⟨_, by first | (simp; rfl) | simp, by decide⟩
              | 3, _ => exact ⟨_, by first | (simp; rfl) | simp, by decide⟩))
            go_wp2_with fail
            refine CW.out.mono ?_
            rintro e w4 ⟨u, hu, rfl, hs4, hb4⟩
            go_wp2_with fail
            refine ⟨⟨n + 1, k' + 1 + 1, _, by go_num, rfl, by omega, ?_, by omega, hs4, (hbr3.alloc _).trans hb4⟩, by simp [intOf]; omega⟩
            simp only [ByteArray.size_append]
            first
              | (show t.size + 1 + u.size ≤ _; omega)
              | (show t.size + u.size ≤ _; omega)
          · have h7' : ((y : Int) == 7) = false := by simp; omega
            have CM := Lib.hid (name_b W0 w3 b a len cap (k' + 1) hs3 (by omega))
            go_wp2_with fail
            refine CM.out.mono ?_
            rintro e w4 ⟨u, hu, rfl, hs4, hb4⟩
            have hu1 := hu.1
            clear hu
            go_wp2_with fail
            refine ⟨⟨n + 1, k' + 1 + 2, _, by go_num, rfl, by omega, ?_, by omega, hs4, hbr3.trans hb4⟩, by simp [intOf]; omega⟩
            simp only [ByteArray.size_append]
            first
              | (show t.size + 1 + u.size ≤ _; omega)
              | (show t.size + u.size ≤ _; omega)
      · have C8 := Lib.hid (n_b W0 wr b a len cap k' 8 hsr (by omega) (by omega) (by omega))
        have hlt' : ¬ (n : Int) < (n0 : Int) := by omega
        go_wp2_with fail
        refine C8.out.mono ?_
        rintro e w3 ⟨y, hy, rfl, hs3, hb3⟩
        have hbr3 := hbr.trans hb3
        by_cases h7 : y = 7
        · subst h7
          go_wp2_with fail
          go_ret
          exact ⟨k' + 1, by omega, _, by show (t ++ (⟨#[47]⟩ : ByteArray)).size ≤ 60; rw [ByteArray.size_append]; show t.size + 1 ≤ 60; omega, rfl, hs3, hbr3⟩
        · have h7' : ((y : Int) == 7) = false := by simp; omega
          go_wp2_with fail
          go_ret
          exact ⟨k' + 1, by omega, t, by omega, rfl, hs3, hbr3⟩
end Go.Proofs.Ytafnbpkdenjipaa.sr
