/-
  The source of numbers hands out a pair.
-/
import Derived.Test.YtdndngabddnpmaaGreatDoorSrcB
namespace Go.Proofs.YtdndngabddnpmaaGreatDoor.sr
open Go.RowKit

/-- the pair that is handed out -/
def PairB (W0 : World) (b : Nat) (a : Option Addr) (len cap k : Nat) (w : World) (e : Ending) (w' : World) : Prop :=
  ∃ (nm : ByteArray) (kd n : Int) (t : ByteArray) (k' : Nat), e = .returned (.agg #[.string nm, .int .i64 kd, .int .i64 n, .string t]) ∧ nm.size ≤ 17 ∧ (1 ≤ kd ∧ kd ≤ 3) ∧ (-9223372036854775808 ≤ n ∧ n ≤ 9223372036854775807) ∧ t.size ≤ 4 ∧ k' ≤ k + 20 ∧ SrcAt W0 w' b a len cap k' ∧ Beside b w w'

set_option maxRecDepth 100000 in
set_option maxHeartbeats 8000000 in
theorem pair_b (W0 w : World) (b : Nat) (a : Option Addr) (len cap k : Nat) (h : SrcAt W0 w b a len cap k) (hk : k + 30 ≤ 100000) :
    Calls Tryz.prog 17 #[.pointer (some ⟨b, 0, none⟩)] w (PairB W0 b a len cap k w) := by
  have FIN : Hid (∀ (nm : ByteArray) (kd n : Int) (t : ByteArray) (k' : Nat) (w' : World), nm.size ≤ 17 → (1 ≤ kd ∧ kd ≤ 3) → (-9223372036854775808 ≤ n ∧ n ≤ 9223372036854775807) → t.size ≤ 4 → k' ≤ k + 20 → SrcAt W0 w' b a len cap k' → Beside b w w' → PairB W0 b a len cap k w (.returned (.agg #[.string nm, .int .i64 kd, .int .i64 n, .string t])) w') :=
    Lib.hid (fun nm kd n t k' w' h1 h2 h3 h4 h5 h6 h7 => ⟨nm, kd, n, t, k', rfl, h1, h2, h3, h4, h5, h6, h7⟩)
  have hbl := h.lt
  have hR0 : W0.heap.size ≤ w.heap.size := h.old.size
  have hRb : w.heap.size ≠ b := by omega
  have CW := Lib.hid (word_b W0 ((w.alloc (.cells #[.string ⟨#[]⟩, .int .i64 0, .int .i64 0, .string ⟨#[]⟩] 39)).alloc (.cells #[.string ⟨#[97]⟩, .string ⟨#[98]⟩, .string ⟨#[117, 105, 100]⟩, .string ⟨#[107, 101, 121]⟩, .string ⟨#[97, 48]⟩, .string ⟨#[120, 95, 49]⟩, .string ⟨#[112, 105, 100]⟩, .string ⟨#[112, 97, 116, 104]⟩] 9)) b a len cap k ((h.alloc _).alloc _) (by omega) (w.heap.size + 1) (by omega) (by simp) 8 (by omega) (by omega) 8 (fun x => x.size ≤ 17) (fun j hj => by
    match j, hj with
    | 0, _ => exact ⟨_, by simp; rfl, by decide⟩
    | 1, _ => exact ⟨_, by simp; rfl, by decide⟩
    | 2, _ => exact ⟨_, by simp; rfl, by decide⟩
    | 3, _ => exact ⟨_, by simp; rfl, by decide⟩
    | 4, _ => exact ⟨_, by simp; rfl, by decide⟩
    | 5, _ => exact ⟨_, by simp; rfl, by decide⟩
    | 6, _ => exact ⟨_, by simp; rfl, by decide⟩
    | 7, _ => exact ⟨_, by simp; rfl, by decide⟩))
  have fR0 := Four.new w 39 (.string ⟨#[]⟩) (.int .i64 0) (.int .i64 0) (.string ⟨#[]⟩)
  have hb0 := ((Beside.refl b w).alloc (.cells #[.string ⟨#[]⟩, .int .i64 0, .int .i64 0, .string ⟨#[]⟩] 39))
  clear h
  go_enter Tryz.func17, Tryz.ntmps17
  go_wp2_with fail
  refine CW.out.mono ?_
  rintro e w1 ⟨nm, hnm, rfl, hs1, hb1⟩
  have hb1' := ((Beside.refl b (w.alloc (.cells #[.string ⟨#[]⟩, .int .i64 0, .int .i64 0, .string ⟨#[]⟩] 39))).alloc (.cells #[.string ⟨#[97]⟩, .string ⟨#[98]⟩, .string ⟨#[117, 105, 100]⟩, .string ⟨#[107, 101, 121]⟩, .string ⟨#[97, 48]⟩, .string ⟨#[120, 95, 49]⟩, .string ⟨#[112, 105, 100]⟩, .string ⟨#[112, 97, 116, 104]⟩] 9)).trans hb1
  have fR1 := fR0.beside hb1' hRb
  have hbw1 := hb0.trans hb1'
  have CG := Lib.hid (range_b W0 w1 b a len cap (k + 1) hs1 (by omega) 1 2 (by omega) (by omega) (by omega) 3 (by omega))
  clear fR0 hb0 hb1 hb1' hs1
  go_wp2_with fail
  refine CG.out.mono ?_
  rintro e w2 ⟨kd, hkd, rfl, hs2, hb2⟩
  have fR2 := fR1.beside hb2 hRb
  have hbw2 := hbw1.trans hb2
  have hnm' : nm.size ≤ 17 := hnm
  clear fR1 hb2 hbw1 hnm
  have hkk : kd = 1 ∨ kd = 2 ∨ kd = 3 := by omega
  have hRlt := fR2.lt
  have hP0 : W0.heap.size ≤ w2.heap.size := hs2.old.size
  have hPb : w2.heap.size ≠ b := by have := hs2.lt; omega
  have hPw : w.heap.size ≤ w2.heap.size := by omega
  have hRP : w.heap.size ≠ w2.heap.size := by omega
  rcases hkk with rfl | rfl | rfl
  · have fP := Four.new w2 39 (.string nm) (.int .i64 1) (.int .i64 0) (.string ⟨#[]⟩)
    have fR := fR2.beside ((Beside.refl b w2).alloc (.cells #[.string nm, .int .i64 1, .int .i64 0, .string ⟨#[]⟩] 39)) hRb
    have hbW := hbw2.alloc (.cells #[.string nm, .int .i64 1, .int .i64 0, .string ⟨#[]⟩] 39)
    have hsW := hs2.alloc (.cells #[.string nm, .int .i64 1, .int .i64 0, .string ⟨#[]⟩] 39)
    have CN := Lib.hid (n_b W0 _ b a len cap (k + 1 + 1) 1000 hsW (by omega) (by omega) (by omega))
    clear fR2 hbw2 hs2
    go_wp2_with fail
    refine CN.out.mono ?_
    rintro e w3 ⟨y, hy, rfl, hs3, hb3⟩
    have hbl3 := hs3.lt
    have CP := Lib.hid (pick_b W0 (w3.alloc (.cells #[.int .i64 0, .int .i64 1, .int .i64 (-1), .int .i64 42, .int .i64 9223372036854775807, .int .i64 (-9223372036854775808), .int .i64 (y : Int)] 3)) b a len cap (k + 1 + 1 + 1) (hs3.alloc _) (by omega) w3.heap.size (by omega) (by simp) 7 (by omega) (by omega) 7 (fun x => -9223372036854775808 ≤ x ∧ x ≤ 9223372036854775807) (fun j hj => by
      match j, hj with
      | 0, _ => exact ⟨_, by simp; rfl, by omega, by omega⟩
      | 1, _ => exact ⟨_, by simp; rfl, by omega, by omega⟩
      | 2, _ => exact ⟨_, by simp; rfl, by omega, by omega⟩
      | 3, _ => exact ⟨_, by simp; rfl, by omega, by omega⟩
      | 4, _ => exact ⟨_, by simp; rfl, by omega, by omega⟩
      | 5, _ => exact ⟨_, by simp; rfl, by omega, by omega⟩
      | 6, _ => exact ⟨_, by simp; rfl, by omega, by omega⟩))
    have hb3' := hb3.trans ((Beside.refl b w3).alloc (.cells #[.int .i64 0, .int .i64 1, .int .i64 (-1), .int .i64 42, .int .i64 9223372036854775807, .int .i64 (-9223372036854775808), .int .i64 (y : Int)] 3))
    go_wp2_with fail
    refine CP.out.mono ?_
    rintro e w4 ⟨n, hn, rfl, hs4, hb4⟩
    have hb4' := hb3'.trans hb4
    have fP4 := fP.beside hb4' hPb
    have fR4 := fR.beside hb4' hRb
    have hbw4 := hbW.trans hb4'
    have hnn : -9223372036854775808 ≤ n ∧ n ≤ 9223372036854775807 := hn
    have htt : (⟨#[]⟩ : ByteArray).size ≤ 4 := by decide
    clear fP fR hbW hb3 hb3' hb4 hb4' hsW hs3 hn
    have fP := fP4.at2 (.int .i64 n)
    have fR := fR4.other (C := w2.heap.size) (o := 2) hRP (.int .i64 n)
    have hsW := hs4.setNew (c := w2.heap.size) hP0 hPb 2 (.int .i64 n)
    have hbW := hbw4.setNew (c := w2.heap.size) hPw 2 (.int .i64 n)
    obtain ⟨g0, g1, g2, g3, j0, j1, j2, j3⟩ := fP4
    clear fR4 hs4 hbw4
    have CT := Lib.hid (n_b W0 (w4.setCell ⟨w2.heap.size, 2, none⟩ (.int .i64 n)) b a len cap (k + 1 + 1 + 1 + 1) 24 hsW (by omega) (by omega) (by omega))
    have hPlt := fP.lt
    obtain ⟨c0, c1, c2, c3, f0, f1, f2, f3⟩ := fP
    go_wp2_with fail
    refine CT.out.mono ?_
    rintro e w8 ⟨z, hz, rfl, hs8, hb8⟩
    have fP8 := (Four.mk c0 c1 c2 c3 f0 f1 f2 f3).beside hb8 hPb
    have fR8 := fR.beside hb8 hRb
    have hbw8 := hbW.trans hb8
    clear c0 c1 c2 c3 f0 f1 f2 f3 fR hb8 hsW hbW
    by_cases hz23 : z = 23
    · subst hz23
      have hbl8 := hs8.lt
      have CW := Lib.hid (word_b W0 (w8.alloc (.cells #[.string ⟨#[]⟩, .string ⟨#[65]⟩, .string ⟨#[49, 97]⟩, .string ⟨#[97, 45, 98]⟩, .string ⟨#[97, 98, 99, 100, 101, 102, 103, 104, 105, 106, 107, 108, 109, 110, 111, 112]⟩, .string ⟨#[97, 98, 99, 100, 101, 102, 103, 104, 105, 106, 107, 108, 109, 110, 111, 112, 113]⟩] 9)) b a len cap ((k + 1 + 1 + 1 + 1) + 1) (hs8.alloc _) (by omega) w8.heap.size (by omega) (by simp) 6 (by omega) (by omega) 6 (fun x => x.size ≤ 17) (fun j hj => by
        match j, hj with
        | 0, _ => exact ⟨_, by simp; rfl, by decide⟩
        | 1, _ => exact ⟨_, by simp; rfl, by decide⟩
        | 2, _ => exact ⟨_, by simp; rfl, by decide⟩
        | 3, _ => exact ⟨_, by simp; rfl, by decide⟩
        | 4, _ => exact ⟨_, by simp; rfl, by decide⟩
        | 5, _ => exact ⟨_, by simp; rfl, by decide⟩))
      go_wp2_with fail
      refine CW.out.mono ?_
      rintro e w9 ⟨v, hv, rfl, hs9, hb9⟩
      have hb9' := ((Beside.refl b w8).alloc (.cells #[.string ⟨#[]⟩, .string ⟨#[65]⟩, .string ⟨#[49, 97]⟩, .string ⟨#[97, 45, 98]⟩, .string ⟨#[97, 98, 99, 100, 101, 102, 103, 104, 105, 106, 107, 108, 109, 110, 111, 112]⟩, .string ⟨#[97, 98, 99, 100, 101, 102, 103, 104, 105, 106, 107, 108, 109, 110, 111, 112, 113]⟩] 9)).trans hb9
      have CN2 := Lib.hid (n_b W0 w9 b a len cap ((k + 1 + 1 + 1 + 1) + 1 + 1) 2 hs9 (by omega) (by omega) (by omega))
      have fP9 := fP8.beside hb9' hPb
      have fR9 := fR8.beside hb9' hRb
      have hbw9 := hbw8.trans hb9'
      clear fP8 fR8 hb9 hb9' hbw8
      go_wp2_with fail
      refine CN2.out.mono ?_
      rintro e wA ⟨u, hu, rfl, hsA, hbA⟩
      have fPA := fP9.beside hbA hPb
      have fRA := fR9.beside hbA hRb
      have hbwA := hbw9.trans hbA
      clear fP9 fR9 hbA hbw9 hs9
      have gP := fPA.at02 (.string v) (.int .i64 (u : Int))
      have gR := ((fRA.other (C := w2.heap.size) (o := 0) hRP (.string v)).other (C := w2.heap.size) (o := 2) hRP (.int .i64 (u : Int)))
      have hsB := ((hsA.setNew (c := w2.heap.size) hP0 hPb 0 (.string v)).setNew (c := w2.heap.size) hP0 hPb 2 (.int .i64 (u : Int)))
      have hbwB := ((hbwA.setNew (c := w2.heap.size) hPw 0 (.string v)).setNew (c := w2.heap.size) hPw 2 (.int .i64 (u : Int)))
      obtain ⟨c0, c1, c2, c3, f0, f1, f2, f3⟩ := fPA
      obtain ⟨p0, p1, p2, p3, _, _, _, _⟩ := gP
      have gR2 := gR.all (.string v) (.int .i64 1) (.int .i64 (u : Int)) (.string ⟨#[]⟩)
      have hsC := (((hsB.setNew (c := w.heap.size) hR0 hRb 0 (.string v)).setNew (c := w.heap.size) hR0 hRb 1 (.int .i64 1)).setNew (c := w.heap.size) hR0 hRb 2 (.int .i64 (u : Int))).setNew (c := w.heap.size) hR0 hRb 3 (.string ⟨#[]⟩)
      have hbwC := (((hbwB.setNew (c := w.heap.size) (Nat.le_refl _) 0 (.string v)).setNew (c := w.heap.size) (Nat.le_refl _) 1 (.int .i64 1)).setNew (c := w.heap.size) (Nat.le_refl _) 2 (.int .i64 (u : Int))).setNew (c := w.heap.size) (Nat.le_refl _) 3 (.string ⟨#[]⟩)
      obtain ⟨r0, r1, r2, r3, _, _, _, _⟩ := gR2
      obtain ⟨d0, d1, d2, d3, k0, k1, k2, k3⟩ := gR
      clear hsB hbwB hsA hbwA fRA
      go_wp2_with fail
      exact bodyPost_ret (v := .agg #[.string v, .int .i64 1, .int .i64 (u : Int), .string ⟨#[]⟩]) (by simp [results, Tryz.f17, go_sem, r0, r1, r2, r3]) rfl (FIN.out _ _ _ _ _ _ (by omega) (by omega) (by omega) htt (by omega) hsC hbwC)
    · have e23 : ((z : Int) == 23) = false := beq_eq_false_iff_ne.2 (by omega)
      have gR2 := fR8.all (.string nm) (.int .i64 1) (.int .i64 n) (.string ⟨#[]⟩)
      have hsC := (((hs8.setNew (c := w.heap.size) hR0 hRb 0 (.string nm)).setNew (c := w.heap.size) hR0 hRb 1 (.int .i64 1)).setNew (c := w.heap.size) hR0 hRb 2 (.int .i64 n)).setNew (c := w.heap.size) hR0 hRb 3 (.string ⟨#[]⟩)
      have hbwC := (((hbw8.setNew (c := w.heap.size) (Nat.le_refl _) 0 (.string nm)).setNew (c := w.heap.size) (Nat.le_refl _) 1 (.int .i64 1)).setNew (c := w.heap.size) (Nat.le_refl _) 2 (.int .i64 n)).setNew (c := w.heap.size) (Nat.le_refl _) 3 (.string ⟨#[]⟩)
      obtain ⟨c0, c1, c2, c3, f0, f1, f2, f3⟩ := fP8
      obtain ⟨r0, r1, r2, r3, _, _, _, _⟩ := gR2
      obtain ⟨d0, d1, d2, d3, k0, k1, k2, k3⟩ := fR8
      clear hs8 hbw8
      go_wp2_with fail
      exact bodyPost_ret (v := .agg #[.string nm, .int .i64 1, .int .i64 n, .string ⟨#[]⟩]) (by simp [results, Tryz.f17, go_sem, r0, r1, r2, r3]) rfl (FIN.out _ _ _ _ _ _ hnm' (by omega) hnn htt (by omega) hsC hbwC)
  · have fP := Four.new w2 39 (.string nm) (.int .i64 2) (.int .i64 0) (.string ⟨#[]⟩)
    have fR := fR2.beside ((Beside.refl b w2).alloc (.cells #[.string nm, .int .i64 2, .int .i64 0, .string ⟨#[]⟩] 39)) hRb
    have hbW := hbw2.alloc (.cells #[.string nm, .int .i64 2, .int .i64 0, .string ⟨#[]⟩] 39)
    have hsW := hs2.alloc (.cells #[.string nm, .int .i64 2, .int .i64 0, .string ⟨#[]⟩] 39)
    have CN := Lib.hid (text_b W0 _ b a len cap (k + 1 + 1) hsW (by omega))
    clear fR2 hbw2 hs2
    go_wp2_with fail
    refine CN.out.mono ?_
    rintro e w4 ⟨K0, hK0, tx, htx, rfl, hs4, hb4⟩
    have fP4 := fP.beside hb4 hPb
    have fR4 := fR.beside hb4 hRb
    have hbw4 := hbW.trans hb4
    have htt : tx.size ≤ 4 := htx
    have hnn : (-9223372036854775808 : Int) ≤ 0 ∧ (0 : Int) ≤ 9223372036854775807 := by omega
    clear fP fR hbW hb4 hsW htx
    have fP := fP4.at3 (.string tx)
    have fR := fR4.other (C := w2.heap.size) (o := 3) hRP (.string tx)
    have hsW := hs4.setNew (c := w2.heap.size) hP0 hPb 3 (.string tx)
    have hbW := hbw4.setNew (c := w2.heap.size) hPw 3 (.string tx)
    obtain ⟨g0, g1, g2, g3, j0, j1, j2, j3⟩ := fP4
    clear fR4 hs4 hbw4
    have CT := Lib.hid (n_b W0 (w4.setCell ⟨w2.heap.size, 3, none⟩ (.string tx)) b a len cap K0 24 hsW (by omega) (by omega) (by omega))
    have hPlt := fP.lt
    obtain ⟨c0, c1, c2, c3, f0, f1, f2, f3⟩ := fP
    go_wp2_with fail
    refine CT.out.mono ?_
    rintro e w8 ⟨z, hz, rfl, hs8, hb8⟩
    have fP8 := (Four.mk c0 c1 c2 c3 f0 f1 f2 f3).beside hb8 hPb
    have fR8 := fR.beside hb8 hRb
    have hbw8 := hbW.trans hb8
    clear c0 c1 c2 c3 f0 f1 f2 f3 fR hb8 hsW hbW
    by_cases hz23 : z = 23
    · subst hz23
      have hbl8 := hs8.lt
      have CW := Lib.hid (word_b W0 (w8.alloc (.cells #[.string ⟨#[]⟩, .string ⟨#[65]⟩, .string ⟨#[49, 97]⟩, .string ⟨#[97, 45, 98]⟩, .string ⟨#[97, 98, 99, 100, 101, 102, 103, 104, 105, 106, 107, 108, 109, 110, 111, 112]⟩, .string ⟨#[97, 98, 99, 100, 101, 102, 103, 104, 105, 106, 107, 108, 109, 110, 111, 112, 113]⟩] 9)) b a len cap (K0 + 1) (hs8.alloc _) (by omega) w8.heap.size (by omega) (by simp) 6 (by omega) (by omega) 6 (fun x => x.size ≤ 17) (fun j hj => by
        match j, hj with
        | 0, _ => exact ⟨_, by simp; rfl, by decide⟩
        | 1, _ => exact ⟨_, by simp; rfl, by decide⟩
        | 2, _ => exact ⟨_, by simp; rfl, by decide⟩
        | 3, _ => exact ⟨_, by simp; rfl, by decide⟩
        | 4, _ => exact ⟨_, by simp; rfl, by decide⟩
        | 5, _ => exact ⟨_, by simp; rfl, by decide⟩))
      go_wp2_with fail
      refine CW.out.mono ?_
      rintro e w9 ⟨v, hv, rfl, hs9, hb9⟩
      have hb9' := ((Beside.refl b w8).alloc (.cells #[.string ⟨#[]⟩, .string ⟨#[65]⟩, .string ⟨#[49, 97]⟩, .string ⟨#[97, 45, 98]⟩, .string ⟨#[97, 98, 99, 100, 101, 102, 103, 104, 105, 106, 107, 108, 109, 110, 111, 112]⟩, .string ⟨#[97, 98, 99, 100, 101, 102, 103, 104, 105, 106, 107, 108, 109, 110, 111, 112, 113]⟩] 9)).trans hb9
      have CN2 := Lib.hid (n_b W0 w9 b a len cap (K0 + 1 + 1) 2 hs9 (by omega) (by omega) (by omega))
      have fP9 := fP8.beside hb9' hPb
      have fR9 := fR8.beside hb9' hRb
      have hbw9 := hbw8.trans hb9'
      clear fP8 fR8 hb9 hb9' hbw8
      go_wp2_with fail
      refine CN2.out.mono ?_
      rintro e wA ⟨u, hu, rfl, hsA, hbA⟩
      have fPA := fP9.beside hbA hPb
      have fRA := fR9.beside hbA hRb
      have hbwA := hbw9.trans hbA
      clear fP9 fR9 hbA hbw9 hs9
      have gP := fPA.at02 (.string v) (.int .i64 (u : Int))
      have gR := ((fRA.other (C := w2.heap.size) (o := 0) hRP (.string v)).other (C := w2.heap.size) (o := 2) hRP (.int .i64 (u : Int)))
      have hsB := ((hsA.setNew (c := w2.heap.size) hP0 hPb 0 (.string v)).setNew (c := w2.heap.size) hP0 hPb 2 (.int .i64 (u : Int)))
      have hbwB := ((hbwA.setNew (c := w2.heap.size) hPw 0 (.string v)).setNew (c := w2.heap.size) hPw 2 (.int .i64 (u : Int)))
      obtain ⟨c0, c1, c2, c3, f0, f1, f2, f3⟩ := fPA
      obtain ⟨p0, p1, p2, p3, _, _, _, _⟩ := gP
      have gR2 := gR.all (.string v) (.int .i64 2) (.int .i64 (u : Int)) (.string tx)
      have hsC := (((hsB.setNew (c := w.heap.size) hR0 hRb 0 (.string v)).setNew (c := w.heap.size) hR0 hRb 1 (.int .i64 2)).setNew (c := w.heap.size) hR0 hRb 2 (.int .i64 (u : Int))).setNew (c := w.heap.size) hR0 hRb 3 (.string tx)
      have hbwC := (((hbwB.setNew (c := w.heap.size) (Nat.le_refl _) 0 (.string v)).setNew (c := w.heap.size) (Nat.le_refl _) 1 (.int .i64 2)).setNew (c := w.heap.size) (Nat.le_refl _) 2 (.int .i64 (u : Int))).setNew (c := w.heap.size) (Nat.le_refl _) 3 (.string tx)
      obtain ⟨r0, r1, r2, r3, _, _, _, _⟩ := gR2
      obtain ⟨d0, d1, d2, d3, k0, k1, k2, k3⟩ := gR
      clear hsB hbwB hsA hbwA fRA
      go_wp2_with fail
      exact bodyPost_ret (v := .agg #[.string v, .int .i64 2, .int .i64 (u : Int), .string tx]) (by simp [results, Tryz.f17, go_sem, r0, r1, r2, r3]) rfl (FIN.out _ _ _ _ _ _ (by omega) (by omega) (by omega) htt (by omega) hsC hbwC)
    · have e23 : ((z : Int) == 23) = false := beq_eq_false_iff_ne.2 (by omega)
      have gR2 := fR8.all (.string nm) (.int .i64 2) (.int .i64 0) (.string tx)
      have hsC := (((hs8.setNew (c := w.heap.size) hR0 hRb 0 (.string nm)).setNew (c := w.heap.size) hR0 hRb 1 (.int .i64 2)).setNew (c := w.heap.size) hR0 hRb 2 (.int .i64 0)).setNew (c := w.heap.size) hR0 hRb 3 (.string tx)
      have hbwC := (((hbw8.setNew (c := w.heap.size) (Nat.le_refl _) 0 (.string nm)).setNew (c := w.heap.size) (Nat.le_refl _) 1 (.int .i64 2)).setNew (c := w.heap.size) (Nat.le_refl _) 2 (.int .i64 0)).setNew (c := w.heap.size) (Nat.le_refl _) 3 (.string tx)
      obtain ⟨c0, c1, c2, c3, f0, f1, f2, f3⟩ := fP8
      obtain ⟨r0, r1, r2, r3, _, _, _, _⟩ := gR2
      obtain ⟨d0, d1, d2, d3, k0, k1, k2, k3⟩ := fR8
      clear hs8 hbw8
      go_wp2_with fail
      exact bodyPost_ret (v := .agg #[.string nm, .int .i64 2, .int .i64 0, .string tx]) (by simp [results, Tryz.f17, go_sem, r0, r1, r2, r3]) rfl (FIN.out _ _ _ _ _ _ hnm' (by omega) hnn htt (by omega) hsC hbwC)
  · have fP := Four.new w2 39 (.string nm) (.int .i64 3) (.int .i64 0) (.string ⟨#[]⟩)
    have fR := fR2.beside ((Beside.refl b w2).alloc (.cells #[.string nm, .int .i64 3, .int .i64 0, .string ⟨#[]⟩] 39)) hRb
    have hbW := hbw2.alloc (.cells #[.string nm, .int .i64 3, .int .i64 0, .string ⟨#[]⟩] 39)
    have hsW := hs2.alloc (.cells #[.string nm, .int .i64 3, .int .i64 0, .string ⟨#[]⟩] 39)
    have htt : (⟨#[]⟩ : ByteArray).size ≤ 4 := by decide
    have hnn : (-9223372036854775808 : Int) ≤ 0 ∧ (0 : Int) ≤ 9223372036854775807 := by omega
    clear fR2 hbw2 hs2
    have CT := Lib.hid (n_b W0 (w2.alloc (.cells #[.string nm, .int .i64 3, .int .i64 0, .string ⟨#[]⟩] 39)) b a len cap (k + 1 + 1) 24 hsW (by omega) (by omega) (by omega))
    have hPlt := fP.lt
    obtain ⟨c0, c1, c2, c3, f0, f1, f2, f3⟩ := fP
    go_wp2_with fail
    refine CT.out.mono ?_
    rintro e w8 ⟨z, hz, rfl, hs8, hb8⟩
    have fP8 := (Four.mk c0 c1 c2 c3 f0 f1 f2 f3).beside hb8 hPb
    have fR8 := fR.beside hb8 hRb
    have hbw8 := hbW.trans hb8
    clear c0 c1 c2 c3 f0 f1 f2 f3 fR hb8 hsW hbW
    by_cases hz23 : z = 23
    · subst hz23
      have hbl8 := hs8.lt
      have CW := Lib.hid (word_b W0 (w8.alloc (.cells #[.string ⟨#[]⟩, .string ⟨#[65]⟩, .string ⟨#[49, 97]⟩, .string ⟨#[97, 45, 98]⟩, .string ⟨#[97, 98, 99, 100, 101, 102, 103, 104, 105, 106, 107, 108, 109, 110, 111, 112]⟩, .string ⟨#[97, 98, 99, 100, 101, 102, 103, 104, 105, 106, 107, 108, 109, 110, 111, 112, 113]⟩] 9)) b a len cap ((k + 1 + 1) + 1) (hs8.alloc _) (by omega) w8.heap.size (by omega) (by simp) 6 (by omega) (by omega) 6 (fun x => x.size ≤ 17) (fun j hj => by
        match j, hj with
        | 0, _ => exact ⟨_, by simp; rfl, by decide⟩
        | 1, _ => exact ⟨_, by simp; rfl, by decide⟩
        | 2, _ => exact ⟨_, by simp; rfl, by decide⟩
        | 3, _ => exact ⟨_, by simp; rfl, by decide⟩
        | 4, _ => exact ⟨_, by simp; rfl, by decide⟩
        | 5, _ => exact ⟨_, by simp; rfl, by decide⟩))
      go_wp2_with fail
      refine CW.out.mono ?_
      rintro e w9 ⟨v, hv, rfl, hs9, hb9⟩
      have hb9' := ((Beside.refl b w8).alloc (.cells #[.string ⟨#[]⟩, .string ⟨#[65]⟩, .string ⟨#[49, 97]⟩, .string ⟨#[97, 45, 98]⟩, .string ⟨#[97, 98, 99, 100, 101, 102, 103, 104, 105, 106, 107, 108, 109, 110, 111, 112]⟩, .string ⟨#[97, 98, 99, 100, 101, 102, 103, 104, 105, 106, 107, 108, 109, 110, 111, 112, 113]⟩] 9)).trans hb9
      have CN2 := Lib.hid (n_b W0 w9 b a len cap ((k + 1 + 1) + 1 + 1) 2 hs9 (by omega) (by omega) (by omega))
      have fP9 := fP8.beside hb9' hPb
      have fR9 := fR8.beside hb9' hRb
      have hbw9 := hbw8.trans hb9'
      clear fP8 fR8 hb9 hb9' hbw8
      go_wp2_with fail
      refine CN2.out.mono ?_
      rintro e wA ⟨u, hu, rfl, hsA, hbA⟩
      have fPA := fP9.beside hbA hPb
      have fRA := fR9.beside hbA hRb
      have hbwA := hbw9.trans hbA
      clear fP9 fR9 hbA hbw9 hs9
      have gP := fPA.at02 (.string v) (.int .i64 (u : Int))
      have gR := ((fRA.other (C := w2.heap.size) (o := 0) hRP (.string v)).other (C := w2.heap.size) (o := 2) hRP (.int .i64 (u : Int)))
      have hsB := ((hsA.setNew (c := w2.heap.size) hP0 hPb 0 (.string v)).setNew (c := w2.heap.size) hP0 hPb 2 (.int .i64 (u : Int)))
      have hbwB := ((hbwA.setNew (c := w2.heap.size) hPw 0 (.string v)).setNew (c := w2.heap.size) hPw 2 (.int .i64 (u : Int)))
      obtain ⟨c0, c1, c2, c3, f0, f1, f2, f3⟩ := fPA
      obtain ⟨p0, p1, p2, p3, _, _, _, _⟩ := gP
      have gR2 := gR.all (.string v) (.int .i64 3) (.int .i64 (u : Int)) (.string ⟨#[]⟩)
      have hsC := (((hsB.setNew (c := w.heap.size) hR0 hRb 0 (.string v)).setNew (c := w.heap.size) hR0 hRb 1 (.int .i64 3)).setNew (c := w.heap.size) hR0 hRb 2 (.int .i64 (u : Int))).setNew (c := w.heap.size) hR0 hRb 3 (.string ⟨#[]⟩)
      have hbwC := (((hbwB.setNew (c := w.heap.size) (Nat.le_refl _) 0 (.string v)).setNew (c := w.heap.size) (Nat.le_refl _) 1 (.int .i64 3)).setNew (c := w.heap.size) (Nat.le_refl _) 2 (.int .i64 (u : Int))).setNew (c := w.heap.size) (Nat.le_refl _) 3 (.string ⟨#[]⟩)
      obtain ⟨r0, r1, r2, r3, _, _, _, _⟩ := gR2
      obtain ⟨d0, d1, d2, d3, k0, k1, k2, k3⟩ := gR
      clear hsB hbwB hsA hbwA fRA
      go_wp2_with fail
      exact bodyPost_ret (v := .agg #[.string v, .int .i64 3, .int .i64 (u : Int), .string ⟨#[]⟩]) (by simp [results, Tryz.f17, go_sem, r0, r1, r2, r3]) rfl (FIN.out _ _ _ _ _ _ (by omega) (by omega) (by omega) htt (by omega) hsC hbwC)
    · have e23 : ((z : Int) == 23) = false := beq_eq_false_iff_ne.2 (by omega)
      have gR2 := fR8.all (.string nm) (.int .i64 3) (.int .i64 0) (.string ⟨#[]⟩)
      have hsC := (((hs8.setNew (c := w.heap.size) hR0 hRb 0 (.string nm)).setNew (c := w.heap.size) hR0 hRb 1 (.int .i64 3)).setNew (c := w.heap.size) hR0 hRb 2 (.int .i64 0)).setNew (c := w.heap.size) hR0 hRb 3 (.string ⟨#[]⟩)
      have hbwC := (((hbw8.setNew (c := w.heap.size) (Nat.le_refl _) 0 (.string nm)).setNew (c := w.heap.size) (Nat.le_refl _) 1 (.int .i64 3)).setNew (c := w.heap.size) (Nat.le_refl _) 2 (.int .i64 0)).setNew (c := w.heap.size) (Nat.le_refl _) 3 (.string ⟨#[]⟩)
      obtain ⟨c0, c1, c2, c3, f0, f1, f2, f3⟩ := fP8
      obtain ⟨r0, r1, r2, r3, _, _, _, _⟩ := gR2
      obtain ⟨d0, d1, d2, d3, k0, k1, k2, k3⟩ := fR8
      clear hs8 hbw8
      go_wp2_with fail
      exact bodyPost_ret (v := .agg #[.string nm, .int .i64 3, .int .i64 0, .string ⟨#[]⟩]) (by simp [results, Tryz.f17, go_sem, r0, r1, r2, r3]) rfl (FIN.out _ _ _ _ _ _ hnm' (by omega) hnn htt (by omega) hsC hbwC)
end Go.Proofs.YtdndngabddnpmaaGreatDoor.sr
