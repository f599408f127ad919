/-
  item writes some short text, whatever the source hands out.
-/
import Derived.Test.YtjckgehlojcinaaDoorRef
import Derived.Test.YtjckgehlojcinaaDoorSrc
namespace Go.Proofs.YtjckgehlojcinaaDoor.mk
open Go.RowKit Go.Proofs.YtjckgehlojcinaaDoor.sr

/-- some short text; the source has handed out at most three more -/
def ItemRet (W0 : World) (b : Nat) (a : Option Addr) (len cap k : Nat) (w : World) (e : Ending) (w' : World) : Prop :=
  ∃ (t : ByteArray) (k' : Nat), t.size ≤ 12 ∧ k' ≤ k + 3 ∧ e = .returned (.string t) ∧ SrcAt W0 w' b a len cap k' ∧ Below W0.heap.size w w'

theorem digits_size (n : Nat) (h : n ≤ 10000) : (⟨(Lib.decDigits n).toArray⟩ : ByteArray).size ≤ 5 := by
  have := digits_pow 5 n (by omega) (by simp; omega)
  show (Lib.decDigits n).toArray.size ≤ 5
  rw [List.size_toArray]; exact this

set_option maxHeartbeats 4000000 in
set_option maxRecDepth 100000 in
theorem item_any (W0 w : World) (b : Nat) (a : Option Addr) (len cap k : Nat) (h : SrcAt W0 w b a len cap k) (hk : k + 3 ≤ 100000) :
    Calls Tryd.prog 25 #[.pointer (some ⟨b, 0, none⟩)] w (ItemRet W0 b a len cap k w) := by
  have hlt := h.lt
  have hown := h.own
  have H := Lib.hid h
  clear h
  go_enter Tryd.func25, Tryd.ntmps25
  go_wp2_with fail
  refine (pick_any W0 _ b a len cap k (H.out.later ((Below.refl _ w).alloc (Nat.le_refl _) _)) (by omega) w.heap.size (by omega) 11 (by omega) (by omega) 11 (fun x => 0 ≤ x ∧ x ≤ 10000) ?_ W0.heap.size hown).mono ?_
  · intro j hj
    match j, hj with
    | 0, _ | 1, _ | 2, _ | 3, _ | 4, _ | 5, _ | 6, _ | 7, _ | 8, _ | 9, _ | 10, _ => exact ⟨_, by simp; rfl, by decide⟩
  rintro e w1 ⟨x, ⟨hx0, hx1⟩, rfl, hs1, hb1⟩
  obtain ⟨X, rfl⟩ := Int.eq_ofNat_of_zero_le hx0
  have hb1' : Below W0.heap.size w w1 := ((Below.refl _ w).alloc (by have := H.out.old.size; omega) _).trans hb1
  have H1 := Lib.hid hs1
  have hlt1 := hs1.lt
  clear hs1 hb1
  have hd := digits_size X (by omega)
  have CD := Lib.hid (fun W => dec_any X W (by omega))
  generalize (⟨(Lib.decDigits X).toArray⟩ : ByteArray) = T at *
  go_wp2_with fail
  refine (CD.out _).mono ?_
  rintro e w' ⟨rfl, rfl⟩
  go_wp2_with fail
  refine (n_any W0 _ b a len cap (k + 1) 8 H1.out (by omega) (by omega) (by omega)).mono ?_
  intro e w2 hdr
  obtain ⟨y, hy, rfl, hs2, hb2, _⟩ := drawn_below hdr hown
  clear hdr
  have hb2' := hb1'.trans hb2
  have H2 := Lib.hid hs2
  have hlt2 := hs2.lt
  have hsz2 := hs2.old.size
  clear hs2 hb2
  match y, hy with
  | 0, _ =>
    go_wp2_with fail
    refine (pick_any W0 _ b a len cap (k + 1 + 1) (H2.out.later ((Below.refl _ w2).alloc (Nat.le_refl _) _)) (by omega) w2.heap.size (by omega) 6 (by omega) (by omega) 6 (fun x => 0 ≤ x ∧ x ≤ 32) ?_ W0.heap.size hown).mono ?_
    · intro j hj
      match j, hj with
      | 0, _ | 1, _ | 2, _ | 3, _ | 4, _ | 5, _ => exact ⟨_, by simp; rfl, by decide⟩
    rintro e w3 ⟨z, ⟨hz0, hz1⟩, rfl, hs3, hb3⟩
    obtain ⟨Z, rfl⟩ := Int.eq_ofNat_of_zero_le hz0
    have hb3' : Below W0.heap.size w w3 := (hb2'.alloc (by omega) _).trans hb3
    have H3 := Lib.hid hs3
    clear hs3 hb3
    have hdZ := digits_size Z (by omega)
    have CZ := Lib.hid (fun W => dec_any Z W (by omega))
    generalize (⟨(Lib.decDigits Z).toArray⟩ : ByteArray) = U at *
    go_wp2_with fail
    refine (CZ.out _).mono ?_
    rintro e w' ⟨rfl, rfl⟩
    go_wp2_with fail
    go_ret
    exact ⟨T ++ ⟨#[45]⟩ ++ U, k + 1 + 1 + 1, by rw [ByteArray.size_append, ByteArray.size_append]; show T.size + 1 + U.size ≤ 12; omega, by omega, rfl, H3.out, hb3'⟩
  | 1, _ =>
    go_wp2_with fail
    refine (pick_any W0 _ b a len cap (k + 1 + 1) (H2.out.later ((Below.refl _ w2).alloc (Nat.le_refl _) _)) (by omega) w2.heap.size (by omega) 6 (by omega) (by omega) 6 (fun x => 0 ≤ x ∧ x ≤ 32) ?_ W0.heap.size hown).mono ?_
    · intro j hj
      match j, hj with
      | 0, _ | 1, _ | 2, _ | 3, _ | 4, _ | 5, _ => exact ⟨_, by simp; rfl, by decide⟩
    rintro e w3 ⟨z, ⟨hz0, hz1⟩, rfl, hs3, hb3⟩
    obtain ⟨Z, rfl⟩ := Int.eq_ofNat_of_zero_le hz0
    have hb3' : Below W0.heap.size w w3 := (hb2'.alloc (by omega) _).trans hb3
    have H3 := Lib.hid hs3
    clear hs3 hb3
    have hdZ := digits_size Z (by omega)
    have CZ := Lib.hid (fun W => dec_any Z W (by omega))
    generalize (⟨(Lib.decDigits Z).toArray⟩ : ByteArray) = U at *
    go_wp2_with fail
    refine (CZ.out _).mono ?_
    rintro e w' ⟨rfl, rfl⟩
    go_wp2_with fail
    go_ret
    exact ⟨T ++ ⟨#[45]⟩ ++ U, k + 1 + 1 + 1, by rw [ByteArray.size_append, ByteArray.size_append]; show T.size + 1 + U.size ≤ 12; omega, by omega, rfl, H3.out, hb3'⟩
  | 2, _ =>
    go_wp2_with fail
    refine (pick_any W0 _ b a len cap (k + 1 + 1) (H2.out.later ((Below.refl _ w2).alloc (Nat.le_refl _) _)) (by omega) w2.heap.size (by omega) 6 (by omega) (by omega) 6 (fun x => 0 ≤ x ∧ x ≤ 32) ?_ W0.heap.size hown).mono ?_
    · intro j hj
      match j, hj with
      | 0, _ | 1, _ | 2, _ | 3, _ | 4, _ | 5, _ => exact ⟨_, by simp; rfl, by decide⟩
    rintro e w3 ⟨z, ⟨hz0, hz1⟩, rfl, hs3, hb3⟩
    obtain ⟨Z, rfl⟩ := Int.eq_ofNat_of_zero_le hz0
    have hb3' : Below W0.heap.size w w3 := (hb2'.alloc (by omega) _).trans hb3
    have H3 := Lib.hid hs3
    clear hs3 hb3
    have hdZ := digits_size Z (by omega)
    have CZ := Lib.hid (fun W => dec_any Z W (by omega))
    generalize (⟨(Lib.decDigits Z).toArray⟩ : ByteArray) = U at *
    go_wp2_with fail
    refine (CZ.out _).mono ?_
    rintro e w' ⟨rfl, rfl⟩
    go_wp2_with fail
    go_ret
    exact ⟨T ++ ⟨#[45]⟩ ++ U, k + 1 + 1 + 1, by rw [ByteArray.size_append, ByteArray.size_append]; show T.size + 1 + U.size ≤ 12; omega, by omega, rfl, H3.out, hb3'⟩
  | 3, _ =>
    go_wp2_with fail
    refine (word_any W0 _ b a len cap (k + 1 + 1) (H2.out.later ((Below.refl _ w2).alloc (Nat.le_refl _) _)) (by omega) w2.heap.size (by omega) 8 (by omega) (by omega) 8 (fun x => x.size ≤ 12) ?_ W0.heap.size hown).mono ?_
    · intro j hj
      match j, hj with
      | 0, _ => exact ⟨_, by simp; rfl, by decide⟩
      | 1, _ => exact ⟨_, by simp; rfl, by rw [ByteArray.size_append]; show 1 + T.size ≤ 12; omega⟩
      | 2, _ => exact ⟨_, by simp; rfl, by decide⟩
      | 3, _ => exact ⟨_, by simp; rfl, by rw [ByteArray.size_append]; show T.size + 1 ≤ 12; omega⟩
      | 4, _ => exact ⟨_, by simp; rfl, by decide⟩
      | 5, _ => exact ⟨_, by simp; rfl, by rw [ByteArray.size_append]; show T.size + 4 ≤ 12; omega⟩
      | 6, _ => exact ⟨_, by simp; rfl, by decide⟩
      | 7, _ => exact ⟨_, by simp; rfl, by rw [ByteArray.size_append]; show 1 + T.size ≤ 12; omega⟩
    rintro e w3 ⟨t, ht, rfl, hs3, hb3⟩
    have hb3' : Below W0.heap.size w w3 := (hb2'.alloc (by omega) _).trans hb3
    have H3 := Lib.hid hs3
    clear hs3 hb3
    go_wp2_with fail
    go_ret
    exact ⟨t, k + 1 + 1 + 1, ht, by omega, rfl, H3.out, hb3'⟩
  | y + 4, _ =>
    go_wp2_with fail
    go_ret
    exact ⟨T, k + 1 + 1, by omega, by omega, rfl, H2.out, hb2'⟩
end Go.Proofs.YtjckgehlojcinaaDoor.mk
