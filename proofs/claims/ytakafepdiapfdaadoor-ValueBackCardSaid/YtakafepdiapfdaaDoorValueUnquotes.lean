/-
  The law ValueUnquotes: its walk.
-/
import Derived.Test.YtakafepdiapfdaaDoorRUnq2
namespace Go.Proofs.YtakafepdiapfdaaDoor
open Go.RowKit Go.Proofs.YtakafepdiapfdaaDoor.cm Go.Proofs.YtakafepdiapfdaaDoor.vl

theorem vl.rUnquote_any (s : ByteArray) (w : World) (hs : s.size ≤ 100000) :
    Calls Tryd.prog 15 #[.string s] w fun e w' => e = .returned (.tuple #[.string (uqS s), .int .i64 (uqE s)]) ∧ Below w.heap.size w w' := by
  have hm : s.size ≤ maxLen := by unfold maxLen; omega
  by_cases h2 : 2 ≤ s.size
  · have h0 : 0 < s.size := by omega
    cases e34 : ((s[0].toNat : Int) == 34)
    · have g34 : ¬ (2 ≤ s.size ∧ s.data.toList.getD 0 0 = 34) := fun hc => by
        have := head_is h0 34
        rw [show (((34 : UInt8).toNat : Nat) : Int) = 34 from rfl, e34, decide_eq_true hc.2] at this
        cases this
      by_cases h3 : 3 ≤ s.size
      · cases e120 : ((s[0].toNat : Int) == 120)
        · have g120 : ¬ (s.data.toList.getD 0 0 = 120) := fun hc => by
            have := head_is h0 120
            rw [show (((120 : UInt8).toNat : Nat) : Int) = 120 from rfl, e120, decide_eq_true hc] at this
            cases this
          exact rUnquote_plain s w hm (.inr (.inr (.inl ⟨h3, h0, e34, e120⟩))) (guess_none g34 (fun hc => g120 hc.2.1))
        · by_cases hodd : s.size % 2 = 1
          · by_cases hl : s.size ≤ 1281
            · exact rUnquote_hex s w h0 e120 h3 hl hodd
            · exact rUnquote_plain s w hm (.inr (.inr (.inr (.inr ⟨h3, h0, e34, e120, beq_iff_eq.2 (by omega), by omega⟩)))) (guess_none g34 (fun hc => hl hc.2.2.2))
          · exact rUnquote_plain s w hm (.inr (.inr (.inr (.inl ⟨h3, h0, e34, e120, beq_eq_false_iff_ne.2 (by omega)⟩)))) (guess_none g34 (fun hc => hodd hc.2.2.1))
      · exact rUnquote_plain s w hm (.inr (.inl ⟨h2, by omega, h0, e34⟩)) (guess_none g34 (fun hc => h3 hc.1))
    · exact rUnquote_marks s w hs h2 e34
  · exact rUnquote_plain s w hm (.inl (by omega)) (guess_short (by omega))

namespace valueUnquotes

/-- the texts that are tried lie in a block -/
def Texts (w : World) (B : Nat) : Prop := ∀ k, k < 3 → ∃ x : ByteArray, w.cell? ⟨B, k, none⟩ = some (.string x) ∧ x.size ≤ 100000
theorem Texts.below {w w' : World} {B N : Nat} (h : Texts w B) (hb : Below N w w') (hN : B < N) : Texts w' B := fun k hk => by
  obtain ⟨x, h1, h2⟩ := h k hk
  exact ⟨x, (hb.cell (p := ⟨B, k, none⟩) hN).trans h1, h2⟩

set_option maxHeartbeats 4000000 in
set_option maxRecDepth 100000 in
theorem walk (s : ByteArray) (w : World) (hs : s.size ≤ maxLen) (hL : laidMetH Tryd.prog Rows.valueUnquotesRow.laid w) (_ : w.ShapedOpen Tryd.prog) :
    Calls Tryd.prog 4 #[.string s] w fun e w' => e = .returned (.bool true) ∧ Below w.heap.size w w' := by
  have hT : HexT w := hex_of hL (by rfl)
  have h0 := pos_of hT
  have HT := Lib.hid hT
  clear hT hL
  unfold maxLen at hs
  by_cases hbig : 1500 < s.size
  · go_enter Tryd.func4, Tryd.ntmps4
    go_wp2_with fail
    refine (awake_any _ HT.out h0).mono ?_
    rintro e w' ⟨rfl, hb⟩
    go_wp2_with fail
    go_ret
    exact ⟨rfl, hb⟩
  · have hd : decide (1500 < (s.size : Int)) = false := by simp; omega
    go_enter Tryd.func4, Tryd.ntmps4
    go_wp2_with fail
    have hx : Texts (w.alloc (.cells #[.string s, .string ((⟨#[34]⟩ : ByteArray) ++ s ++ (⟨#[34]⟩ : ByteArray)), .string ((⟨#[120]⟩ : ByteArray) ++ s)] 9)) w.heap.size := fun k hk => by
      match k, hk with
      | 0, _ => exact ⟨s, by simp, by omega⟩
      | 1, _ => exact ⟨_, by simp; rfl, by simp only [ByteArray.size_append]; show 1 + s.size + 1 ≤ _; omega⟩
      | 2, _ => exact ⟨_, by simp; rfl, by simp only [ByteArray.size_append]; show 1 + s.size ≤ _; omega⟩
    have hb1 : Below w.heap.size w (w.alloc (.cells #[.string s, .string ((⟨#[34]⟩ : ByteArray) ++ s ++ (⟨#[34]⟩ : ByteArray)), .string ((⟨#[120]⟩ : ByteArray) ++ s)] 9)) := (Below.refl _ _).alloc (Nat.le_refl _) _
    have hz1 : w.heap.size < (w.alloc (.cells #[.string s, .string ((⟨#[34]⟩ : ByteArray) ++ s ++ (⟨#[34]⟩ : ByteArray)), .string ((⟨#[120]⟩ : ByteArray) ++ s)] 9)).heap.size := by simp
    generalize w.alloc (.cells #[.string s, .string ((⟨#[34]⟩ : ByteArray) ++ s ++ (⟨#[34]⟩ : ByteArray)), .string ((⟨#[120]⟩ : ByteArray) ++ s)] 9) = w1 at *
    go_loopw [4] (fun i wr => ∃ k : Nat, k ≤ 3 ∧ i = .int .i64 (k : Int) ∧ w1.heap.size ≤ wr.heap.size ∧ Hid (Texts wr w.heap.size) ∧ Below w.heap.size w wr) (fun i _ => 3 - (intOf i).toNat)
    case atStart => exact ⟨0, by omega, rfl, Nat.le_refl _, Lib.hid hx, hb1⟩
    case round =>
      obtain ⟨k, hk, rfl, hz, HX, hbel⟩ := hrel
      by_cases hlt : k < 3
      · obtain ⟨x, hc, hxs⟩ := HX.out k hlt
        have h0' : 0 < wr.heap.size := by omega
        have HW := Lib.hid (HT.out.below hbel h0)
        have C1 := Lib.hid (Unquote_any x wr (by unfold maxLen; omega) HW.out h0')
        have C2 := Lib.hid (fun W => rUnquote_any x W hxs)
        generalize uqS x = u at *
        generalize uqE x = er at *
        go_wp2_with fail
        refine C1.out.mono ?_
        rintro e w2 ⟨rfl, b2⟩
        have hc2 : w2.cell? ⟨w.heap.size, k, none⟩ = some (.string x) := (b2.cell (p := ⟨w.heap.size, k, none⟩) (by show w.heap.size < wr.heap.size; omega)).trans hc
        go_wp2_with fail
        refine (C2.out _).mono ?_
        rintro e w3 ⟨rfl, b3⟩
        have b4 := b2.trans (b3.mono b2.size)
        have HX2 := Lib.hid (HX.out.below b4 (by omega))
        have hb5 := hbel.trans (b4.mono hbel.size)
        have hz3 := b4.size
        clear hc hc2 b2 b3 b4
        go_wp2_with fail
        exact ⟨⟨k + 1, by omega, by go_num, by omega, HX2, hb5⟩, by simp [intOf]; omega⟩
      · obtain rfl : k = 3 := by omega
        go_wp2_with fail
        refine (awake_any _ (HT.out.below hbel h0) (Nat.lt_of_lt_of_le h0 hbel.size)).mono ?_
        rintro e w' ⟨rfl, hb⟩
        go_wp2_with fail
        go_ret
        exact ⟨rfl, hbel.trans (hb.mono hbel.size)⟩
end valueUnquotes
end Go.Proofs.YtakafepdiapfdaaDoor
