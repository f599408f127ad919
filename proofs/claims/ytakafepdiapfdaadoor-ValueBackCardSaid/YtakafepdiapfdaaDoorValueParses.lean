/-
  The law ValueParses: its walk.
-/
import Derived.Test.YtakafepdiapfdaaDoorErrs
namespace Go.Proofs.YtakafepdiapfdaaDoor
open Go.RowKit Go.Proofs.YtakafepdiapfdaaDoor.cm Go.Proofs.YtakafepdiapfdaaDoor.vl

/-- what Parse answers is a pair's value -/
theorem vl.parV_form (s : ByteArray) : ∃ (a : ByteArray) (k n : Int) (b : ByteArray), parV s = .agg #[.string a, .int .i64 k, .int .i64 n, .string b] := by
  unfold parV
  cases parP s.data.toList with
  | some p => exact ⟨_, _, _, _, rfl⟩
  | none => exact ⟨_, _, _, _, rfl⟩

namespace valueParses
/-- the texts that are tried lie in a block -/
def Texts (w : World) (B : Nat) : Prop := ∀ k, k < 2 → ∃ x : ByteArray, w.cell? ⟨B, k, none⟩ = some (.string x) ∧ x.size ≤ 100000
theorem Texts.below {w w' : World} {B N : Nat} (h : Texts w B) (hb : Below N w w') (hN : B < N) : Texts w' B := fun k hk => by
  obtain ⟨x, h1, h2⟩ := h k hk
  exact ⟨x, (hb.cell (p := ⟨B, k, none⟩) hN).trans h1, h2⟩

set_option maxHeartbeats 4000000 in
set_option maxRecDepth 100000 in
theorem walk (s : ByteArray) (w : World) (hs : s.size ≤ maxLen) (hL : laidMetH Tryd.prog Rows.valueParsesRow.laid w) (_ : w.ShapedOpen Tryd.prog) :
    Calls Tryd.prog 6 #[.string s] w fun e w' => e = .returned (.bool true) ∧ Below w.heap.size w w' := by
  have hT : HexT w := hex_of hL (by rfl)
  have hP : PowT w := pow_of hL (by rfl)
  have h0 := pos_of hT
  have hs1 := syn_of hL (by rfl)
  have hs2 := rng_of hL (by rfl)
  have HE : Hid (∀ W, Below w.heap.size w W → Env2 W) := Lib.hid (fun W h => (Env2.mk ⟨hT, hP, h0⟩ hs1 hs2).below h)
  clear hT hP hs1 hs2 hL
  unfold maxLen at hs
  by_cases hbig : 1500 < s.size
  · go_enter Tryd.func6, Tryd.ntmps6
    go_wp2_with fail
    refine (vl.awake_any _ (HE.out _ (Below.refl _ _)).env.hex h0).mono ?_
    rintro e w' ⟨rfl, hb⟩
    go_wp2_with fail
    go_ret
    exact ⟨rfl, hb⟩
  · have hd : decide (1500 < (s.size : Int)) = false := by simp; omega
    have hx : Texts (w.alloc (.cells #[.string s, .string ((⟨#[97, 61]⟩ : ByteArray) ++ s)] 9)) w.heap.size := fun k hk => by
      match k, hk with
      | 0, _ => exact ⟨s, by simp, by omega⟩
      | 1, _ => exact ⟨_, by simp; rfl, by simp only [ByteArray.size_append]; show 2 + s.size ≤ _; omega⟩
    have HX0 := Lib.hid hx
    clear hx
    go_enter Tryd.func6, Tryd.ntmps6
    go_wp2_with fail
    have hb1 : Below w.heap.size w (w.alloc (.cells #[.string s, .string ((⟨#[97, 61]⟩ : ByteArray) ++ s)] 9)) := (Below.refl _ _).alloc (Nat.le_refl _) _
    have hz1 : w.heap.size < (w.alloc (.cells #[.string s, .string ((⟨#[97, 61]⟩ : ByteArray) ++ s)] 9)).heap.size := by simp
    generalize w.alloc (.cells #[.string s, .string ((⟨#[97, 61]⟩ : ByteArray) ++ s)] 9) = w1 at *
    go_loopw [4] (fun i wr => ∃ k : Nat, k ≤ 2 ∧ i = .int .i64 (k : Int) ∧ w1.heap.size ≤ wr.heap.size ∧ Hid (Texts wr w.heap.size) ∧ Below w.heap.size w wr) (fun i _ => 2 - (intOf i).toNat)
    case atStart => exact ⟨0, by omega, rfl, Nat.le_refl _, HX0, hb1⟩
    case round =>
      obtain ⟨k, hk, rfl, hz, HX, hbel⟩ := hrel
      by_cases hlt : k < 2
      · obtain ⟨x, hc, hxs⟩ := HX.out k hlt
        have HW := Lib.hid (HE.out _ hbel)
        have C1 := Parse_any x wr hxs HW.out
        have C2 := fun W => rParse_any x W hxs
        obtain ⟨pa, pk, pn, pb, hv⟩ := vl.parV_form x
        rw [hv] at C1 C2
        generalize parE x = er at *
        have C1 := Lib.hid C1
        have C2 := Lib.hid C2
        clear hv
        go_wp2_with fail
        refine C1.out.mono ?_
        rintro e w2 ⟨rfl, b2⟩
        have hc2 : w2.cell? ⟨w.heap.size, k, none⟩ = some (.string x) := (b2.cell (p := ⟨w.heap.size, k, none⟩) (by show w.heap.size < wr.heap.size; omega)).trans hc
        have hz2 := b2.size
        have hz2' : w.heap.size < w2.heap.size := by omega
        go_wp2_with fail
        refine (C2.out _).mono ?_
        rintro e w3 ⟨rfl, b3⟩
        have b4 := (b2.alloc b2.size (.cells #[.string pa, .int .i64 pk, .int .i64 pn, .string pb] 29)).trans (b3.mono (by simp; omega))
        have HX2 := Lib.hid (HX.out.below b4 (by omega))
        have hb5 := hbel.trans (b4.mono hbel.size)
        have hz3 := b4.size
        obtain ⟨d0, d1, d2, d3, _, _, _, _⟩ := box_of ((b3.block w2.heap.size (by simp)).trans (box_new w2 _ _ _ _ _))
        have hz4 : w2.heap.size < w3.heap.size := cell_lt d0
        clear hc hc2 b2 b3 b4
        go_wp2_with fail
        have hb6 : Below w.heap.size w (w3.alloc (.cells #[.string pa, .int .i64 pk, .int .i64 pn, .string pb] 29)) := hb5.alloc hb5.size _
        have HX3 : Hid (Texts (w3.alloc (.cells #[.string pa, .int .i64 pk, .int .i64 pn, .string pb] 29)) w.heap.size) := Lib.hid (HX2.out.below ((Below.refl w3.heap.size w3).alloc (Nat.le_refl _) _) (by omega))
        exact ⟨⟨k + 1, by omega, by go_num, by simp; omega, HX3, hb6⟩, by simp [intOf]; omega⟩
      · obtain rfl : k = 2 := by omega
        go_wp2_with fail
        refine (vl.awake_any _ (HE.out _ hbel).env.hex (Nat.lt_of_lt_of_le h0 hbel.size)).mono ?_
        rintro e w' ⟨rfl, hb⟩
        go_wp2_with fail
        go_ret
        exact ⟨rfl, hbel.trans (hb.mono hbel.size)⟩
end valueParses
end Go.Proofs.YtakafepdiapfdaaDoor
