/-
  The law MaskShortest: its walk.
-/
import Derived.Test.YtjckgehlojcinaaDoorMaskBuilt
import Derived.Test.YtjckgehlojcinaaDoorWeight
namespace Go.Proofs.YtjckgehlojcinaaDoor
open Go.RowKit Go.Proofs.YtjckgehlojcinaaDoor.sr

namespace maskShortest
open mk

set_option maxHeartbeats 4000000 in
set_option maxRecDepth 100000 in
theorem core (a : Option Addr) (len cap : Nat) (w : World) (hN : Nums w a len) (hT : Tabs w) (h0 : 0 < w.heap.size) :
    Calls Tryd.prog 8 #[.slice a len cap] w fun e w' => e = .returned (.bool true) ∧ Below w.heap.size w w' := by
  have HT := Lib.hid hT
  clear hT
  have CW := Lib.hid (new_any a len cap w)
  go_enter Tryd.func8, Tryd.ntmps8
  go_wp2_with fail
  refine CW.out.mono ?_
  rintro e w0 ⟨rfl, hw0⟩
  have s0 : SrcAt w w0 w.heap.size a len cap 0 := ⟨hN, by rw [hw0]; exact (Below.refl _ w).alloc (Nat.le_refl _) _, Nat.le_refl _, by rw [hw0]; exact World.alloc_heap_new w _, by omega⟩
  have S0 := Lib.hid s0
  clear s0 hw0 CW
  obtain ⟨B, hB⟩ : ∃ B, w.heap.size = B := ⟨_, rfl⟩
  rw [hB] at S0 ⊢
  have HB := Lib.hid hB
  clear hB
  go_wp2_with fail
  refine (item_any w w0 B a len cap 0 S0.out (by omega)).mono ?_
  rintro e w1 ⟨t1, k1, ht1, hk1, rfl, hs1, hb1⟩
  have S1 := Lib.hid hs1
  clear hs1 hb1
  go_wp2_with fail
  refine (n_any w w1 B a len cap k1 5 S1.out (by omega) (by omega) (by omega)).mono ?_
  rintro e w2 ⟨n, hn, rfl, hs2, q, hq⟩
  have S2 := Lib.hid hs2
  clear hs2 hq
  go_wp2_with fail
  go_loopw [4, 5] (fun t i wr => ∃ (j k : Nat) (T : ByteArray), j ≤ 4 ∧ i = .int .i64 (j : Int) ∧ t = .string T ∧ T.size ≤ 12 + 13 * (4 - j) ∧ k ≤ 4 + 3 * (4 - j) ∧ Hid (SrcAt w wr B a len cap k)) (fun _ i _ => (intOf i).toNat)
  case atStart => exact ⟨n, k1 + 1, t1, by omega, rfl, rfl, by omega, by omega, S2⟩
  case round =>
    obtain ⟨j, k, T, hj, rfl, rfl, hT, hk, S⟩ := hrel
    by_cases hz : 0 < j
    · go_wp2_with fail
      refine (item_any w wr B a len cap k S.out (by omega)).mono ?_
      rintro e w3 ⟨t3, k3, ht3, hk3, rfl, hs3, hb3⟩
      have S3 := Lib.hid hs3
      clear hs3 hb3
      go_wp2_with fail
      refine ⟨⟨j - 1, k3, T ++ (⟨#[44]⟩ ++ t3), by omega, val_eq (by omega), rfl, by rw [ByteArray.size_append, ByteArray.size_append]; show T.size + (1 + t3.size) ≤ _; omega, by omega, S3⟩, ?_⟩
      simp [intOf]; omega
    · have hj0 : j ≤ 0 := by omega
      clear hz
      have C1 := Lib.hid (parse_any T wr (by omega))
      have hbr := S.out.old
      have hsz := S.out.old.size
      have hBw := HB.out
      have HSH := Lib.hid (fun m => short T m)
      generalize parS T = r at *
      obtain ⟨m, er⟩ := r
      by_cases he : er = 0
      · subst he
        obtain ⟨hm, hle⟩ := HSH.out m rfl
        have CF := Lib.hid (fun W => format_any m (by omega) W)
        clear HSH
        generalize (⟨(fmtS m).toArray⟩ : ByteArray) = U at *
        have hle' : (U.size : Int) ≤ (T.size : Int) := by omega
        go_wp2_with fail
        refine C1.out.mono ?_
        rintro e w3 ⟨rfl, b1⟩
        have b1' := hbr.trans (b1.mono hbr.size)
        go_wp2_with fail
        refine (CF.out _ (HT.out.below b1' (by have := HB.out; omega)) (Nat.lt_of_lt_of_le h0 b1'.size)).mono ?_
        rintro e w4 ⟨rfl, b2⟩
        have b2' := b1'.trans (b2.mono b1'.size)
        go_wp2_with fail
        refine (awake_any _ (HT.out.below b2' (by have := HB.out; omega)) (Nat.lt_of_lt_of_le h0 b2'.size)).mono ?_
        rintro e w5 ⟨rfl, b3⟩
        go_wp2_with fail
        go_ret
        exact ⟨rfl, b2'.trans (b3.mono b2'.size)⟩
      · have he' : (er == 0) = false := beq_eq_false_iff_ne.2 he
        clear HSH
        go_wp2_with fail
        refine C1.out.mono ?_
        rintro e w3 ⟨rfl, b1⟩
        have b1' := hbr.trans (b1.mono hbr.size)
        go_wp2_with fail
        refine (awake_any _ (HT.out.below b1' (by have := HB.out; omega)) (Nat.lt_of_lt_of_le h0 b1'.size)).mono ?_
        rintro e w5 ⟨rfl, b3⟩
        go_wp2_with fail
        go_ret
        exact ⟨rfl, b1'.trans (b3.mono b1'.size)⟩

theorem walk (a : Option Addr) (len cap : Nat) (zs : List Int) (w : World) (hr : IsRow .i64 w a len cap zs) (hL : laidMetH Tryd.prog Rows.maskShortestRow.laid w) (_ : w.ShapedOpen Tryd.prog) :
    Calls Tryd.prog 8 #[.slice a len cap] w fun e w' => e = .returned (.bool true) ∧ Below w.heap.size w w' := by
  have hT := tabs_of hL (by rfl)
  exact core a len cap w (nums_of_row hr) hT (heap_pos hT)
end maskShortest
end Go.Proofs.YtjckgehlojcinaaDoor
