/-
  The law ValuePairs: its walk.
-/
import Derived.Test.YtakafepdiapfdaaDoorFmtP
namespace Go.Proofs.YtakafepdiapfdaaDoor
open Go.RowKit Go.Proofs.YtakafepdiapfdaaDoor.cm Go.Proofs.YtakafepdiapfdaaDoor.vl
attribute [local go_sem ↓] Go.wp_at_zero Go.wp_at_succ

theorem vl.pow_of {W : World} {laid : List (String × DataW Unit)} (h : laidMetH Tryd.prog laid W) (hf : laid.filter (fun x => x.1 == "internal/strconv.uint64pow10") = [("internal/strconv.uint64pow10", Rows.laid_internal_strconv_uint64pow10)]) : PowT W := by
  have h1 := laidMetH.filter (fun x => x.1 == "internal/strconv.uint64pow10") h
  rw [hf] at h1
  exact Lib.tabIs_of_head (rest := []) (g := 2) (by kernel_rfl) (by kernel_rfl) Tryd.underlying96 Tryd.underlying81 (by kernel_rfl) (by kernel_rfl) h1

namespace valuePairs
set_option maxRecDepth 100000 in
set_option maxHeartbeats 4000000 in
theorem walk (nm : ByteArray) (k n : Int) (t : ByteArray) (w : World) (hnm : nm.size ≤ maxLen) (_ : isInt k) (hn : isInt n) (ht : t.size ≤ maxLen) (hL : laidMetH Tryd.prog Rows.valuePairsRow.laid w) (_ : w.ShapedOpen Tryd.prog) :
    Calls Tryd.prog 5 #[.agg #[.string nm, .int .i64 k, .int .i64 n, .string t]] w fun e w' => e = .returned (.bool true) ∧ Below w.heap.size w w' := by
  have hT : HexT w := hex_of hL (by rfl)
  have hP : PowT w := pow_of hL (by rfl)
  have h0 := pos_of hT
  have HE : Hid (∀ W, Below w.heap.size w W → Env W) := Lib.hid (fun W h => (Env.mk hT hP h0).below h)
  clear hT hP hL
  have CF := Lib.hid (fun W (h : Env W) => Format_any nm t k n W hnm ht hn h)
  have CR := Lib.hid (fun W => rFormat_any nm t k n W hnm ht hn)
  have C1 := Lib.hid (fun W => Check_any nm t k n W hnm ht)
  have C2 := Lib.hid (fun W => rCheck_any nm t k n W hnm ht)
  have CA := Lib.hid (fun W (h : Env W) => vl.awake_any W h.hex h.pos)
  unfold maxLen at hnm ht
  generalize fS nm k n t = S at *
  generalize ckI nm k n t = er at *
  by_cases hbig : 100 < nm.size
  · go_enter Tryd.func5, Tryd.ntmps5
    go_wp2_with fail
    refine (CA.out _ (HE.out _ ((Below.refl _ _).alloc (Nat.le_refl _) _))).mono ?_
    rintro e w' ⟨rfl, hb⟩
    go_wp2_with fail
    go_ret
    exact ⟨rfl, ((Below.refl _ _).alloc (Nat.le_refl _) _).trans (hb.mono (by simp))⟩
  · by_cases hbig2 : 1000 < t.size
    · go_enter Tryd.func5, Tryd.ntmps5
      go_wp2_with fail
      refine (CA.out _ (HE.out _ ((Below.refl _ _).alloc (Nat.le_refl _) _))).mono ?_
      rintro e w' ⟨rfl, hb⟩
      go_wp2_with fail
      go_ret
      exact ⟨rfl, ((Below.refl _ _).alloc (Nat.le_refl _) _).trans (hb.mono (by simp))⟩
    · have hc : ∀ w1, Below (w.alloc (.cells #[.string nm, .int .i64 k, .int .i64 n, .string t] 29)).heap.size (w.alloc (.cells #[.string nm, .int .i64 k, .int .i64 n, .string t] 29)) w1 → w1.cell? ⟨w.heap.size, 0, none⟩ = some (.string nm) ∧ w1.cell? ⟨w.heap.size, 1, none⟩ = some (.int .i64 k) ∧ w1.cell? ⟨w.heap.size, 2, none⟩ = some (.int .i64 n) ∧ w1.cell? ⟨w.heap.size, 3, none⟩ = some (.string t) := fun w1 hb =>
        ⟨(hb.cell (p := ⟨w.heap.size, 0, none⟩) (by simp)).trans (by simp), (hb.cell (p := ⟨w.heap.size, 1, none⟩) (by simp)).trans (by simp), (hb.cell (p := ⟨w.heap.size, 2, none⟩) (by simp)).trans (by simp), (hb.cell (p := ⟨w.heap.size, 3, none⟩) (by simp)).trans (by simp)⟩
      have HC := Lib.hid hc
      have hb0 : Below w.heap.size w (w.alloc (.cells #[.string nm, .int .i64 k, .int .i64 n, .string t] 29)) := (Below.refl _ _).alloc (Nat.le_refl _) _
      clear hc
      go_enter Tryd.func5, Tryd.ntmps5
      go_wp2_with fail
      refine (CF.out _ (HE.out _ hb0)).mono ?_
      rintro e w1 ⟨rfl, b1⟩
      obtain ⟨c0, c1, c2, c3⟩ := HC.out _ b1
      go_wp2_with fail
      refine (CR.out _).mono ?_
      rintro e w2 ⟨rfl, b2⟩
      have b12 := b1.trans (b2.mono b1.size)
      clear c0 c1 c2 c3
      obtain ⟨c0, c1, c2, c3⟩ := HC.out _ b12
      have hb2 := hb0.trans (b12.mono (by simp))
      have hlt2 : w.heap.size < w2.heap.size := by have := b12.size; simp at this; omega
      have HE2 := Lib.hid (HE.out _ hb2.drew)
      have hbd := hb2.drew
      have hltd : w.heap.size < w2.drew.heap.size := hlt2
      clear b1 b2 b12
      go_wp2_with fail
      go_region_held3 (fun w' => w'.cell? ⟨w.heap.size, 0, none⟩ = some (.string nm) ∧ w'.cell? ⟨w.heap.size, 1, none⟩ = some (.int .i64 k) ∧ w'.cell? ⟨w.heap.size, 2, none⟩ = some (.int .i64 n) ∧ w'.cell? ⟨w.heap.size, 3, none⟩ = some (.string t))
        (first
          | go_keep
          | (go_split_ands
             refine ⟨?_, ?_, ?_, ?_⟩ <;> first
               | (rw [hb5.cell (by first | exact hlt3 | exact hlt4)]; assumption)
               | (rw [hb4.cell (by first | exact hlt3 | exact hltd)]; assumption)
               | (rw [hb3.cell (by first | exact hlt4 | exact hltd)]; assumption)))
        (first
          | (go_at_call 18; refine (C1.out _).mono ?_; rintro e w3 ⟨rfl, hb3⟩; have hbb3 : Below w.heap.size w w3 := (by first | exact hbb4.trans (hb3.mono hbb4.size) | exact hbd.trans (hb3.mono hbd.size)); have hlt3 : w.heap.size < w3.heap.size := (by first | exact Nat.lt_of_lt_of_le hlt4 hb3.size | exact Nat.lt_of_lt_of_le hltd hb3.size))
          | (go_at_call 19; refine (C2.out _).mono ?_; rintro e w4 ⟨rfl, hb4⟩; have hbb4 : Below w.heap.size w w4 := (by first | exact hbb3.trans (hb4.mono hbb3.size) | exact hbd.trans (hb4.mono hbd.size)); have hlt4 : w.heap.size < w4.heap.size := (by first | exact Nat.lt_of_lt_of_le hlt3 hb4.size | exact Nat.lt_of_lt_of_le hltd hb4.size))
          | (go_at_call 11; refine (CA.out _ (by first | exact HE.out _ hbb4 | exact HE.out _ hbb3)).mono ?_; rintro e w5 ⟨rfl, hb5⟩; have hbb5 : Below w.heap.size w w5 := (by first | exact hbb4.trans (hb5.mono hbb4.size) | exact hbb3.trans (hb5.mono hbb3.size))))
      all_goals
        go_wp2_with fail
        go_ret
        exact ⟨rfl, hbb5⟩
end valuePairs
end Go.Proofs.YtakafepdiapfdaaDoor
