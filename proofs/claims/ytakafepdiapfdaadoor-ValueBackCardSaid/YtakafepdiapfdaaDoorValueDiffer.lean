/-
  The law ValueDiffer: its walk.
-/
import Derived.Test.YtakafepdiapfdaaDoorValuePairs
import Derived.Test.YtakafepdiapfdaaDoorRParseP
import Derived.Test.YtakafepdiapfdaaDoorSrcP
namespace Go.Proofs.YtakafepdiapfdaaDoor
open Go.RowKit Go.Proofs.YtakafepdiapfdaaDoor.cm Go.Proofs.YtakafepdiapfdaaDoor.vl Go.Proofs.YtakafepdiapfdaaDoor.sr

theorem sr.src_new (w : World) (a : Option Addr) (len cap : Nat) (h : Nums w a len) : SrcAt w (w.alloc (.cells #[.slice a len cap, .int .i64 0] 61)) w.heap.size a len cap 0 :=
  ⟨h, (Below.refl _ _).alloc (Nat.le_refl _) _, Nat.le_refl _, by
    show (w.heap.push (.cells #[.slice a len cap, .int .i64 0] 61))[w.heap.size]? = _
    simp, by omega⟩

theorem sr.Four.below {w w' : World} {B : Nat} {a b c d : Value} (h : Four w B a b c d) (hb : Below w.heap.size w w') : Four w' B a b c d := by
  have hk := hb.block B h.lt
  have hc : ∀ j, w'.cell? ⟨B, j, none⟩ = w.cell? ⟨B, j, none⟩ := fun j => World.cell?_of_block (w := w) hk
  have hf : ∀ j, w'.frozen? ⟨B, j, none⟩ = w.frozen? ⟨B, j, none⟩ := fun j => World.frozen?_of_block (w := w) hk
  exact ⟨(hc 0).trans h.c0, (hc 1).trans h.c1, (hc 2).trans h.c2, (hc 3).trans h.c3, (hf 0).trans h.f0, (hf 1).trans h.f1, (hf 2).trans h.f2, (hf 3).trans h.f3⟩
theorem sr.Four.at0 {w : World} {B : Nat} {a b c d : Value} (h : Four w B a b c d) (x : Value) : Four (w.setCell ⟨B, 0, none⟩ x) B x b c d := by
  obtain ⟨c0, c1, c2, c3, f0, f1, f2, f3⟩ := h
  constructor <;> simp [go_sem, c0, c1, c2, c3, f0, f1, f2, f3]

/-- sound pairs with one text are one pair -/
theorem vl.fS_inj {n1 n2 t1 t2 : ByteArray} {k1 k2 m1 m2 : Int} (h1 : ckI n1 k1 m1 t1 = 0) (h2 : ckI n2 k2 m2 t2 = 0) (i1 : isInt m1) (i2 : isInt m2) (h : fS n1 k1 m1 t1 = fS n2 k2 m2 t2) : n1 = n2 ∧ k1 = k2 ∧ m1 = m2 ∧ t1 = t2 := by
  rcases fS_P n1 k1 m1 t1 with ⟨_, a1⟩ | ⟨a1, _⟩
  · rcases fS_P n2 k2 m2 t2 with ⟨_, a2⟩ | ⟨a2, _⟩
    · rw [← h] at a2
      have e1 := parP_fmtP a1 i1
      have e2 := parP_fmtP a2 i2
      rw [e1] at e2
      injection e2 with e2
      injection e2 with e3 e4 e5 e6
      exact ⟨ByteArray.ext (Array.toList_inj.1 e3), e4, e5, ByteArray.ext (Array.toList_inj.1 e6)⟩
    · rw [h2] at a2; cases a2
  · rw [h1] at a1; cases a1

theorem vl.list_eq {a b : ByteArray} (h : a.toList = b.toList) : a = b := by
  have := beq_str a b
  rw [h] at this
  simpa using this

/-- two pairs that are not the same -/
def vl.Differ (n1 n2 t1 t2 : ByteArray) (k1 k2 m1 m2 : Int) : Prop := ¬ (n1 = n2 ∧ k1 = k2 ∧ m1 = m2 ∧ t1 = t2)

namespace valueDiffer
set_option maxRecDepth 100000 in
set_option maxHeartbeats 8000000 in
theorem walk (a : Option Addr) (len cap : Nat) (zs : List Int) (w : World) (hr : IsRow .i64 w a len cap zs) (hL : laidMetH Tryd.prog Rows.valueDifferRow.laid w) (_ : w.ShapedOpen Tryd.prog) :
    Calls Tryd.prog 10 #[.slice a len cap] w fun e w' => e = .returned (.bool true) ∧ Below w.heap.size w w' := by
  have hT : HexT w := hex_of hL (by rfl)
  have hP : PowT w := pow_of hL (by rfl)
  have h0 := pos_of hT
  have HE : Hid (∀ W, Below w.heap.size w W → Env W) := Lib.hid (fun W h => (Env.mk hT hP h0).below h)
  have hs0 := src_new w a len cap (nums_of_row hr)
  have CN := Lib.hid (new_any a len cap w)
  have CA := Lib.hid (fun W (h : Env W) => vl.awake_any W h.hex h.pos)
  clear hT hP hL hr
  go_enter Tryd.func10, Tryd.ntmps10
  go_wp2_with fail
  refine CN.out.mono ?_
  rintro e w1 ⟨rfl, hw1⟩
  rw [← hw1] at hs0
  have C1 := Lib.hid (pair_b w w1 _ a len cap 0 hs0 (by omega))
  have hbe1 : Beside w.heap.size w w1 := by rw [hw1]; exact (Beside.refl _ w).alloc _
  clear hw1 hs0
  go_wp2_with fail
  refine C1.out.mono ?_
  rintro e w2 ⟨n1, k1, m1, t1, q1, rfl, hn1, hk1, hm1, ht1, hq1, hs2, hb2⟩
  have C2 := Lib.hid (pair_b w w2 _ a len cap q1 hs2 (by omega))
  have hbe2 := hbe1.trans hb2
  clear hb2 hbe1 hs2
  go_wp2_with fail
  refine C2.out.mono ?_
  rintro e w3 ⟨n2, k2, m2, t2, q2, rfl, hn2, hk2, hm2, ht2, hq2, hs3, hb3⟩
  have hbe3 := hbe2.trans hb3
  have hlt3 := hs3.lt
  have fp := Four.new w3 29 (.string n1) (.int .i64 k1) (.int .i64 m1) (.string t1)
  have fp := fp.beside ((Beside.refl w.heap.size _).alloc (.cells #[.string n2, .int .i64 k2, .int .i64 m2, .string t2] 29)) (by omega)
  have fq := Four.new (w3.alloc (.cells #[.string n1, .int .i64 k1, .int .i64 m1, .string t1] 29)) 29 (.string n2) (.int .i64 k2) (.int .i64 m2) (.string t2)
  have hs4 := (hs3.alloc (.cells #[.string n1, .int .i64 k1, .int .i64 m1, .string t1] 29)).alloc (.cells #[.string n2, .int .i64 k2, .int .i64 m2, .string t2] 29)
  have hbe4 := (hbe3.alloc (.cells #[.string n1, .int .i64 k1, .int .i64 m1, .string t1] 29)).alloc (.cells #[.string n2, .int .i64 k2, .int .i64 m2, .string t2] 29)
  have CX := Lib.hid (n_b w _ _ a len cap q2 3 hs4 (by omega) (by omega) (by omega))
  clear hb3 hbe2 hs3 hbe3 hs4
  rw [World.size_alloc] at fq
  go_wp2_with fail
  refine CX.out.mono ?_
  rintro e w5 ⟨x, hx, rfl, hs5, hb5⟩
  have gp := fp.beside hb5 (by omega)
  have gq := fq.beside hb5 (by omega)
  have hbe5 := hbe4.trans hb5
  clear fp fq hbe4 hb5 hs5
  have hbw5 : Below w.heap.size w w5 := hbe5.below (Nat.le_refl _) (Nat.le_refl _)
  by_cases hx0 : x = 0
  · subst hx0
    have gq2 := gq.at0 (.string n1)
    have gp2 := gp.other (C := w3.heap.size + 1) (o := 0) (by omega) (.string n1)
    have hbw := hbw5.setCell (p := ⟨w3.heap.size + 1, 0, none⟩) (by show w.heap.size ≤ w3.heap.size + 1; omega) (.string n1)
    obtain ⟨c0, c1, c2, c3, f0, f1, f2, f3⟩ := gp
    obtain ⟨d0, d1, d2, d3, e0, e1, e2, e3⟩ := gq
    have gp := gp2
    have gq := gq2
    clear gp2 gq2 c1 c2 c3 f1 f2 f3 d1 d2 d3 e1 e2 e3
    have CF1 := fun W (h : Env W) => Format_any n1 t1 k1 m1 W (by unfold maxLen; omega) (by unfold maxLen; omega) hm1 h
    have CF2 := fun W (h : Env W) => Format_any n1 t2 k2 m2 W (by unfold maxLen; omega) (by unfold maxLen; omega) hm2 h
    rcases ckI_cases n1 k1 m1 t1 with z1 | z1
    · rcases ckI_cases n1 k2 m2 t2 with z2 | z2
      · have HI := fS_inj z1 z2 hm1 hm2
        rw [z1] at CF1
        rw [z2] at CF2
        clear z1 z2
        by_cases hsame : n1 = n1 ∧ k1 = k2 ∧ m1 = m2 ∧ t1 = t2
        · have hS : fS n1 k2 m2 t2 = fS n1 k1 m1 t1 := by obtain ⟨q1, q2, q3, q4⟩ := hsame; rw [q2, q3, q4]
          rw [hS] at CF2
          clear HI hS
          have eN : (n1) = n1 := hsame.1.symm
          have eK : k2 = k1 := hsame.2.1.symm
          have eM : m2 = m1 := hsame.2.2.1.symm
          have eT : t2 = t1 := hsame.2.2.2.symm
          rw [eN, eK, eM, eT] at gq
          rw [eN, eK, eM, eT] at CF2
          generalize fS n1 k1 m1 t1 = S1 at *
          have CF1 := Lib.hid CF1
          have CF2 := Lib.hid CF2
          clear hsame eN eK eM eT
          have gp' := gp
          obtain ⟨b0, b1, b2, b3, f0', f1, f2, f3⟩ := gp
          go_wp2_with fail
          refine (CF1.out _ (HE.out _ hbw)).mono ?_
          rintro e w6 ⟨rfl, hb6⟩
          obtain ⟨d0, d1, d2, d3, e0, e1, e2, e3⟩ := gq.below hb6
          obtain ⟨a0, a1, a2, a3, _, _, _, _⟩ := gp'.below hb6
          have hby := hbw.trans (hb6.mono hbw.size)
          go_wp2_with fail
          refine (CF2.out _ (HE.out _ hby)).mono ?_
          rintro e w7 ⟨rfl, hb7⟩
          have hz6 := cell_lt d0
          have hz6' := cell_lt a0
          have s0 := (hb7.cell (p := ⟨w3.heap.size + 1, 0, none⟩) hz6).trans d0
          have s1 := (hb7.cell (p := ⟨w3.heap.size + 1, 1, none⟩) hz6).trans d1
          have s2 := (hb7.cell (p := ⟨w3.heap.size + 1, 2, none⟩) hz6).trans d2
          have s3 := (hb7.cell (p := ⟨w3.heap.size + 1, 3, none⟩) hz6).trans d3
          have v0 := (hb7.cell (p := ⟨w3.heap.size, 0, none⟩) hz6').trans a0
          have v1 := (hb7.cell (p := ⟨w3.heap.size, 1, none⟩) hz6').trans a1
          have v2 := (hb7.cell (p := ⟨w3.heap.size, 2, none⟩) hz6').trans a2
          have v3 := (hb7.cell (p := ⟨w3.heap.size, 3, none⟩) hz6').trans a3
          have hbz := hby.trans (hb7.mono hby.size)
          clear hb6 hb7 d0 d1 d2 d3 a0 a1 a2 a3 e0 e1 e2 e3 hby
          go_wp2_with fail
          refine (CA.out _ (HE.out _ hbz)).mono ?_
          rintro e w9 ⟨rfl, hb9⟩
          go_wp2_with fail
          go_ret
          exact ⟨rfl, hbz.trans (hb9.mono hbz.size)⟩
        · have hne : ((fS n1 k1 m1 t1).toList == (fS n1 k2 m2 t2).toList) = false := by
            rw [beq_str]
            exact decide_eq_false (fun hc => hsame (HI hc))
          have HD : Hid (Differ n1 n1 t1 t2 k1 k2 m1 m2) := Lib.hid hsame
          clear HI hsame
          generalize fS n1 k1 m1 t1 = S1 at *
          generalize fS n1 k2 m2 t2 = S2 at *
          have CF1 := Lib.hid CF1
          have CF2 := Lib.hid CF2
          have gp' := gp
          obtain ⟨b0, b1, b2, b3, f0', f1, f2, f3⟩ := gp
          go_wp2_with fail
          refine (CF1.out _ (HE.out _ hbw)).mono ?_
          rintro e w6 ⟨rfl, hb6⟩
          obtain ⟨d0, d1, d2, d3, e0, e1, e2, e3⟩ := gq.below hb6
          obtain ⟨a0, a1, a2, a3, _, _, _, _⟩ := gp'.below hb6
          have hby := hbw.trans (hb6.mono hbw.size)
          go_wp2_with fail
          refine (CF2.out _ (HE.out _ hby)).mono ?_
          rintro e w7 ⟨rfl, hb7⟩
          have hz6 := cell_lt d0
          have hz6' := cell_lt a0
          have s0 := (hb7.cell (p := ⟨w3.heap.size + 1, 0, none⟩) hz6).trans d0
          have s1 := (hb7.cell (p := ⟨w3.heap.size + 1, 1, none⟩) hz6).trans d1
          have s2 := (hb7.cell (p := ⟨w3.heap.size + 1, 2, none⟩) hz6).trans d2
          have s3 := (hb7.cell (p := ⟨w3.heap.size + 1, 3, none⟩) hz6).trans d3
          have v0 := (hb7.cell (p := ⟨w3.heap.size, 0, none⟩) hz6').trans a0
          have v1 := (hb7.cell (p := ⟨w3.heap.size, 1, none⟩) hz6').trans a1
          have v2 := (hb7.cell (p := ⟨w3.heap.size, 2, none⟩) hz6').trans a2
          have v3 := (hb7.cell (p := ⟨w3.heap.size, 3, none⟩) hz6').trans a3
          have hbz := hby.trans (hb7.mono hby.size)
          clear hb6 hb7 d0 d1 d2 d3 a0 a1 a2 a3 e0 e1 e2 e3 hby
          go_wp2_with fail
          all_goals first
            | (refine (CA.out _ (HE.out _ hbz)).mono ?_
               rintro e w9 ⟨rfl, hb9⟩
               go_wp2_with fail
               go_ret
               exact ⟨rfl, hbz.trans (hb9.mono hbz.size)⟩)
            | (exfalso
               exact (show ¬ (_ ∧ _ ∧ _ ∧ _) from HD.out) ⟨by first | rfl | exact vl.list_eq (by assumption), by first | rfl | assumption, by first | rfl | assumption, by first | rfl | exact vl.list_eq (by assumption)⟩)
      · have y2 : (ckI n1 k2 m2 t2 != 0) = true := by simp [bne, z2]
        rw [z1] at CF1
        clear z1
        generalize fS n1 k1 m1 t1 = S1 at *
        generalize fS n1 k2 m2 t2 = S2 at *
        generalize ckI n1 k2 m2 t2 = er2 at *
        have CF1 := Lib.hid CF1
        have CF2 := Lib.hid CF2
        have gp' := gp
        obtain ⟨b0, b1, b2, b3, f0', f1, f2, f3⟩ := gp
        go_wp2_with fail
        refine (CF1.out _ (HE.out _ hbw)).mono ?_
        rintro e w6 ⟨rfl, hb6⟩
        obtain ⟨d0, d1, d2, d3, e0, e1, e2, e3⟩ := gq.below hb6
        obtain ⟨a0, a1, a2, a3, _, _, _, _⟩ := gp'.below hb6
        have hby := hbw.trans (hb6.mono hbw.size)
        go_wp2_with fail
        refine (CF2.out _ (HE.out _ hby)).mono ?_
        rintro e w7 ⟨rfl, hb7⟩
        have hz6 := cell_lt d0
        have hz6' := cell_lt a0
        have s0 := (hb7.cell (p := ⟨w3.heap.size + 1, 0, none⟩) hz6).trans d0
        have s1 := (hb7.cell (p := ⟨w3.heap.size + 1, 1, none⟩) hz6).trans d1
        have s2 := (hb7.cell (p := ⟨w3.heap.size + 1, 2, none⟩) hz6).trans d2
        have s3 := (hb7.cell (p := ⟨w3.heap.size + 1, 3, none⟩) hz6).trans d3
        have v0 := (hb7.cell (p := ⟨w3.heap.size, 0, none⟩) hz6').trans a0
        have v1 := (hb7.cell (p := ⟨w3.heap.size, 1, none⟩) hz6').trans a1
        have v2 := (hb7.cell (p := ⟨w3.heap.size, 2, none⟩) hz6').trans a2
        have v3 := (hb7.cell (p := ⟨w3.heap.size, 3, none⟩) hz6').trans a3
        have hbz := hby.trans (hb7.mono hby.size)
        clear hb6 hb7 d0 d1 d2 d3 a0 a1 a2 a3 e0 e1 e2 e3 hby
        go_wp2_with fail
        refine (CA.out _ (HE.out _ hbz)).mono ?_
        rintro e w9 ⟨rfl, hb9⟩
        go_wp2_with fail
        go_ret
        exact ⟨rfl, hbz.trans (hb9.mono hbz.size)⟩
    · have y1 : (ckI n1 k1 m1 t1 != 0) = true := by simp [bne, z1]
      generalize fS n1 k1 m1 t1 = S1 at *
      generalize ckI n1 k1 m1 t1 = er1 at *
      generalize fS n1 k2 m2 t2 = S2 at *
      generalize ckI n1 k2 m2 t2 = er2 at *
      have CF1 := Lib.hid CF1
      have CF2 := Lib.hid CF2
      have gp' := gp
      obtain ⟨b0, b1, b2, b3, f0', f1, f2, f3⟩ := gp
      go_wp2_with fail
      refine (CF1.out _ (HE.out _ hbw)).mono ?_
      rintro e w6 ⟨rfl, hb6⟩
      obtain ⟨d0, d1, d2, d3, e0, e1, e2, e3⟩ := gq.below hb6
      obtain ⟨a0, a1, a2, a3, _, _, _, _⟩ := gp'.below hb6
      have hby := hbw.trans (hb6.mono hbw.size)
      go_wp2_with fail
      refine (CF2.out _ (HE.out _ hby)).mono ?_
      rintro e w7 ⟨rfl, hb7⟩
      have hz6 := cell_lt d0
      have hz6' := cell_lt a0
      have s0 := (hb7.cell (p := ⟨w3.heap.size + 1, 0, none⟩) hz6).trans d0
      have s1 := (hb7.cell (p := ⟨w3.heap.size + 1, 1, none⟩) hz6).trans d1
      have s2 := (hb7.cell (p := ⟨w3.heap.size + 1, 2, none⟩) hz6).trans d2
      have s3 := (hb7.cell (p := ⟨w3.heap.size + 1, 3, none⟩) hz6).trans d3
      have v0 := (hb7.cell (p := ⟨w3.heap.size, 0, none⟩) hz6').trans a0
      have v1 := (hb7.cell (p := ⟨w3.heap.size, 1, none⟩) hz6').trans a1
      have v2 := (hb7.cell (p := ⟨w3.heap.size, 2, none⟩) hz6').trans a2
      have v3 := (hb7.cell (p := ⟨w3.heap.size, 3, none⟩) hz6').trans a3
      have hbz := hby.trans (hb7.mono hby.size)
      clear hb6 hb7 d0 d1 d2 d3 a0 a1 a2 a3 e0 e1 e2 e3 hby
      go_wp2_with fail
      refine (CA.out _ (HE.out _ hbz)).mono ?_
      rintro e w9 ⟨rfl, hb9⟩
      go_wp2_with fail
      go_ret
      exact ⟨rfl, hbz.trans (hb9.mono hbz.size)⟩
  · have ex : ((x : Int) == 0) = false := beq_eq_false_iff_ne.2 (by omega)
    have hbw := hbw5
    have CF1 := fun W (h : Env W) => Format_any n1 t1 k1 m1 W (by unfold maxLen; omega) (by unfold maxLen; omega) hm1 h
    have CF2 := fun W (h : Env W) => Format_any n2 t2 k2 m2 W (by unfold maxLen; omega) (by unfold maxLen; omega) hm2 h
    rcases ckI_cases n1 k1 m1 t1 with z1 | z1
    · rcases ckI_cases n2 k2 m2 t2 with z2 | z2
      · have HI := fS_inj z1 z2 hm1 hm2
        rw [z1] at CF1
        rw [z2] at CF2
        clear z1 z2
        by_cases hsame : n1 = n2 ∧ k1 = k2 ∧ m1 = m2 ∧ t1 = t2
        · have hS : fS n2 k2 m2 t2 = fS n1 k1 m1 t1 := by obtain ⟨q1, q2, q3, q4⟩ := hsame; rw [q1, q2, q3, q4]
          rw [hS] at CF2
          clear HI hS
          have eN : (n2) = n1 := hsame.1.symm
          have eK : k2 = k1 := hsame.2.1.symm
          have eM : m2 = m1 := hsame.2.2.1.symm
          have eT : t2 = t1 := hsame.2.2.2.symm
          rw [eN, eK, eM, eT] at gq
          rw [eN, eK, eM, eT] at CF2
          generalize fS n1 k1 m1 t1 = S1 at *
          have CF1 := Lib.hid CF1
          have CF2 := Lib.hid CF2
          clear hsame eN eK eM eT
          have gp' := gp
          obtain ⟨c0, c1, c2, c3, f0, f1, f2, f3⟩ := gp
          go_wp2_with fail
          refine (CF1.out _ (HE.out _ hbw)).mono ?_
          rintro e w6 ⟨rfl, hb6⟩
          obtain ⟨d0, d1, d2, d3, e0, e1, e2, e3⟩ := gq.below hb6
          obtain ⟨a0, a1, a2, a3, _, _, _, _⟩ := gp'.below hb6
          have hby := hbw.trans (hb6.mono hbw.size)
          go_wp2_with fail
          refine (CF2.out _ (HE.out _ hby)).mono ?_
          rintro e w7 ⟨rfl, hb7⟩
          have hz6 := cell_lt d0
          have hz6' := cell_lt a0
          have s0 := (hb7.cell (p := ⟨w3.heap.size + 1, 0, none⟩) hz6).trans d0
          have s1 := (hb7.cell (p := ⟨w3.heap.size + 1, 1, none⟩) hz6).trans d1
          have s2 := (hb7.cell (p := ⟨w3.heap.size + 1, 2, none⟩) hz6).trans d2
          have s3 := (hb7.cell (p := ⟨w3.heap.size + 1, 3, none⟩) hz6).trans d3
          have v0 := (hb7.cell (p := ⟨w3.heap.size, 0, none⟩) hz6').trans a0
          have v1 := (hb7.cell (p := ⟨w3.heap.size, 1, none⟩) hz6').trans a1
          have v2 := (hb7.cell (p := ⟨w3.heap.size, 2, none⟩) hz6').trans a2
          have v3 := (hb7.cell (p := ⟨w3.heap.size, 3, none⟩) hz6').trans a3
          have hbz := hby.trans (hb7.mono hby.size)
          clear hb6 hb7 d0 d1 d2 d3 a0 a1 a2 a3 e0 e1 e2 e3 hby
          go_wp2_with fail
          refine (CA.out _ (HE.out _ hbz)).mono ?_
          rintro e w9 ⟨rfl, hb9⟩
          go_wp2_with fail
          go_ret
          exact ⟨rfl, hbz.trans (hb9.mono hbz.size)⟩
        · have hne : ((fS n1 k1 m1 t1).toList == (fS n2 k2 m2 t2).toList) = false := by
            rw [beq_str]
            exact decide_eq_false (fun hc => hsame (HI hc))
          have HD : Hid (Differ n1 n2 t1 t2 k1 k2 m1 m2) := Lib.hid hsame
          clear HI hsame
          generalize fS n1 k1 m1 t1 = S1 at *
          generalize fS n2 k2 m2 t2 = S2 at *
          have CF1 := Lib.hid CF1
          have CF2 := Lib.hid CF2
          have gp' := gp
          obtain ⟨c0, c1, c2, c3, f0, f1, f2, f3⟩ := gp
          go_wp2_with fail
          refine (CF1.out _ (HE.out _ hbw)).mono ?_
          rintro e w6 ⟨rfl, hb6⟩
          obtain ⟨d0, d1, d2, d3, e0, e1, e2, e3⟩ := gq.below hb6
          obtain ⟨a0, a1, a2, a3, _, _, _, _⟩ := gp'.below hb6
          have hby := hbw.trans (hb6.mono hbw.size)
          go_wp2_with fail
          refine (CF2.out _ (HE.out _ hby)).mono ?_
          rintro e w7 ⟨rfl, hb7⟩
          have hz6 := cell_lt d0
          have hz6' := cell_lt a0
          have s0 := (hb7.cell (p := ⟨w3.heap.size + 1, 0, none⟩) hz6).trans d0
          have s1 := (hb7.cell (p := ⟨w3.heap.size + 1, 1, none⟩) hz6).trans d1
          have s2 := (hb7.cell (p := ⟨w3.heap.size + 1, 2, none⟩) hz6).trans d2
          have s3 := (hb7.cell (p := ⟨w3.heap.size + 1, 3, none⟩) hz6).trans d3
          have v0 := (hb7.cell (p := ⟨w3.heap.size, 0, none⟩) hz6').trans a0
          have v1 := (hb7.cell (p := ⟨w3.heap.size, 1, none⟩) hz6').trans a1
          have v2 := (hb7.cell (p := ⟨w3.heap.size, 2, none⟩) hz6').trans a2
          have v3 := (hb7.cell (p := ⟨w3.heap.size, 3, none⟩) hz6').trans a3
          have hbz := hby.trans (hb7.mono hby.size)
          clear hb6 hb7 d0 d1 d2 d3 a0 a1 a2 a3 e0 e1 e2 e3 hby
          go_wp2_with fail
          all_goals first
            | (refine (CA.out _ (HE.out _ hbz)).mono ?_
               rintro e w9 ⟨rfl, hb9⟩
               go_wp2_with fail
               go_ret
               exact ⟨rfl, hbz.trans (hb9.mono hbz.size)⟩)
            | (exfalso
               exact (show ¬ (_ ∧ _ ∧ _ ∧ _) from HD.out) ⟨by first | rfl | exact vl.list_eq (by assumption), by first | rfl | assumption, by first | rfl | assumption, by first | rfl | exact vl.list_eq (by assumption)⟩)
      · have y2 : (ckI n2 k2 m2 t2 != 0) = true := by simp [bne, z2]
        rw [z1] at CF1
        clear z1
        generalize fS n1 k1 m1 t1 = S1 at *
        generalize fS n2 k2 m2 t2 = S2 at *
        generalize ckI n2 k2 m2 t2 = er2 at *
        have CF1 := Lib.hid CF1
        have CF2 := Lib.hid CF2
        have gp' := gp
        obtain ⟨c0, c1, c2, c3, f0, f1, f2, f3⟩ := gp
        go_wp2_with fail
        refine (CF1.out _ (HE.out _ hbw)).mono ?_
        rintro e w6 ⟨rfl, hb6⟩
        obtain ⟨d0, d1, d2, d3, e0, e1, e2, e3⟩ := gq.below hb6
        obtain ⟨a0, a1, a2, a3, _, _, _, _⟩ := gp'.below hb6
        have hby := hbw.trans (hb6.mono hbw.size)
        go_wp2_with fail
        refine (CF2.out _ (HE.out _ hby)).mono ?_
        rintro e w7 ⟨rfl, hb7⟩
        have hz6 := cell_lt d0
        have hz6' := cell_lt a0
        have s0 := (hb7.cell (p := ⟨w3.heap.size + 1, 0, none⟩) hz6).trans d0
        have s1 := (hb7.cell (p := ⟨w3.heap.size + 1, 1, none⟩) hz6).trans d1
        have s2 := (hb7.cell (p := ⟨w3.heap.size + 1, 2, none⟩) hz6).trans d2
        have s3 := (hb7.cell (p := ⟨w3.heap.size + 1, 3, none⟩) hz6).trans d3
        have v0 := (hb7.cell (p := ⟨w3.heap.size, 0, none⟩) hz6').trans a0
        have v1 := (hb7.cell (p := ⟨w3.heap.size, 1, none⟩) hz6').trans a1
        have v2 := (hb7.cell (p := ⟨w3.heap.size, 2, none⟩) hz6').trans a2
        have v3 := (hb7.cell (p := ⟨w3.heap.size, 3, none⟩) hz6').trans a3
        have hbz := hby.trans (hb7.mono hby.size)
        clear hb6 hb7 d0 d1 d2 d3 a0 a1 a2 a3 e0 e1 e2 e3 hby
        go_wp2_with fail
        refine (CA.out _ (HE.out _ hbz)).mono ?_
        rintro e w9 ⟨rfl, hb9⟩
        go_wp2_with fail
        go_ret
        exact ⟨rfl, hbz.trans (hb9.mono hbz.size)⟩
    · have y1 : (ckI n1 k1 m1 t1 != 0) = true := by simp [bne, z1]
      generalize fS n1 k1 m1 t1 = S1 at *
      generalize ckI n1 k1 m1 t1 = er1 at *
      generalize fS n2 k2 m2 t2 = S2 at *
      generalize ckI n2 k2 m2 t2 = er2 at *
      have CF1 := Lib.hid CF1
      have CF2 := Lib.hid CF2
      have gp' := gp
      obtain ⟨c0, c1, c2, c3, f0, f1, f2, f3⟩ := gp
      go_wp2_with fail
      refine (CF1.out _ (HE.out _ hbw)).mono ?_
      rintro e w6 ⟨rfl, hb6⟩
      obtain ⟨d0, d1, d2, d3, e0, e1, e2, e3⟩ := gq.below hb6
      obtain ⟨a0, a1, a2, a3, _, _, _, _⟩ := gp'.below hb6
      have hby := hbw.trans (hb6.mono hbw.size)
      go_wp2_with fail
      refine (CF2.out _ (HE.out _ hby)).mono ?_
      rintro e w7 ⟨rfl, hb7⟩
      have hz6 := cell_lt d0
      have hz6' := cell_lt a0
      have s0 := (hb7.cell (p := ⟨w3.heap.size + 1, 0, none⟩) hz6).trans d0
      have s1 := (hb7.cell (p := ⟨w3.heap.size + 1, 1, none⟩) hz6).trans d1
      have s2 := (hb7.cell (p := ⟨w3.heap.size + 1, 2, none⟩) hz6).trans d2
      have s3 := (hb7.cell (p := ⟨w3.heap.size + 1, 3, none⟩) hz6).trans d3
      have v0 := (hb7.cell (p := ⟨w3.heap.size, 0, none⟩) hz6').trans a0
      have v1 := (hb7.cell (p := ⟨w3.heap.size, 1, none⟩) hz6').trans a1
      have v2 := (hb7.cell (p := ⟨w3.heap.size, 2, none⟩) hz6').trans a2
      have v3 := (hb7.cell (p := ⟨w3.heap.size, 3, none⟩) hz6').trans a3
      have hbz := hby.trans (hb7.mono hby.size)
      clear hb6 hb7 d0 d1 d2 d3 a0 a1 a2 a3 e0 e1 e2 e3 hby
      go_wp2_with fail
      refine (CA.out _ (HE.out _ hbz)).mono ?_
      rintro e w9 ⟨rfl, hb9⟩
      go_wp2_with fail
      go_ret
      exact ⟨rfl, hbz.trans (hb9.mono hbz.size)⟩
end valueDiffer
end Go.Proofs.YtakafepdiapfdaaDoor
