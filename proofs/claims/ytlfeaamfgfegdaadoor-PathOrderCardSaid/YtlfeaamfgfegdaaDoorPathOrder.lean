/-
  The law PathOrder: its walk.
-/
import Derived.Test.YtlfeaamfgfegdaaDoorPAg
import Derived.Test.YtlfeaamfgfegdaaDoorPJs
import Derived.Test.YtlfeaamfgfegdaaDoorSrcN
import Derived.Test.YtlfeaamfgfegdaaDoorRow
import Derived.Test.YtlfeaamfgfegdaaDoorRows
namespace Go.Proofs.YtlfeaamfgfegdaaDoor
open Go.RowKit Go.Proofs.YtlfeaamfgfegdaaDoor.cm Go.Proofs.YtlfeaamfgfegdaaDoor.pt Go.Proofs.YtlfeaamfgfegdaaDoor.sr

namespace pathOrder
theorem clp {t : ByteArray} (h : ClP t) : cleanS t = true ∧ t.data.toList ≠ [47] ∧ t.size ≤ 6 := by
  obtain ⟨xs, h1, h2, rfl, h4⟩ := h
  refine ⟨?_, ?_, h4⟩
  · unfold cleanS
    rw [pt.bs_data]
    exact (clean_iff _).2 (.inr ⟨xs, h2, h1, rfl⟩)
  · rw [pt.bs_data]
    exact root_ne h2 h1
/-- what b may be -/
def BP (t : ByteArray) : Prop := cleanS t = true ∧ t.size ≤ 10
theorem clean_join {a : ByteArray} (h : cleanS a = true) (hs : a.size ≤ 6) : BP (joinB a ⟨#[120]⟩) := by
  obtain ⟨ys, hy, he⟩ := clean_names h
  refine ⟨?_, ?_⟩
  · show cleanL (joinB a ⟨#[120]⟩).data.toList = true
    unfold joinB
    rw [he, joinP_dir hy]
    show cleanL (joinL (ys ++ [[120]])).toArray.toList = true
    rw [List.toList_toArray]
    exact (clean_iff _).2 (.inr ⟨_, by simp, by rw [List.all_append, hy]; decide, rfl⟩)
  · have := joinB_size a ⟨#[120]⟩
    have h1 : (⟨#[120]⟩ : ByteArray).size = 1 := rfl
    omega
theorem lift {f : FuncId} {args : Array Value} {E : Ending} {w : World} (h : ∀ W, Calls Tryd.prog f args W fun e w' => e = E ∧ Below W.heap.size W w') : ∀ W, Below w.heap.size w W → Calls Tryd.prog f args W fun e w' => e = E ∧ Below w.heap.size w w' :=
  fun W hb => (h W).mono fun _ _ ⟨h1, h2⟩ => ⟨h1, hb.trans (h2.mono hb.size)⟩
theorem str_ne {a b : ByteArray} (h : a.data.toList = b.data.toList) : (a.toList == b.toList) = true := by rw [str_beq, h]; simp

set_option maxRecDepth 100000 in
set_option maxHeartbeats 16000000 in
theorem walk (la : Option Addr) (llen lcap : Nat) (zs : List Int) (w : World) (hr : IsRow .i64 w la llen lcap zs) (_ : laidMetH Tryd.prog Rows.pathOrderRow.laid w) (_ : w.ShapedOpen Tryd.prog) :
    Calls Tryd.prog 7 #[.slice la llen lcap] w fun e w' => e = .returned (.bool true) ∧ Below w.heap.size w w' := by
  have CW := Lib.hid (lift (w := w) (fun W => pt.awake_any W))
  have CNW := Lib.hid (new_any la llen lcap w)
  have HS := Lib.hid (src_new w la llen lcap (nums_of_row hr))
  clear hr
  go_enter Tryd.func7, Tryd.ntmps7
  go_wp2_with fail
  refine CNW.out.mono ?_
  rintro e w1 ⟨rfl, hw1⟩
  have hs1 := HS.out
  rw [← hw1] at hs1
  have hb1 : Below w.heap.size w w1 := by rw [hw1]; exact (Below.refl _ _).alloc (Nat.le_refl _) _
  clear hw1
  have CA := Lib.hid (clean_b w w1 w.heap.size la llen lcap 0 hs1 (by omega))
  clear hs1
  go_wp2_with fail
  refine CA.out.mono ?_
  rintro e w2 ⟨k2, hk2, a, ha, rfl, hs2, hbe2⟩
  have hb2 : Below w.heap.size w w2 := hb1.trans (hbe2.below (Nat.le_refl _) hb1.size)
  have CB := Lib.hid (clean_b w w2 w.heap.size la llen lcap k2 hs2 (by omega))
  clear hs2 hbe2 hb1
  go_wp2_with fail
  refine CB.out.mono ?_
  rintro e w3 ⟨k3, hk3, b0, hb0, rfl, hs3, hbe3⟩
  have hb3 : Below w.heap.size w w3 := hb2.trans (hbe3.below (Nat.le_refl _) hb2.size)
  have CC := Lib.hid (clean_b w w3 w.heap.size la llen lcap k3 hs3 (by omega))
  clear hs3 hbe3 hb2
  go_wp2_with fail
  refine CC.out.mono ?_
  rintro e w4 ⟨k4, hk4, c, hc, rfl, hs4, hbe4⟩
  have hb4 : Below w.heap.size w w4 := hb3.trans (hbe4.below (Nat.le_refl _) hb3.size)
  have C2 := Lib.hid (n_b w w4 w.heap.size la llen lcap k4 2 hs4 (by omega) (by omega) (by omega))
  clear hs4 hbe4 hb3
  obtain ⟨ha1, ha2, ha3⟩ := clp ha
  obtain ⟨hc1, hc2, hc3⟩ := clp hc
  obtain ⟨hb01, hb02, hb03⟩ := clp hb0
  have HBX := Lib.hid (clean_join ha1 ha3)
  have HB0 : Hid (BP b0) := Lib.hid ⟨hb01, by omega⟩
  have CJ := Lib.hid (fun W => Join_any a ⟨#[120]⟩ W (by omega) (by decide))
  have UAA := fun W => Under_any a a W (by omega) (by omega)
  rw [show underS a a = true from under_refl ha1] at UAA
  have URA := fun W => Under_any ⟨#[47]⟩ a W (by decide) (by omega)
  rw [show underS ⟨#[47]⟩ a = true from under_root ha1] at URA
  have UAR := fun W => Under_any a ⟨#[47]⟩ W (by omega) (by decide)
  rw [show underS a ⟨#[47]⟩ = false from under_top ha1 ha2] at UAR
  have UAC := fun W => Under_any a c W (by omega) (by omega)
  have UAA := Lib.hid (lift (w := w) UAA)
  have URA := Lib.hid (lift (w := w) URA)
  have UAR := Lib.hid (lift (w := w) UAR)
  have UAC := Lib.hid (lift (w := w) UAC)
  -- what is said of every b
  have PB : Hid (∀ b, BP b → (∀ W, Calls Tryd.prog 14 #[.string a, .string b] W fun e w' => e = .returned (.bool (underS a b)) ∧ Below W.heap.size W w') ∧
      (∀ W, Calls Tryd.prog 14 #[.string b, .string a] W fun e w' => e = .returned (.bool (underS b a)) ∧ Below W.heap.size W w') ∧
      (∀ W, Calls Tryd.prog 14 #[.string b, .string c] W fun e w' => e = .returned (.bool (underS b c)) ∧ Below W.heap.size W w') ∧
      ((underS a b = false) ∨ (underS a b = true ∧ (underS b a = false ∨ (underS b a = true ∧ (a.toList == b.toList) = true)))) ∧
      ((underS a b = false) ∨ (underS a b = true ∧ (underS b c = false ∨ (underS b c = true ∧ underS a c = true))))) := Lib.hid (fun b hb => by
    have hbs := hb.2
    refine ⟨fun W => Under_any a b W (by omega) (by omega), fun W => Under_any b a W (by omega) (by omega), fun W => Under_any b c W (by omega) (by omega), ?_, ?_⟩
    · cases h1 : underS a b
      · exact .inl rfl
      · cases h2 : underS b a
        · exact .inr ⟨rfl, .inl rfl⟩
        · exact .inr ⟨rfl, .inr ⟨rfl, str_ne (under_anti h1 h2)⟩⟩
    · cases h1 : underS a b
      · exact .inl rfl
      · cases h2 : underS b c
        · exact .inr ⟨rfl, .inl rfl⟩
        · exact .inr ⟨rfl, .inr ⟨rfl, under_trans h1 h2⟩⟩)
  clear ha hc hb0 ha1 ha2 ha3 hc1 hc2 hc3 hb01 hb02 hb03
  go_wp2_with fail
  refine C2.out.mono ?_
  rintro e w5 ⟨x, hx, rfl, hs5, hbe5⟩
  have hb5 : Below w.heap.size w w5 := hb4.trans (hbe5.below (Nat.le_refl _) hb4.size)
  clear hs5 hbe5 hb4
  have hx2 : ((x : Int) == 0) = true ∨ ((x : Int) == 0) = false := by
    cases ((x : Int) == 0) <;> simp
  rcases hx2 with hx2 | hx2
  obtain ⟨U1, U2, U3, F1, F2⟩ := PB.out _ HBX.out
  generalize joinB a ⟨#[120]⟩ = b at *
  go_wp2_with fail
  refine (CJ.out _).mono ?_
  rintro e w6 ⟨rfl, rfl⟩
  rotate_left
  obtain ⟨U1, U2, U3, F1, F2⟩ := PB.out _ HB0.out
  generalize b0 = b at *
  all_goals
    clear PB HBX HB0 CJ
    generalize underS a b = ab at *
    generalize underS b a = ba at *
    generalize underS b c = bc at *
    generalize underS a c = ac at *
    have U1 := Lib.hid (lift (w := w) U1)
    have U2 := Lib.hid (lift (w := w) U2)
    have U3 := Lib.hid (lift (w := w) U3)
    rcases F1 with rfl | ⟨rfl, rfl | ⟨rfl, hab⟩⟩
    all_goals
      rcases F2 with h | ⟨h, rfl | ⟨rfl, rfl⟩⟩
      all_goals first
        | (cases h; done)
        | (try clear h
           go_wp2_with fail
           refine (UAA.out _ (by assumption)).mono ?_
           rintro e v1 ⟨rfl, g1⟩
           go_wp2_with fail
           refine (URA.out _ (by assumption)).mono ?_
           rintro e v2 ⟨rfl, g2⟩
           go_wp2_with fail
           refine (UAR.out _ (by assumption)).mono ?_
           rintro e v3 ⟨rfl, g3⟩
           go_wp2_with fail
           repeat
             ((first
               | (with_reducible refine (U1.out _ (by assumption)).mono ?_)
               | (with_reducible refine (U2.out _ (by assumption)).mono ?_)
               | (with_reducible refine (U3.out _ (by assumption)).mono ?_)
               | (with_reducible refine (UAC.out _ (by assumption)).mono ?_)
               | (with_reducible refine (CW.out _ (by assumption)).mono ?_))
              rintro e v4 ⟨rfl, g4⟩
              go_wp2_with fail)
           go_ret
           exact ⟨rfl, by assumption⟩)
end pathOrder
end Go.Proofs.YtlfeaamfgfegdaaDoor
