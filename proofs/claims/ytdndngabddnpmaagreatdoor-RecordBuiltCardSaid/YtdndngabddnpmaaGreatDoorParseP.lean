/-
  Parse of package value reads a pair, or returns the error.
-/
import Derived.Test.YtdndngabddnpmaaGreatDoorNumP
namespace Go.Proofs.YtdndngabddnpmaaGreatDoor.vl
open Go.RowKit Go.Proofs.YtdndngabddnpmaaGreatDoor.cm

/-- the block of a pair that the call made -/
structure Box (w : World) (B : Nat) (a b c d : Value) : Prop where
  c0 : w.cell? ⟨B, 0, none⟩ = some a
  c1 : w.cell? ⟨B, 1, none⟩ = some b
  c2 : w.cell? ⟨B, 2, none⟩ = some c
  c3 : w.cell? ⟨B, 3, none⟩ = some d
  f0 : w.frozen? ⟨B, 0, none⟩ = false
  f1 : w.frozen? ⟨B, 1, none⟩ = false
  f2 : w.frozen? ⟨B, 2, none⟩ = false
  f3 : w.frozen? ⟨B, 3, none⟩ = false
theorem box_of {w : World} {B T : Nat} {a b c d : Value} (h : w.heap[B]? = some (.cells #[a, b, c, d] T)) : Box w B a b c d :=
  ⟨by simp [World.cell?, h], by simp [World.cell?, h], by simp [World.cell?, h], by simp [World.cell?, h], by simp [World.frozen?, h], by simp [World.frozen?, h], by simp [World.frozen?, h], by simp [World.frozen?, h]⟩
theorem box_new (w : World) (T : Nat) (a b c d : Value) : (w.alloc (.cells #[a, b, c, d] T)).heap[w.heap.size]? = some (.cells #[a, b, c, d] T) := by
  show (w.heap.push (.cells #[a, b, c, d] T))[w.heap.size]? = _
  simp
theorem Box.set {w : World} {B : Nat} {a b c d : Value} (h : Box w B a b c d) (x y z u : Value) : Box ((((w.setCell ⟨B, 0, none⟩ x).setCell ⟨B, 1, none⟩ y).setCell ⟨B, 2, none⟩ z).setCell ⟨B, 3, none⟩ u) B x y z u := by
  obtain ⟨c0, c1, c2, c3, f0, f1, f2, f3⟩ := h
  constructor <;> simp [go_sem, c0, c1, c2, c3, f0, f1, f2, f3]
theorem Box.belowSet {w0 w : World} {N B : Nat} (h : Below N w0 w) (hB : N ≤ B) (x y z u : Value) : Below N w0 ((((w.setCell ⟨B, 0, none⟩ x).setCell ⟨B, 1, none⟩ y).setCell ⟨B, 2, none⟩ z).setCell ⟨B, 3, none⟩ u) :=
  (((h.setCell (p := ⟨B, 0, none⟩) hB _).setCell (p := ⟨B, 1, none⟩) hB _).setCell (p := ⟨B, 2, none⟩) hB _).setCell (p := ⟨B, 3, none⟩) hB _

/-- a value that is none -/
def NoVal (w : World) (e : Ending) (w' : World) : Prop := ∃ (c : ByteArray) (k m : Int) (d : ByteArray), e = .returned (.tuple #[.agg #[.string c, .int .i64 k, .int .i64 m, .string d], .bool false]) ∧ Below w.heap.size w w'

theorem pre1 (l : List UInt8) (c : UInt8) : Lib.hasPrefix l [c] = decide (l.head? = some c) := by
  cases l with
  | nil => simp [Lib.hasPrefix]
  | cons a r =>
    unfold Lib.hasPrefix
    rw [Bool.eq_iff_iff]
    simp [List.isPrefixOf]
    exact ⟨fun h => h.symm, fun h => h.symm⟩

theorem null_beq (s : ByteArray) : (s.toList == [40, 110, 117, 108, 108, 41]) = decide (s.data.toList = nullL) := by
  rw [ByteArray.toList_eq, Bool.eq_iff_iff]
  simp only [beq_iff_eq, nullL]
  exact ⟨fun h => decide_eq_true h, fun h => of_decide_eq_true h⟩

set_option maxRecDepth 100000 in
set_option maxHeartbeats 2000000 in
theorem parseValue_some (s : ByteArray) (w : World) (k n : Int) (t : List UInt8) (hs : s.size ≤ 100000) (hE : Env2 w) (h : vV s.data.toList = some (k, n, t)) :
    Calls Tryz.prog 79 #[.string s] w fun e w' => e = .returned (.tuple #[.agg #[.string ⟨#[]⟩, .int .i64 k, .int .i64 n, .string ⟨t.toArray⟩], .bool true]) ∧ Below w.heap.size w w' := by
  have HE := Lib.hid (fun W (h : Below w.heap.size w W) => hE.below h)
  have hnb := null_beq s
  have q1 := fun W => Tryz.strings_HasPrefix s ⟨#[34]⟩ W
  have q2 := fun W => Tryz.strings_HasPrefix s ⟨#[120]⟩ W
  have e1 : (⟨#[34]⟩ : ByteArray).data.toList = [34] := rfl
  have e2 : (⟨#[120]⟩ : ByteArray).data.toList = [120] := rfl
  rw [e1, pre1] at q1
  rw [e2, pre1] at q2
  clear hE e1 e2
  unfold vV at h
  by_cases hz : s.data.toList = nullL
  · rw [if_pos hz] at h
    cases h
    rw [decide_eq_true hz] at hnb
    clear hz q1 q2
    go_enter Tryz.func79, Tryz.ntmps79
    go_wp2_with fail
    exact bodyPost_ret (v := .tuple #[.agg #[.string ⟨#[]⟩, .int .i64 3, .int .i64 0, .string ⟨#[]⟩], .bool true]) (by simp [results, Tryz.f79, go_sem]) rfl ⟨rfl, (Below.refl _ _).alloc (Nat.le_refl _) _⟩
  · rw [if_neg hz] at h
    rw [decide_eq_false hz] at hnb
    by_cases hq : s.data.toList.head? = some 34 ∨ s.data.toList.head? = some 120
    · rw [if_pos hq] at h
      cases hu : unqO s.data.toList with
      | none => rw [hu] at h; cases h
      | some u =>
        rw [hu] at h
        cases h
        have CU := Lib.hid (fun W (h : Env W) => unquote_some s W t h.hex h.pos hu)
        have hd1 : decide (s.data.toList.head? = some 34) = true ∨ (decide (s.data.toList.head? = some 34) = false ∧ decide (s.data.toList.head? = some 120) = true) := by
          by_cases h34 : s.data.toList.head? = some 34
          · exact .inl (decide_eq_true h34)
          · exact .inr ⟨decide_eq_false h34, decide_eq_true (by rcases hq with hq | hq; exact absurd hq h34; exact hq)⟩
        generalize decide (s.data.toList.head? = some 34) = b1 at *
        generalize decide (s.data.toList.head? = some 120) = b2 at *
        have Q1 := Lib.hid q1
        have Q2 := Lib.hid q2
        clear q1 q2 hz hq hu
        rcases hd1 with rfl | ⟨rfl, rfl⟩
        · go_enter Tryz.func79, Tryz.ntmps79
          go_wp2_with fail
          refine (Q1.out _).mono ?_
          rintro e w' ⟨rfl, rfl⟩
          go_wp2_with fail
          refine (CU.out _ ?_).mono ?_
          · exact (HE.out _ ((Below.refl _ _).alloc (Nat.le_refl _) _)).env
          rintro e w1 ⟨rfl, hb⟩
          have bx := box_of ((hb.block w.heap.size (by simp)).trans (box_new w _ _ _ _ _))
          obtain ⟨r0, r1, r2, r3, _, _, _, _⟩ := bx.set (.string ⟨#[]⟩) (.int .i64 2) (.int .i64 0) (.string ⟨t.toArray⟩)
          obtain ⟨c0, c1, c2, c3, f0, f1, f2, f3⟩ := bx
          have hb1 := ((Below.refl w.heap.size w).alloc (Nat.le_refl _) _).trans (hb.mono (by simp))
          have hb2 := Box.belowSet hb1 (Nat.le_refl _) (.string ⟨#[]⟩) (.int .i64 2) (.int .i64 0) (.string ⟨t.toArray⟩)
          clear hb
          go_wp2_with fail
          exact bodyPost_ret (v := .tuple #[.agg #[.string ⟨#[]⟩, .int .i64 2, .int .i64 0, .string ⟨t.toArray⟩], .bool true]) (by simp [results, Tryz.f79, go_sem, r0, r1, r2, r3]) rfl ⟨rfl, hb2⟩
        · go_enter Tryz.func79, Tryz.ntmps79
          go_wp2_with fail
          refine (Q1.out _).mono ?_
          rintro e w' ⟨rfl, rfl⟩
          go_wp2_with fail
          refine (Q2.out _).mono ?_
          rintro e w' ⟨rfl, rfl⟩
          go_wp2_with fail
          refine (CU.out _ ?_).mono ?_
          · exact (HE.out _ ((Below.refl _ _).alloc (Nat.le_refl _) _)).env
          rintro e w1 ⟨rfl, hb⟩
          have bx := box_of ((hb.block w.heap.size (by simp)).trans (box_new w _ _ _ _ _))
          obtain ⟨r0, r1, r2, r3, _, _, _, _⟩ := bx.set (.string ⟨#[]⟩) (.int .i64 2) (.int .i64 0) (.string ⟨t.toArray⟩)
          obtain ⟨c0, c1, c2, c3, f0, f1, f2, f3⟩ := bx
          have hb1 := ((Below.refl w.heap.size w).alloc (Nat.le_refl _) _).trans (hb.mono (by simp))
          have hb2 := Box.belowSet hb1 (Nat.le_refl _) (.string ⟨#[]⟩) (.int .i64 2) (.int .i64 0) (.string ⟨t.toArray⟩)
          clear hb
          go_wp2_with fail
          exact bodyPost_ret (v := .tuple #[.agg #[.string ⟨#[]⟩, .int .i64 2, .int .i64 0, .string ⟨t.toArray⟩], .bool true]) (by simp [results, Tryz.f79, go_sem, r0, r1, r2, r3]) rfl ⟨rfl, hb2⟩
    · rw [if_neg hq] at h
      cases hu : numI s.data.toList with
      | none => rw [hu] at h; cases h
      | some u =>
        rw [hu] at h
        cases h
        have CU := Lib.hid (fun W (h : Env2 W) => parseNumber_some s W n hs h hu)
        rw [decide_eq_false (fun hc => hq (.inl hc))] at q1
        rw [decide_eq_false (fun hc => hq (.inr hc))] at q2
        have Q1 := Lib.hid q1
        have Q2 := Lib.hid q2
        clear q1 q2 hz hq hu
        go_enter Tryz.func79, Tryz.ntmps79
        go_wp2_with fail
        refine (Q1.out _).mono ?_
        rintro e w' ⟨rfl, rfl⟩
        go_wp2_with fail
        refine (Q2.out _).mono ?_
        rintro e w' ⟨rfl, rfl⟩
        go_wp2_with fail
        refine (CU.out _ ?_).mono ?_
        · exact (HE.out _ ((Below.refl _ _).alloc (Nat.le_refl _) _))
        rintro e w1 ⟨rfl, hb⟩
        have bx := box_of ((hb.block w.heap.size (by simp)).trans (box_new w _ _ _ _ _))
        obtain ⟨r0, r1, r2, r3, _, _, _, _⟩ := bx.set (.string ⟨#[]⟩) (.int .i64 1) (.int .i64 n) (.string ⟨#[]⟩)
        obtain ⟨c0, c1, c2, c3, f0, f1, f2, f3⟩ := bx
        have hb1 := ((Below.refl w.heap.size w).alloc (Nat.le_refl _) _).trans (hb.mono (by simp))
        have hb2 := Box.belowSet hb1 (Nat.le_refl _) (.string ⟨#[]⟩) (.int .i64 1) (.int .i64 n) (.string ⟨#[]⟩)
        clear hb
        go_wp2_with fail
        exact bodyPost_ret (v := .tuple #[.agg #[.string ⟨#[]⟩, .int .i64 1, .int .i64 n, .string ⟨#[]⟩], .bool true]) (by simp [results, Tryz.f79, go_sem, r0, r1, r2, r3]) rfl ⟨rfl, hb2⟩

set_option maxRecDepth 100000 in
set_option maxHeartbeats 2000000 in
theorem parseValue_none (s : ByteArray) (w : World) (hs : s.size ≤ 100000) (hE : Env2 w) (h : vV s.data.toList = none) :
    Calls Tryz.prog 79 #[.string s] w (NoVal w) := by
  have HE := Lib.hid (fun W (h : Below w.heap.size w W) => hE.below h)
  have FIN : Hid (∀ (c : ByteArray) (k m : Int) (d : ByteArray) (w' : World), Below w.heap.size w w' → NoVal w (.returned (.tuple #[.agg #[.string c, .int .i64 k, .int .i64 m, .string d], .bool false])) w') := Lib.hid (fun c k m d w' h => ⟨c, k, m, d, rfl, h⟩)
  have hnb := null_beq s
  have q1 := fun W => Tryz.strings_HasPrefix s ⟨#[34]⟩ W
  have q2 := fun W => Tryz.strings_HasPrefix s ⟨#[120]⟩ W
  have e1 : (⟨#[34]⟩ : ByteArray).data.toList = [34] := rfl
  have e2 : (⟨#[120]⟩ : ByteArray).data.toList = [120] := rfl
  rw [e1, pre1] at q1
  rw [e2, pre1] at q2
  clear hE e1 e2
  unfold vV at h
  by_cases hz : s.data.toList = nullL
  · rw [if_pos hz] at h
    cases h
  · rw [if_neg hz] at h
    rw [decide_eq_false hz] at hnb
    by_cases hq : s.data.toList.head? = some 34 ∨ s.data.toList.head? = some 120
    · rw [if_pos hq] at h
      have hu : unqO s.data.toList = none := by
        cases hu : unqO s.data.toList with
        | none => rfl
        | some u => rw [hu] at h; cases h
      have CU := Lib.hid (fun W (h : Env W) => unquote_none s W (by unfold maxLen; omega) h.hex h.pos hu)
      have hd1 : decide (s.data.toList.head? = some 34) = true ∨ (decide (s.data.toList.head? = some 34) = false ∧ decide (s.data.toList.head? = some 120) = true) := by
        by_cases h34 : s.data.toList.head? = some 34
        · exact .inl (decide_eq_true h34)
        · exact .inr ⟨decide_eq_false h34, decide_eq_true (by rcases hq with hq | hq; exact absurd hq h34; exact hq)⟩
      generalize decide (s.data.toList.head? = some 34) = b1 at *
      generalize decide (s.data.toList.head? = some 120) = b2 at *
      have Q1 := Lib.hid q1
      have Q2 := Lib.hid q2
      clear q1 q2 hz hq hu h
      rcases hd1 with rfl | ⟨rfl, rfl⟩
      · go_enter Tryz.func79, Tryz.ntmps79
        go_wp2_with fail
        refine (Q1.out _).mono ?_
        rintro e w' ⟨rfl, rfl⟩
        go_wp2_with fail
        refine (CU.out _ ?_).mono ?_
        · exact (HE.out _ ((Below.refl _ _).alloc (Nat.le_refl _) _)).env
        rintro e w1 ⟨t, rfl, hb⟩
        have bx := box_of ((hb.block w.heap.size (by simp)).trans (box_new w _ _ _ _ _))
        obtain ⟨r0, r1, r2, r3, _, _, _, _⟩ := bx.set (.string ⟨#[]⟩) (.int .i64 2) (.int .i64 0) (.string t)
        obtain ⟨c0, c1, c2, c3, f0, f1, f2, f3⟩ := bx
        have hb1 := ((Below.refl w.heap.size w).alloc (Nat.le_refl _) _).trans (hb.mono (by simp))
        have hb2 := Box.belowSet hb1 (Nat.le_refl _) (.string ⟨#[]⟩) (.int .i64 2) (.int .i64 0) (.string t)
        clear hb
        go_wp2_with fail
        exact bodyPost_ret (v := .tuple #[.agg #[.string ⟨#[]⟩, .int .i64 2, .int .i64 0, .string t], .bool false]) (by simp [results, Tryz.f79, go_sem, r0, r1, r2, r3]) rfl (FIN.out _ _ _ _ _ hb2)
      · go_enter Tryz.func79, Tryz.ntmps79
        go_wp2_with fail
        refine (Q1.out _).mono ?_
        rintro e w' ⟨rfl, rfl⟩
        go_wp2_with fail
        refine (Q2.out _).mono ?_
        rintro e w' ⟨rfl, rfl⟩
        go_wp2_with fail
        refine (CU.out _ ?_).mono ?_
        · exact (HE.out _ ((Below.refl _ _).alloc (Nat.le_refl _) _)).env
        rintro e w1 ⟨t, rfl, hb⟩
        have bx := box_of ((hb.block w.heap.size (by simp)).trans (box_new w _ _ _ _ _))
        obtain ⟨r0, r1, r2, r3, _, _, _, _⟩ := bx.set (.string ⟨#[]⟩) (.int .i64 2) (.int .i64 0) (.string t)
        obtain ⟨c0, c1, c2, c3, f0, f1, f2, f3⟩ := bx
        have hb1 := ((Below.refl w.heap.size w).alloc (Nat.le_refl _) _).trans (hb.mono (by simp))
        have hb2 := Box.belowSet hb1 (Nat.le_refl _) (.string ⟨#[]⟩) (.int .i64 2) (.int .i64 0) (.string t)
        clear hb
        go_wp2_with fail
        exact bodyPost_ret (v := .tuple #[.agg #[.string ⟨#[]⟩, .int .i64 2, .int .i64 0, .string t], .bool false]) (by simp [results, Tryz.f79, go_sem, r0, r1, r2, r3]) rfl (FIN.out _ _ _ _ _ hb2)
    · rw [if_neg hq] at h
      have hu : numI s.data.toList = none := by
        cases hu : numI s.data.toList with
        | none => rfl
        | some u => rw [hu] at h; cases h
      have CU := Lib.hid (fun W (h : Env2 W) => parseNumber_none s W hs h hu)
      rw [decide_eq_false (fun hc => hq (.inl hc))] at q1
      rw [decide_eq_false (fun hc => hq (.inr hc))] at q2
      have Q1 := Lib.hid q1
      have Q2 := Lib.hid q2
      clear q1 q2 hz hq hu h
      go_enter Tryz.func79, Tryz.ntmps79
      go_wp2_with fail
      refine (Q1.out _).mono ?_
      rintro e w' ⟨rfl, rfl⟩
      go_wp2_with fail
      refine (Q2.out _).mono ?_
      rintro e w' ⟨rfl, rfl⟩
      go_wp2_with fail
      refine (CU.out _ ?_).mono ?_
      · exact (HE.out _ ((Below.refl _ _).alloc (Nat.le_refl _) _))
      rintro e w1 ⟨m, rfl, hb⟩
      have bx := box_of ((hb.block w.heap.size (by simp)).trans (box_new w _ _ _ _ _))
      obtain ⟨r0, r1, r2, r3, _, _, _, _⟩ := bx.set (.string ⟨#[]⟩) (.int .i64 1) (.int .i64 m) (.string ⟨#[]⟩)
      obtain ⟨c0, c1, c2, c3, f0, f1, f2, f3⟩ := bx
      have hb1 := ((Below.refl w.heap.size w).alloc (Nat.le_refl _) _).trans (hb.mono (by simp))
      have hb2 := Box.belowSet hb1 (Nat.le_refl _) (.string ⟨#[]⟩) (.int .i64 1) (.int .i64 m) (.string ⟨#[]⟩)
      clear hb
      go_wp2_with fail
      exact bodyPost_ret (v := .tuple #[.agg #[.string ⟨#[]⟩, .int .i64 1, .int .i64 m, .string ⟨#[]⟩], .bool false]) (by simp [results, Tryz.f79, go_sem, r0, r1, r2, r3]) rfl (FIN.out _ _ _ _ _ hb2)
end Go.Proofs.YtdndngabddnpmaaGreatDoor.vl
