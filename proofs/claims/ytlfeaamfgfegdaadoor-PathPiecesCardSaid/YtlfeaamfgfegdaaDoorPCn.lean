/-
  Clean of package path.
-/
import Derived.Test.YtlfeaamfgfegdaaDoorPCl
namespace Go.Proofs.YtlfeaamfgfegdaaDoor.pt
open Go.RowKit Go.Shelf Go.Proofs.YtlfeaamfgfegdaaDoor.cm Go.Proofs.YtlfeaamfgfegdaaDoor.rg
attribute [local go_sem] Oper.semAt_some

def cleanS (s : ByteArray) : Bool := cleanL s.data.toList
def bs (l : List UInt8) : ByteArray := ⟨l.toArray⟩
theorem bs_data (l : List UInt8) : (bs l).data.toList = l := by unfold bs; simp

/-- between two rounds of Clean -/
def ClI (N : Nat) (w : World) (own : Nat → Prop) (pre : List ByteArray) (W : World) : Prop :=
  Boxed W N 4 (.bool false) ∧ (∀ x ∈ pre, nameS x = true) ∧ Below N w W ∧ ¬ own N ∧ ∀ b, own b → N ≤ b
def ClX (N : Nat) (w : World) (c : Code) (own : Nat → Prop) (pre : List ByteArray) (W : World) : Prop :=
  c = .ret ∧ Boxed W N 4 (.bool false) ∧ (∃ x ∈ pre, nameS x = false) ∧ Below N w W ∧ ¬ own N ∧ ∀ b, own b → N ≤ b
theorem not_grown {own own' : Nat → Prop} {V V' : World} {N : Nat} (hg : ∀ b, own' b → own b ∨ (V.heap.size ≤ b ∧ b < V'.heap.size)) (h : ¬ own N) (hN : N < V.heap.size) : ¬ own' N := fun h' => by
  rcases hg _ h' with h'' | ⟨h'', _⟩
  · exact h h''
  · omega
theorem from_grown {own own' : Nat → Prop} {V V' : World} {N : Nat} (hg : ∀ b, own' b → own b ∨ (V.heap.size ≤ b ∧ b < V'.heap.size)) (h : ∀ b, own b → N ≤ b) (hN : N ≤ V.heap.size) : ∀ b, own' b → N ≤ b := fun b hb => by
  rcases hg _ hb with h'' | ⟨h'', _⟩
  · exact h b h''
  · omega
theorem cli_bears (N : Nat) (w : World) : Bears2 (ClI N w) := by
  rintro own own' pre V V' ⟨h1, h2, h3, h4, h5⟩ hs hg
  have hN := h1.lt
  exact ⟨hs.box h4 h1, h2, h3.trans (hs.below (by omega) h5), not_grown hg h4 hN, from_grown hg h5 (by omega)⟩
theorem clx_bears (N : Nat) (w : World) (c : Code) : Bears2 (ClX N w c) := by
  rintro own own' pre V V' ⟨h0, h1, h2, h3, h4, h5⟩ hs hg
  have hN := h1.lt
  exact ⟨h0, hs.box h4 h1, h2, h3.trans (hs.below (by omega) h5), not_grown hg h4 hN, from_grown hg h5 (by omega)⟩

theorem names_list (r : List UInt8) : (cutB 47 (bs r)).all nameS = (cutAt 47 r).all nameL := by
  unfold cutB
  rw [List.all_map, bs_data]
  congr 1
theorem clean_slash {s : ByteArray} {r : List UInt8} (h : s.data.toList = 47 :: r) (h1 : (s.toList == [47]) = false) : cleanS s = (cutB 47 (bs r)).all nameS := by
  rw [eq_test] at h1
  unfold cleanS cleanL
  rw [h1, h, names_list]; rfl

set_option maxHeartbeats 4000000 in
set_option maxRecDepth 100000 in
theorem Clean_core (s : ByteArray) (r : List UInt8) (w : World) (hs : s.size ≤ 100000) (h1 : (s.toList == [47]) = false) (hr : s.data.toList = 47 :: r) :
    Calls Tryd.prog 24 #[.string s] w fun e w' => e = .returned (.bool (cleanS s)) ∧ Below w.heap.size w w' := by
  have hx0 : (bs r).size ≤ 100000 := by
    have e1 := Lib.size_eq s
    have e2 := Lib.size_eq (bs r)
    rw [hr, List.length_cons] at e1
    rw [bs_data] at e2
    omega
  have CP := Tryd.strings_CutPrefix s ⟨#[47]⟩
  rw [show (⟨#[47]⟩ : ByteArray).data.toList = [47] from rfl, hr, show (47 : UInt8) :: r = [47] ++ r from rfl, trim_app, show Lib.hasPrefix ([47] ++ r) [47] = true from (has_iff _ _).2 ⟨r, rfl⟩, show (⟨r.toArray⟩ : ByteArray) = bs r from rfl] at CP
  have HC := Lib.hid (clean_slash hr h1)
  have CP := Lib.hid CP
  clear hr
  generalize bs r = x0 at *
  refine (callsIn_wide (n := 6)).1 ?_
  refine callsIn_of_wp_marks Tryd.func24 rfl trivial ?_ rfl
  simp only [Tryd.ntmps24, List.size_toArray, List.length_cons, List.length_nil, Nat.reduceAdd, Nat.reduceSub, Array.replicate_succ, Array.replicate_zero, List.push_toArray, List.append_toArray, List.nil_append, List.cons_append]
  gi_wp2_with fail
  refine ⟨trivial, (callsIn_wide.2 (CP.out _)).mono ?_⟩
  rintro e w1 ⟨rfl, rfl⟩
  gi_wp2_with fail
  refine ⟨trivial, (callsIn_wide.2 (seq_any 47 x0 _)).mono ?_⟩
  rintro e w1 ⟨rfl, hw1⟩
  have p0 : Boxed w1 w.heap.size 4 (.bool false) := by rw [hw1]; exact (((newAt rfl).alloc _).alloc _).alloc _
  have p1 : Boxed w1 (w.heap.size + 1) 9 (.string x0) := by rw [hw1]; exact ((newAt (by simp)).alloc _).alloc _
  have p2 : Boxed w1 (w.heap.size + 1 + 1) 9 (.string ⟨#[47]⟩) := by rw [hw1]; exact (newAt (by simp)).alloc _
  have p3 : Boxed w1 (w.heap.size + 1 + 2) 3 (.int .i64 0) := by rw [hw1]; exact newAt (by simp)
  have hb : Below w.heap.size w w1 := by
    rw [hw1]
    exact ((((Below.refl _ w).alloc (Nat.le_refl _) _).alloc (by simp) _).alloc (by simp; omega) _).alloc (by simp; omega) _
  have hsz : w1.heap.size = w.heap.size + 4 := by rw [hw1]; simp
  simp only [World.size_alloc]
  clear hw1
  generalize hN : w.heap.size = N at *
  have HN := Lib.hid hN
  clear hN
  gi_wp2_with fail
  refine range_iter2 rfl rfl (gf := 52) (lb := #[.pointer (some ⟨N + 1 + 1, 0, none⟩), .pointer (some ⟨N + 1, 0, none⟩), .pointer (some ⟨N + 1 + 2, 0, none⟩)]) rfl trivial (enters_of Tryd.func52 (by kernel_rfl) rfl)
    (split_iter2 47 x0 hx0 _ _ _ (by omega) (by omega) w1 p2 p1 p3) (fun b hb => by rcases hb with h | h | h <;> omega) (Below.refl _ _) (fun _ => rfl)
    (ClI N w) (ClX N w) (cli_bears N w) (clx_bears N w) ⟨p0, fun x h => by simp at h, hb, fun h => by rcases h with h | h | h <;> omega, fun b h => by rcases h with h | h | h <;> omega⟩ ?a1 5 ?assign ?body ?done ?stop
  case assign =>
    intro l' x V K hK
    gi_wp2
    exact hK
  case body =>
    rintro l' own pre x V ⟨h1, h2, h3, h4, h5⟩ hG
    have CN := Name_any x V
    cases hn : nameS x
    · rw [hn] at CN
      have CN := Lib.hid CN
      have HX := Lib.hid hn
      clear p0 p1 p2 p3 hb hn
      gi_wp2_with fail
      refine ⟨trivial, (CallsIn.inRound l' (callsIn_wide.2 CN.out)).mono ?_⟩
      rintro e w2 ⟨rfl, hb2⟩
      have r0 : Boxed w2 N 4 (.bool false) := (hb2.block N h1.lt).trans h1
      have hlt := h1.lt
      have d0 := r0.cell
      have f0 := r0.frozen
      gi_wp2_with fail
      exact ⟨(Keeps.of_below hb2).trans (.setCell _ h4 _), rfl, r0.set _, ⟨x, by simp, HX.out⟩, (h3.trans (hb2.mono (by omega))).setCell (p := ⟨N, 0, none⟩) (Nat.le_refl _) _, h4, h5⟩
    · rw [hn] at CN
      have CN := Lib.hid CN
      have HX := Lib.hid hn
      clear p0 p1 p2 p3 hb hn
      gi_wp2_with fail
      refine ⟨trivial, (CallsIn.inRound l' (callsIn_wide.2 CN.out)).mono ?_⟩
      rintro e w2 ⟨rfl, hb2⟩
      have r0 : Boxed w2 N 4 (.bool false) := (hb2.block N h1.lt).trans h1
      have hlt := h1.lt
      gi_wp2_with fail
      refine ⟨.of_below hb2, r0, fun y hy => ?_, h3.trans (hb2.mono (by omega)), h4, h5⟩
      rcases List.mem_append.1 hy with hy | hy
      · exact h2 y hy
      · simp at hy; subst hy; exact HX.out
  case done =>
    rintro D own xs V hD rfl ⟨h1, h2, h3, h4, h5⟩ hK
    have d0 := h1.cell
    have f0 := h1.frozen
    have hlt := h1.lt
    have HB : Hid (cleanS s = true) := Lib.hid (by rw [HC.out, List.all_eq_true]; exact h2)
    have hDN : D ≠ N := fun e => h4 (by rw [← e]; exact hD)
    have hK' : (V.setCell ⟨N, 0, none⟩ (.bool true)).heap[D]? = some (.deferred (some [])) := (Below.heap_setCell V ⟨N, 0, none⟩ _ D hDN).trans hK
    have r0 : ((V.setCell ⟨N, 0, none⟩ (.bool true)).putObj D (.deferred none)).cell? ⟨N, 0, none⟩ = some (.bool true) := by
      have hb : Boxed ((V.setCell ⟨N, 0, none⟩ (.bool true)).putObj D (.deferred none)) N 4 (.bool true) := (World.putObj_heap_other (fun e => hDN e.symm)).trans (Boxed.set (.bool true) h1)
      exact hb.cell
    have hbel : Below N w ((V.setCell ⟨N, 0, none⟩ (.bool true)).putObj D (.deferred none)) :=
      (h3.setCell (p := ⟨N, 0, none⟩) (Nat.le_refl _) _).trans ((Spares.putObj (own := own) (V.setCell ⟨N, 0, none⟩ (.bool true)) hD (.deferred none)).below (by simp; omega) h5)
    clear p0 p1 p2 p3 hb
    gi_wp2_with fail
    refine ⟨by simp, .inl ⟨_, _, rfl, run_takeDeferred hK', ?_⟩⟩
    refine ⟨.bool true, ?_, ret_bool HB.out.symm, by rw [HN.out]; exact hbel⟩
    simp [results, Tryd.f24, go_sem, r0]
  case stop =>
    rintro D own c pre V hD hS ⟨rfl, h1, ⟨x, hx, hnx⟩, h3, h4, h5⟩ hK
    have HB : Hid (cleanS s = false) := Lib.hid (by
      rw [HC.out, List.all_eq_false]
      exact ⟨x, hS.subset hx, by rw [hnx]; decide⟩)
    have hDN : D ≠ N := fun e => h4 (by rw [← e]; exact hD)
    have hlt := h1.lt
    have r0 : (V.putObj D (.deferred none)).cell? ⟨N, 0, none⟩ = some (.bool false) := by
      have hb : Boxed (V.putObj D (.deferred none)) N 4 (.bool false) := (World.putObj_heap_other (fun e => hDN e.symm)).trans h1
      exact hb.cell
    have hbel : Below N w (V.putObj D (.deferred none)) := h3.trans ((Spares.putObj (own := own) V hD (.deferred none)).below (by omega) h5)
    clear p0 p1 p2 p3 hb
    gi_wp2_with fail
    refine ⟨by simp, .inl ⟨_, _, rfl, run_takeDeferred hK, ?_⟩⟩
    refine ⟨.bool false, ?_, ret_bool HB.out.symm, by rw [HN.out]; exact hbel⟩
    simp [results, Tryd.f24, go_sem, r0]

set_option maxHeartbeats 4000000 in
set_option maxRecDepth 100000 in
theorem Clean_any (s : ByteArray) (w : World) (hs : s.size ≤ 100000) :
    Calls Tryd.prog 24 #[.string s] w fun e w' => e = .returned (.bool (cleanS s)) ∧ Below w.heap.size w w' := by
  cases h1 : (s.toList == [47])
  · by_cases hr : ∃ r, s.data.toList = 47 :: r
    · obtain ⟨r, hr⟩ := hr
      exact Clean_core s r w hs h1 hr
    · have h2 : Lib.hasPrefix s.data.toList [47] = false := by
        rw [Bool.eq_false_iff]
        intro h
        obtain ⟨r, e⟩ := (has_iff _ _).1 h
        exact hr ⟨r, e.symm⟩
      have HB : Hid (cleanS s = false) := Lib.hid (by
        have h1' := h1
        rw [eq_test] at h1'
        unfold cleanS cleanL
        rw [h1', Bool.false_or]
        cases hl : s.data.toList with
        | nil => rfl
        | cons c r =>
          have hc : (c == 47) = false := beq_eq_false_iff_ne.2 (fun e => hr ⟨r, by rw [hl, e]⟩)
          show (c == 47 && _) = false
          rw [hc]; rfl)
      have CP := Tryd.strings_CutPrefix s ⟨#[47]⟩
      rw [show (⟨#[47]⟩ : ByteArray).data.toList = [47] from rfl, h2] at CP
      have CP := Lib.hid CP
      clear hr h2
      go_enter Tryd.func24, Tryd.ntmps24
      go_wp2_with fail
      refine (CP.out _).mono ?_
      rintro e w1 ⟨rfl, rfl⟩
      go_wp2_with fail
      exact bodyPost_ret (v := .bool false) (by simp [results, Tryd.f24, go_sem]) rfl ⟨ret_bool HB.out.symm, (Below.refl _ w).alloc (Nat.le_refl _) _⟩
  · have HB : Hid (cleanS s = true) := Lib.hid (by
      have h1' := h1
      rw [eq_test] at h1'
      unfold cleanS cleanL
      rw [h1']; rfl)
    go_enter Tryd.func24, Tryd.ntmps24
    go_wp2_with fail
    exact bodyPost_ret (v := .bool true) (by simp [results, Tryd.f24, go_sem]) rfl ⟨ret_bool HB.out.symm, ((Below.refl _ w).alloc (Nat.le_refl _) _)⟩
end Go.Proofs.YtlfeaamfgfegdaaDoor.pt
