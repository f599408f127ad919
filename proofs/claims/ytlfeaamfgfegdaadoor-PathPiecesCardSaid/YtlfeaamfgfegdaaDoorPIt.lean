/-
  The iterators of package path: piecesOf hands over the pieces of a text, in order.
-/
import Derived.Test.YtlfeaamfgfegdaaDoorPSp
import Derived.Test.YtlfeaamfgfegdaaDoorSplit2
import Derived.Laws.EntriesVeiled
import Derived.Maps.OwnIn
namespace Go.Proofs.YtlfeaamfgfegdaaDoor.pt
open Go.RowKit Go.Shelf Go.Proofs.YtlfeaamfgfegdaaDoor.cm Go.Proofs.YtlfeaamfgfegdaaDoor.rg
attribute [local go_sem] Oper.semAt_some

theorem RoundIn.inRound {F : Fence} {n : Nat} {P : Program} {l : Nat} {f : FuncId} {tmps : Array Value} {assign body : Code} {w : World} {R : Ending → World → Prop} (l' : Nat) (h : RoundIn F n P l f tmps assign body w R) : RoundIn (F.inRound l') n P l f tmps assign body w R := h
theorem pre_filter {xs pre : List ByteArray} {x : ByteArray} (h : (pre ++ [x]) <+: xs) (hx : neB x = true) : (pre.filter neB ++ [x]) <+: xs.filter neB := by
  obtain ⟨t, rfl⟩ := h
  refine ⟨t.filter neB, ?_⟩
  simp [List.filter_append, hx]
theorem filter_snoc_yes {pre : List ByteArray} {x : ByteArray} (hx : neB x = true) : (pre ++ [x]).filter neB = pre.filter neB ++ [x] := by simp [List.filter_append, hx]
theorem filter_snoc_no {pre : List ByteArray} {x : ByteArray} (hx : neB x = false) : (pre ++ [x]).filter neB = pre.filter neB := by simp [List.filter_append, hx]
theorem pre_filter_pre {xs pre : List ByteArray} (h : pre <+: xs) : pre.filter neB <+: xs.filter neB := by
  obtain ⟨t, rfl⟩ := h
  exact ⟨t.filter neB, by simp [List.filter_append]⟩
theorem newAt {w : World} {n : Nat} {t : TypeId} {v : Value} (h : w.heap.size = n) : Boxed (w.alloc (.cells #[v] t)) n t v := by subst h; exact Boxed.new w t v

theorem ne_test {x : ByteArray} (h : neB x = true) : (x.toList == []) = false := by
  rw [eq_test]
  unfold neB at h
  cases hl : x.data.toList with
  | nil => rw [hl] at h; cases h
  | cons _ _ => rfl
theorem nil_test {x : ByteArray} (h : neB x = false) : (x.toList == []) = true := by
  rw [eq_test]
  unfold neB at h
  cases hl : x.data.toList with
  | nil => rfl
  | cons _ _ => rw [hl] at h; cases h

set_option maxHeartbeats 4000000 in
set_option maxRecDepth 100000 in
theorem pieces_iter (s : ByteArray) (hs : s.size ≤ 100000) (bs : Nat) (w : World) (x0 : Boxed w bs 9 (.string s)) :
    Iter2 Fence.wide Tryd.prog 45 #[.pointer (some ⟨bs, 0, none⟩)] (fun _ => False) (fun x : ByteArray => #[.string x])
      (fun xs => xs = piecesB s) (fun pre => pre <+: piecesB s) (fun pre x => (pre ++ [x]) <+: piecesB s) w := by
  intro l J Jx W hW hJ hJx hY h0 n
  have y0 : Boxed W bs 9 (.string s) := (hW.block bs x0.lt).trans x0
  have c0 := (y0.alloc (.cells #[.func (.yield l) #[] #[]] 23)).cell
  have hlt := y0.lt
  refine callsIn_of_wp_marks Tryd.func45 rfl trivial ?_ rfl
  simp only [Tryd.ntmps45, List.size_toArray, List.length_cons, List.length_nil, Nat.reduceAdd, Nat.reduceSub, Array.replicate_succ, Array.replicate_zero, List.push_toArray, List.append_toArray, List.nil_append, List.cons_append]
  gi_wp2_with fail
  refine ⟨trivial, (fun h => by cases h), (callsIn_wide.2 (seq_any 47 s _)).mono ?_⟩
  rintro e w1 ⟨rfl, hw1⟩
  have z0 : Boxed w1 W.heap.size 23 (.func (.yield l) #[] #[]) := by rw [hw1]; exact (((Boxed.new W _ _).alloc _).alloc _).alloc _
  have z1 : Boxed w1 (W.heap.size + 1) 9 (.string s) := by rw [hw1]; exact ((newAt (by simp)).alloc _).alloc _
  have z2 : Boxed w1 (W.heap.size + 1 + 1) 9 (.string ⟨#[47]⟩) := by rw [hw1]; exact (newAt (by simp)).alloc _
  have z3 : Boxed w1 (W.heap.size + 1 + 2) 3 (.int .i64 0) := by rw [hw1]; exact newAt (by simp)
  have hb : Below W.heap.size W w1 := by
    rw [hw1]
    exact ((((Below.refl _ W).alloc (Nat.le_refl _) _).alloc (by simp) _).alloc (by simp; omega) _).alloc (by simp; omega) _
  have hsz : w1.heap.size = W.heap.size + 4 := by rw [hw1]; simp
  simp only [World.size_alloc]
  clear hw1
  generalize hN : W.heap.size = N at *
  have hJ1 : J (fun b => (b = N + 1 + 1 ∨ b = N + 1 ∨ b = N + 1 + 2) ∨ b = N) [] w1 := hJ _ _ _ _ _ h0 (.of_below (by rw [hN]; exact hb)) (fun b hb => .inr (by rw [hN]; omega))
  have ow : ∀ {own own' : Nat → Prop} {W W' : World}, (∀ b, own' b → own b ∨ (W.heap.size ≤ b ∧ b < W'.heap.size)) → ∀ b, (own' b ∨ b = N) → (own b ∨ b = N) ∨ (W.heap.size ≤ b ∧ b < W'.heap.size) := fun h b hb => by
    rcases hb with hb | hb
    · rcases h b hb with h | h
      · exact .inl (.inl h)
      · exact .inr h
    · exact .inl (.inr hb)
  gi_wp2_with fail
  refine range_iter2 rfl rfl (gf := 52)
    (lb := #[.pointer (some ⟨N + 1 + 1, 0, none⟩), .pointer (some ⟨N + 1, 0, none⟩), .pointer (some ⟨N + 1 + 2, 0, none⟩)]) rfl trivial (enters_of Tryd.func52 (by kernel_rfl) rfl)
    (split_iter2 47 s hs _ _ _ (by omega) (by omega) w1 z2 z1 z3) (fun b hb => by rcases hb with h | h | h <;> omega) (Below.refl _ _) (fun _ => rfl)
    (fun own pre W' => J (fun b => own b ∨ b = N) (pre.filter neB) W' ∧ Boxed W' N 23 (.func (.yield l) #[] #[]) ∧ ¬ own N)
    (fun c own pre W' => c = .ret ∧ Jx (fun b => own b ∨ b = N) (pre.filter neB) W')
    ?bears ?bearsx ⟨hJ1, z0, fun h => by rcases h with h | h | h <;> omega⟩ ?a1 5 ?assign ?body ?done ?stop
  case bears =>
    intro own own' pre V V' ⟨h1, h2, h3⟩ hsp hg
    refine ⟨hJ _ _ _ _ _ h1 (hsp.mono fun _ => .inl) (ow hg), hsp.box h3 h2, fun h => ?_⟩
    rcases hg _ h with h | ⟨h, _⟩
    · exact h3 h
    · have := h2.lt; omega
  case bearsx =>
    intro c own own' pre V V' ⟨h1, h2⟩ hsp hg
    exact ⟨h1, hJx _ _ _ _ _ h2 (hsp.mono fun _ => .inl) (ow hg)⟩
  case assign =>
    intro l' x V K hK
    gi_wp2
    exact hK
  case body =>
    rintro l' own pre x V ⟨h1, h2, h3⟩ hG
    have d0 := h2.cell
    cases hx : neB x
    · have t1 := str_eq_true (nil_test hx)
      have HX := Lib.hid hx
      clear hx
      subst t1
      gi_wp2_with fail
      all_goals
        refine ⟨fun _ _ => trivial, ?_⟩
        gi_wp2_with fail
        refine ⟨Keeps.refl _ _, ?_, h2, h3⟩
        show J _ ((pre ++ [_]).filter neB) _
        rw [filter_snoc_no HX.out]
        exact h1
    · have t1 := ne_test hx
      have HX := Lib.hid hx
      obtain ⟨fn, tmps, assign, body, hy, hR⟩ := hY 4 _ _ x V h1 (by unfold piecesB; exact pre_filter hG hx)
      clear hx
      gi_wp2_with fail
      refine (RoundIn.inRound l' hR).mono ?_
      rintro e V' ⟨hkp, (⟨rfl, hJ'⟩ | ⟨rfl, hJx'⟩)⟩
      · gi_wp2_with fail
        refine ⟨hkp.mono fun _ => .inl, ?_, hkp.box (.inr rfl) h2, h3⟩
        show J _ ((pre ++ [_]).filter neB) _
        rw [filter_snoc_yes HX.out]
        exact hJ'
      · gi_wp2_with fail
        refine ⟨hkp.mono fun _ => .inl, rfl, ?_⟩
        show Jx _ ((pre ++ [_]).filter neB) _
        rw [filter_snoc_yes HX.out]
        exact hJx'
  case done =>
    rintro D own xs V hD rfl ⟨h1, h2, h3⟩ hK
    gi_wp2_with fail
    refine ⟨by simp, .inl ⟨_, _, rfl, run_takeDeferred hK, ?_⟩⟩
    exact ⟨_, results_none rfl _ _ _, ⟨_, rfl⟩, fun b => own b ∨ b = N, .inl ⟨_, rfl, hJ _ _ _ _ _ h1 (.putObj _ (.inl hD) _) (fun b hb => .inl hb)⟩⟩
  case stop =>
    rintro D own c pre V hD hS ⟨rfl, h1⟩ hK
    gi_wp2_with fail
    refine ⟨by simp, .inl ⟨_, _, rfl, run_takeDeferred hK, ?_⟩⟩
    exact ⟨_, results_none rfl _ _ _, ⟨_, rfl⟩, fun b => own b ∨ b = N, .inr ⟨_, pre_filter_pre hS, hJx _ _ _ _ _ h1 (.putObj _ (.inl hD) _) (fun b hb => .inl hb)⟩⟩
end Go.Proofs.YtlfeaamfgfegdaaDoor.pt
