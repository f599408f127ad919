/-
  Split and Clean of package path.
-/
import Derived.Test.YtlfeaamfgfegdaaDoorPIt
import Derived.Deep.AppendLies
import Derived.Deep.RegionHeld3
namespace Go.Proofs.YtlfeaamfgfegdaaDoor.pt
open Go.RowKit Go.Shelf Go.Proofs.YtlfeaamfgfegdaaDoor.cm Go.Proofs.YtlfeaamfgfegdaaDoor.rg
attribute [local go_sem] Oper.semAt_some

theorem own_spares {own : Nat → Prop} {W W' : World} {B T z n : Nat} {v : Value} {xs : List Value} (h : W.ownsRow B T z v n xs) (hs : Spares own W W') (hn : ∀ g, v.ownBlock = some g → ¬ own g) : W'.ownsRow B T z v n xs := by
  refine ⟨h.1, ?_⟩
  rcases h.2 with hn' | ⟨g, c, cur, h1, h2, h3, h4⟩
  · exact .inl hn'
  · exact .inr ⟨g, c, cur, h1, h2, (hs.block g (Array.getElem?_eq_some_iff.1 h3).1 (hn g (by rw [h1]; rfl))).trans h3, h4⟩

theorem own_base {W : World} {B B' T z n : Nat} {v : Value} {xs : List Value} (h : W.ownsRow B T z v n xs) (hB : B' ≤ B) : W.ownsRow B' T z v n xs := by
  refine ⟨h.1, ?_⟩
  rcases h.2 with hn | ⟨g, c, cur, h1, h2, h3⟩
  · exact .inl hn
  · exact .inr ⟨g, c, cur, h1, Nat.le_trans hB h2, h3⟩
theorem prefix_starts (l : List UInt8) : Lib.hasPrefix l [47] = startsL l := by
  unfold startsL
  rw [Bool.eq_iff_iff, has_iff, beq_iff_eq]
  constructor
  · rintro ⟨r, rfl⟩; rfl
  · intro h
    cases l with
    | nil => cases h
    | cons c r => simp at h; subst h; exact ⟨r, rfl⟩

theorem piecesOf_any (s : ByteArray) (w : World) :
    Calls Tryd.prog 37 #[.string s] w fun e w' => e = .returned (.func (.func 45) #[] #[.pointer (some ⟨w.heap.size, 0, none⟩)]) ∧ w' = w.alloc (.cells #[.string s] 9) := by
  go_enter Tryd.func37, Tryd.ntmps37
  go_wp2
  go_ret
  exact ⟨rfl, rfl⟩

/-- between two rounds of Split -/
def SpI (N : Nat) (w : World) (own : Nat → Prop) (pre : List ByteArray) (W : World) : Prop :=
  ∃ v, Boxed W N 34 v ∧ OwnStrs (N + 1) W v pre ∧ Below N w W ∧ ¬ own N ∧ (∀ g, v.ownBlock = some g → ¬ own g) ∧ (∀ b, own b → N ≤ b ∧ b < W.heap.size) ∧ N + 2 ≤ W.heap.size
theorem spi_bears (N : Nat) (w : World) : Bears2 (SpI N w) := by
  rintro own own' pre V V' ⟨v, h1, h2, h3, h4, h5, h6, h7⟩ hs hg
  have hN := h1.lt
  have hz := hs.size
  refine ⟨v, hs.box h4 h1, own_spares h2 hs h5, h3.trans (hs.below (by omega) fun b hb => (h6 b hb).1), fun h => ?_, fun g hv h => ?_, fun b h => ?_, by omega⟩
  · rcases hg _ h with h | ⟨h, _⟩
    · exact h4 h
    · omega
  · rcases hg _ h with h | ⟨h, _⟩
    · exact h5 g hv h
    · have := (h2.lt g hv).2; omega
  · rcases hg _ h with h | ⟨h, h'⟩
    · have := h6 b h; omega
    · omega

theorem cutAt_count (c : UInt8) : ∀ l : List UInt8, (cutAt c l).length ≤ l.length + 1
  | [] => by simp [cutAt]
  | x :: r => by
    have ih := cutAt_count c r
    rw [cutAt_cons]
    split
    · simp; omega
    · cases hq : cutAt c r with
      | nil => simp [push]
      | cons q qs => rw [hq] at ih; simp [push] at ih ⊢; omega

set_option maxHeartbeats 4000000 in
set_option maxRecDepth 100000 in
theorem Split_any (s : ByteArray) (w : World) (hs : s.size ≤ 100000) :
    Calls Tryd.prog 23 #[.string s] w (SplitR s w) := by
  obtain ⟨i0, hi, hz0, hz1, hz2⟩ := info_parts infoStr
  have CP := Tryd.strings_HasPrefix s ⟨#[47]⟩
  have CS := fun W => Tryd.strings_HasSuffix s ⟨#[47]⟩ W (by omega)
  rw [show (⟨#[47]⟩ : ByteArray).data.toList = [47] from rfl] at CP CS
  rw [suffix_ends] at CS
  have FIN : Hid (∀ (v : Value) (b1 b2 : Bool) (W : World), startsL s.data.toList = b1 → endsL s.data.toList = b2 → OwnStrs w.heap.size W v (piecesB s) → Below w.heap.size w W → SplitR s w (.returned (.tuple #[v, .bool b1, .bool b2])) W) :=
    Lib.hid (fun v b1 b2 W h2 h3 h4 h5 => by subst h2; subst h3; exact ⟨v, rfl, h4, h5⟩)
  generalize hb2 : endsL s.data.toList = b2 at CS
  generalize hb1 : Lib.hasPrefix s.data.toList [47] = b1 at CP
  have HB2 := Lib.hid hb2
  have HB1 := Lib.hid hb1
  have CP := Lib.hid CP
  have CS := Lib.hid CS
  clear hb1 hb2
  refine (callsIn_wide (n := 6)).1 ?_
  refine callsIn_of_wp_marks Tryd.func23 rfl trivial ?_ rfl
  simp only [Tryd.ntmps23, List.size_toArray, List.length_cons, List.length_nil, Nat.reduceAdd, Nat.reduceSub, Array.replicate_succ, Array.replicate_zero, List.push_toArray, List.append_toArray, List.nil_append, List.cons_append]
  gi_wp2_with fail
  refine ⟨trivial, (callsIn_wide.2 (piecesOf_any s _)).mono ?_⟩
  rintro e w1 ⟨rfl, hw1⟩
  have p0 : Boxed w1 w.heap.size 34 (.slice none 0 0) := by rw [hw1]; exact (newAt rfl).alloc _
  have p1 : Boxed w1 (w.heap.size + 1) 9 (.string s) := by rw [hw1]; exact newAt (by simp)
  have hsz : w1.heap.size = w.heap.size + 2 := by rw [hw1]; simp
  have hb : Below w.heap.size w w1 := by
    rw [hw1]
    exact ((Below.refl _ w).alloc (Nat.le_refl _) _).alloc (by simp) _
  simp only [World.size_alloc]
  clear hw1
  generalize hN : w.heap.size = N at *
  clear hN
  gi_wp2_with fail
  refine range_iter2 rfl rfl (gf := 45) (lb := #[.pointer (some ⟨N + 1, 0, none⟩)]) rfl trivial (enters_of Tryd.func45 (by kernel_rfl) rfl)
    (pieces_iter s hs _ w1 p1) (fun b hb => hb.elim) (Below.refl _ _) (fun _ => rfl)
    (SpI N w) (fun _ _ _ _ => False) (spi_bears N w) (fun _ _ _ _ _ _ h _ _ => h) ⟨_, p0, World.ownsRow_nil _ _ _ _, hb, fun h => h, fun _ h => by simp [Value.ownBlock] at h, fun _ h => h.elim, by omega⟩ ?a1 5 ?assign ?body ?done ?stop
  case assign =>
    intro l' x V K hK
    gi_wp2
    exact hK
  case body =>
    rintro l' own pre x V ⟨v, h1, h2, h3, h4, h5, h6, h7⟩ hG
    have d0 := h1.cell
    have f0 := h1.frozen
    have hlt := h1.lt
    have hcnt : pre.length ≤ 100001 := by
      have e1 := hG.length_le
      have e2 : (piecesB s).length ≤ s.size + 1 := Nat.le_trans (List.length_filter_le _ _) (by
        unfold cutB
        rw [List.length_map, Lib.size_eq]
        exact cutAt_count 47 _)
      simp at e1
      omega
    clear p0 p1 hb
    gi_wp2_with (first
      | (gi_at_builtin; refine wpListIn_append_own_at (F := Fence.wide.inRound l') _ rfl _ _ 34 rfl (N + 1) 9 i0 (.string ⟨#[]⟩) 1 16 Tryd.underlying34 hi hz0 hz1 hz2 rfl (by decide) _ _ _ rfl (h2.alloc _) ⟨V.heap.size, 0, none⟩ 1 1 [.string x] rfl rfl ?c1 ?c2 ?c3 ?c4 ?c5 ?_)
      | fail)
    case c1 =>
      intro j u hj
      match j, hj with
      | 0, hj => simp at hj; subst hj; simp [Addr.add]
    case c2 => intro u hu; simp at hu; subst hu; rfl
    case c3 => unfold maxLen; omega
    case c4 => omega
    case c5 => simp; omega
    intro v' w3 own3 hgrow _ hat
    obtain ⟨g3, cap3, rfl, -, -⟩ := World.ownsRow.form own3 (by omega)
    have hz3 := hgrow.size
    simp only [World.size_alloc] at hz3
    have hNv : v.ownBlock ≠ some N := fun e => by have := (h2.lt N e).1; omega
    have bl : ∀ k, k < V.heap.size → v.ownBlock ≠ some k → w3.heap[k]? = V.heap[k]? := fun k hk hne => (hgrow.block k (by simp; omega) (fun e => hne e.symm)).trans (Below.heap_alloc _ _ k hk)
    have b3 : Boxed w3 N 34 v := (bl N hlt hNv).trans h1
    have d3 := b3.cell
    have f3 := b3.frozen
    have hB3 : Below N w w3 := h3.trans ⟨hgrow.os, hgrow.tape, hgrow.output, by omega, fun k hk => bl k (by omega) (fun e => by have := (h2.lt k e).1; omega)⟩
    gi_wp2_with fail
    refine ⟨⟨by simp; omega, fun k hk ho => ?_⟩, _, b3.set _, ?_, hB3.setCell (p := ⟨N, 0, none⟩) (Nat.le_refl _) _, h4, fun g hg ho => ?_, fun b hb => ?_, by simp; omega⟩
    · have hk' : k ≠ N := fun e => h4 (by rw [← e]; exact ho)
      exact (Below.heap_setCell w3 ⟨N, 0, none⟩ _ k hk').trans (bl k hk (fun e => h5 k e ho))
    · unfold OwnStrs
      rw [List.map_append, List.length_append]
      exact ownsRow_setCell_below own3 (a := ⟨N, 0, none⟩) (by show N < N + 1; omega) _
    · rcases hat with hat | hat
      · exact h5 g (by rw [← hat]; exact hg) ho
      · rw [hat] at hg
        have := (h6 g ho).2
        simp at hg
        omega
    · have := h6 b hb
      simp; omega
  case done =>
    rintro D own xs V hD rfl ⟨v, h1, h2, h3, h4, h5, h6, h7⟩ hK
    have d0 := h1.cell
    have f0 := h1.frozen
    obtain ⟨vo, vn, vc, rfl⟩ : ∃ vo vn vc, v = .slice vo vn vc := by
      rcases h2.2 with ⟨hv, _⟩ | ⟨g, c, cur, hv, _⟩
      · exact ⟨_, _, _, hv⟩
      · exact ⟨_, _, _, hv⟩
    gi_wp2_with fail
    refine wpIn_wide.2 ?_
    have d1 : (V.setCell ⟨N, 0, none⟩ (.slice vo vn vc)).drew.cell? ⟨N, 0, none⟩ = some (.slice vo vn vc) := (Boxed.set (.slice vo vn vc) h1).cell
    have f1 : (V.setCell ⟨N, 0, none⟩ (.slice vo vn vc)).drew.frozen? ⟨N, 0, none⟩ = false := (Boxed.set (.slice vo vn vc) h1).frozen
    go_region_held3 (fun w' => w'.cell? ⟨N, 0, none⟩ = some (.slice vo vn vc) ∧ w'.frozen? ⟨N, 0, none⟩ = false)
      (first
        | go_keep
        | (with_reducible exact ⟨d1, f1⟩))
      (first
        | (go_at_call 32; (with_reducible refine (CP.out _).mono ?_); rintro e wN ⟨rfl, rfl⟩)
        | (go_at_call 30; (with_reducible refine (CS.out _).mono ?_); rintro e wM ⟨rfl, rfl⟩))
    have hDN : D ≠ N := fun e => h4 (by rw [← e]; exact hD)
    have hK' : (V.setCell ⟨N, 0, none⟩ (.slice vo vn vc)).drew.heap[D]? = some (.deferred (some [])) := (Below.heap_setCell V ⟨N, 0, none⟩ _ D hDN).trans hK
    have r0 : ((V.setCell ⟨N, 0, none⟩ (.slice vo vn vc)).drew.putObj D (.deferred none)).cell? ⟨N, 0, none⟩ = some (.slice vo vn vc) := by
      have hb : Boxed ((V.setCell ⟨N, 0, none⟩ (.slice vo vn vc)).drew.putObj D (.deferred none)) N 34 (.slice vo vn vc) := (World.putObj_heap_other (fun e => hDN e.symm)).trans (Boxed.set (.slice vo vn vc) h1)
      exact hb.cell
    have hown : OwnStrs N ((V.setCell ⟨N, 0, none⟩ (.slice vo vn vc)).drew.putObj D (.deferred none)) (.slice vo vn vc) (piecesB s) :=
      own_base (own_spares (own := own) (W := (V.setCell ⟨N, 0, none⟩ (.slice vo vn vc)).drew) (ownsRow_setCell_below h2 (a := ⟨N, 0, none⟩) (by show N < N + 1; omega) _) (.putObj _ hD _) h5) (by omega)
    have hbel : Below N w ((V.setCell ⟨N, 0, none⟩ (.slice vo vn vc)).drew.putObj D (.deferred none)) :=
      Below.trans (b := (V.setCell ⟨N, 0, none⟩ (.slice vo vn vc)).drew) ((h3.setCell (p := ⟨N, 0, none⟩) (Nat.le_refl _) _).trans ⟨rfl, rfl, rfl, Nat.le_refl _, fun _ _ => rfl⟩) ((Spares.putObj (own := own) (V.setCell ⟨N, 0, none⟩ (.slice vo vn vc)).drew hD (.deferred none)).below (by simp; omega) (fun b hb => (h6 b hb).1))
    have hf : startsL s.data.toList = b1 := by rw [← prefix_starts]; exact HB1.out
    have FX := FIN.out (.slice vo vn vc) b1 b2 _ hf HB2.out hown hbel
    clear hf hown hbel
    gi_wp2_with fail
    refine ⟨by simp, .inl ⟨_, _, rfl, run_takeDeferred hK', ?_⟩⟩
    refine ⟨.tuple #[.slice vo vn vc, .bool b1, .bool b2], ?_, FX⟩
    simp [results, Tryd.f23, go_sem, r0]
  case stop =>
    rintro D own c pre V hD hS h
    exact h.elim
end Go.Proofs.YtlfeaamfgfegdaaDoor.pt
