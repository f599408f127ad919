/-
  record.readPairs reads the pairs at the end of a line.
-/
import Derived.Test.YtdndngabddnpmaaGreatDoorRdr
import Derived.Test.YtdndngabddnpmaaGreatDoorRSrc
import Derived.Test.YtdndngabddnpmaaGreatDoorVParse
import Derived.Test.YtdndngabddnpmaaGreatDoorRange
import Derived.Test.YtdndngabddnpmaaGreatDoorSplit
namespace Go.Proofs.YtdndngabddnpmaaGreatDoor.rd
open Go.RowKit Go.Shelf Go.Proofs.YtdndngabddnpmaaGreatDoor.cm Go.Proofs.YtdndngabddnpmaaGreatDoor.vl Go.Proofs.YtdndngabddnpmaaGreatDoor.sr Go.Proofs.YtdndngabddnpmaaGreatDoor.rg
attribute [local go_sem] Oper.semAt_some

theorem cutAt_count (c : UInt8) : ∀ l : List UInt8, (cutAt c l).length ≤ l.length + 1
  | [] => by simp [cutAt]
  | x :: r => by
    have ih := cutAt_count c r
    rw [cutAt_cons]
    split
    · simp; omega
    · cases hq : cutAt c r with
      | nil => simp [push]
      | cons q qs => rw [hq] at ih; simp [push] at ih ⊢; omega
theorem cutB_count (c : UInt8) (s : ByteArray) : (cutB c s).length ≤ s.size + 1 := by
  unfold cutB
  rw [List.length_map, Lib.size_eq]
  exact cutAt_count c _
theorem pairsO_len : ∀ {xs : List ByteArray} {ps : List PairP}, pairsO xs = some ps → ps.length = xs.length
  | [], ps, h => by cases h; rfl
  | x :: xs, ps, h => by
    unfold pairsO at h
    rw [List.mapM_cons] at h
    cases hx : parP x.data.toList with
    | none => rw [hx] at h; cases h
    | some p =>
      rw [hx] at h
      cases hr : pairsO xs with
      | none => unfold pairsO at hr; rw [hr] at h; cases h
      | some qs =>
        have ih := pairsO_len hr
        unfold pairsO at hr
        rw [hr] at h
        cases h
        simp [ih]
theorem pok_par {l : List UInt8} {p : PairP} (h : parP l = some p) : POk p := by
  have hf := parP_some h
  have hc : checkP p = 0 := by
    unfold fmtP at hf
    split at hf
    · assumption
    · cases hf
  obtain ⟨h1, h2⟩ := sound_cases hc
  have hn := (nameL_bytes h1).2.1
  refine ⟨by omega, ?_, parP_int h⟩
  rcases h2 with ⟨-, h3⟩ | ⟨-, -, h3⟩ | ⟨-, -, h3⟩
  · rw [h3]; simp
  · omega
  · rw [h3]; simp

/-- between two rounds -/
def PInv (N : Nat) (w : World) (pre : List ByteArray) (W : World) : Prop :=
  ∃ (v : Value) (ps : List PairP), Boxed W N 27 (.slice none 0 0) ∧ Boxed W (N + 1) 4 (.bool false) ∧ Boxed W (N + 1 + 1) 27 v ∧
    pairsO pre = some ps ∧ (∀ p ∈ ps, POk p) ∧ OwnPairs (N + 6) W v ps ∧ Below N w W ∧ N + 6 ≤ W.heap.size
/-- behind a round that returned -/
def PLeft (N : Nat) (w : World) (c : Code) (pre : List ByteArray) (W : World) : Prop :=
  c = .ret ∧ Boxed W N 27 (.slice none 0 0) ∧ Boxed W (N + 1) 4 (.bool false) ∧ (∃ p x q, pre = p ++ (x :: q) ∧ parP x.data.toList = none) ∧ Below N w W

theorem pbelow_drew {N : Nat} {w W : World} (h : Below N w W) : Below N w W.drew := h.trans ⟨rfl, rfl, rfl, Nat.le_refl _, fun _ _ => rfl⟩
theorem pput {W : World} {B l : Nat} {t : TypeId} {v : Value} (h : Boxed W B t v) (hne : B ≠ l) (o : Obj) : Boxed (W.putObj l o) B t v := (World.putObj_heap_other hne).trans h

theorem pinv_bears (N : Nat) (w : World) : rg.Bears (fun b => b = N + 1 + 1 + 1) (PInv N w) := {
  box := fun s W b v hb ⟨u, ps, h0, h1, h2, hp, hk, ho, hB, hz⟩ => by
    subst hb
    exact ⟨u, ps, rg.other h0 (by omega) _, rg.other h1 (by omega) _, rg.other h2 (by omega) _, hp, hk, ownsRow_setCell_below ho (a := ⟨N + 1 + 1 + 1, 0, none⟩) (by show N + 1 + 1 + 1 < N + 6; omega) _, hB.setCell (p := ⟨N + 1 + 1 + 1, 0, none⟩) (by show N ≤ N + 1 + 1 + 1; omega) _, by simpa using hz⟩
  new := fun s W o ⟨u, ps, h0, h1, h2, hp, hk, ho, hB, hz⟩ => ⟨u, ps, h0.alloc _, h1.alloc _, h2.alloc _, hp, hk, ho.alloc _, hB.alloc (by have := h0.lt; omega) _, by simp; omega⟩
  drew := fun s W ⟨u, ps, h0, h1, h2, hp, hk, ho, hB, hz⟩ => ⟨u, ps, h0, h1, h2, hp, hk, ho, pbelow_drew hB, hz⟩ }
theorem pleft_bears (N : Nat) (w : World) (c : Code) : rg.Bears (fun b => b = N + 1 + 1 + 1) (PLeft N w c) := {
  box := fun s W b v hb ⟨hc, h0, h1, hp, hB⟩ => by
    subst hb
    exact ⟨hc, rg.other h0 (by omega) _, rg.other h1 (by omega) _, hp, hB.setCell (p := ⟨N + 1 + 1 + 1, 0, none⟩) (by show N ≤ N + 1 + 1 + 1; omega) _⟩
  new := fun s W o ⟨hc, h0, h1, hp, hB⟩ => ⟨hc, h0.alloc _, h1.alloc _, hp, hB.alloc (by have := h0.lt; omega) _⟩
  drew := fun s W ⟨hc, h0, h1, hp, hB⟩ => ⟨hc, h0, h1, hp, pbelow_drew hB⟩ }
theorem own_not {W : World} {B T z n l : Nat} {v : Value} {xs : List Value} {ob : Obj} (h : W.ownsRow B T z v n xs) (hl : W.heap[l]? = some ob) (ho : ob.isCells = false) : v.ownBlock = none ∨ v.ownBlock ≠ some l := by
  rcases h.2 with ⟨rfl, _⟩ | ⟨g, cap, cur, rfl, _, hg, _⟩
  · exact .inl rfl
  · refine .inr fun e => ?_
    obtain rfl : g = l := by simpa [Value.ownBlock] using e
    rw [hg] at hl; cases hl; cases ho
theorem pinv_books (N : Nat) (w : World) : Books (N + 6) (PInv N w) := fun _ W l _ o' ⟨u, ps, h0, h1, h2, hp, hk, ho, hB, hz⟩ hl hobj hc =>
  ⟨u, ps, pput h0 (by omega) _, pput h1 (by omega) _, pput h2 (by omega) _, hp, hk, ho.kept (grownBy_putObj' W l o') (own_not ho hobj hc), hB.grown (grownBy_putObj' W l o') (by have := h0.lt; omega) (fun k e => by cases e; omega), by simpa using hz⟩
theorem pleft_books (N : Nat) (w : World) (c : Code) : Books (N + 6) (PLeft N w c) := fun _ W l _ o' ⟨hc', h0, h1, hp, hB⟩ hl _ _ =>
  ⟨hc', pput h0 (by omega) _, pput h1 (by omega) _, hp, hB.grown (grownBy_putObj' W l o') (by have := h0.lt; omega) (fun k e => by cases e; omega)⟩
theorem pkp_t {a b c : Nat} {A B C : World} (h : Kp3 a b c A B) (k : Kp3 a b c B C) : Kp3 a b c A C := ⟨k.1.trans h.1, k.2.1.trans h.2.1, k.2.2.trans h.2.2⟩
theorem keeps_below {W W' : World} (h : Below W.heap.size W W') : KeepsOthers W W' := ⟨h.size, fun k _ hk _ => (h.block k (Array.getElem?_eq_some_iff.1 hk).1).trans hk⟩
theorem boxed_below {W W' : World} {B : Nat} {t : TypeId} {v : Value} (h : Boxed W B t v) (hb : Below W.heap.size W W') : Boxed W' B t v := (hb.block B h.lt).trans h
theorem put_belowP {N M D : Nat} {w W : World} {ob : Obj} (hN : M = N) (hD : N ≤ D) (h : Below N w W) : Below M w (W.putObj D ob) := by
  subst hN
  refine h.trans ⟨rfl, rfl, rfl, by simp, fun k hk => World.putObj_heap_other (by omega)⟩
theorem newAtP {w : World} {n : Nat} {t : TypeId} {v : Value} (h : w.heap.size = n) : Boxed (w.alloc (.cells #[v] t)) n t v := by subst h; exact Boxed.new w t v

theorem own_below {W W' : World} {B T z n : Nat} {v : Value} {xs : List Value} (h : W.ownsRow B T z v n xs) (hb : Below W.heap.size W W') : W'.ownsRow B T z v n xs := by
  refine ⟨h.1, ?_⟩
  rcases h.2 with hn | ⟨g, c, cur, h1, h2, h3, h4⟩
  · exact .inl hn
  · exact .inr ⟨g, c, cur, h1, h2, (hb.block g (Array.getElem?_eq_some_iff.1 h3).1).trans h3, h4⟩
theorem own_ne {W : World} {B T z n k : Nat} {v : Value} {xs : List Value} (h : W.ownsRow B T z v n xs) (hk : k < B) : some k ≠ v.ownBlock := fun e => by
  have := (h.lt k e.symm).1
  omega
theorem own_cells {W : World} {B T z n j : Nat} {v : Value} {xs : List Value} {ob : Obj} (h : W.ownsRow B T z v n xs) (ej : v.ownBlock = some j) (hj : W.heap[j]? = some ob) : ob.isCells = true := by
  rcases h.2 with ⟨rfl, _⟩ | ⟨g, cap, cur, rfl, _, hg, _⟩
  · simp [Value.ownBlock] at ej
  · obtain rfl : g = j := by simpa [Value.ownBlock] using ej
    rw [hg] at hj
    cases hj
    rfl

/-- what readPairs answers -/
def RPairsR (s : ByteArray) (w : World) (e : Ending) (w' : World) : Prop :=
  ∃ (va : Option Addr) (cap : Nat) (ps : List PairP) (ok : Bool), e = .returned (.tuple #[.slice va ps.length cap, .bool ok]) ∧ PairsAt w' va ps ∧ (ps.length ≤ cap ∧ ps.length ≤ s.size + 1) ∧ Below w.heap.size w w' ∧ (∀ g o, va = some ⟨g, o, none⟩ → w.heap.size ≤ g) ∧
    ∀ qs, (∀ p ∈ qs, checkP p = 0 ∧ isInt p.num) → s.data.toList = tailL qs → ok = true ∧ ps = qs

set_option maxHeartbeats 4000000 in
set_option maxRecDepth 100000 in
theorem readPairs_core (s x0 : ByteArray) (w : World) (hx0 : x0.size ≤ 100000) (hE : Env2 w) (h1 : (s.toList == []) = false) (h2 : Lib.hasPrefix s.data.toList [32] = true) (h3 : bs (Lib.trimPrefix s.data.toList [32]) = x0)
    (hq : ∀ qs, (∀ p ∈ qs, checkP p = 0 ∧ isInt p.num) → s.data.toList = tailL qs → pairsO (cutB 32 x0) = some qs) (hx1 : x0.size ≤ s.size) :
    Calls Tryz.prog 51 #[.string s] w (RPairsR s w) := by
  have HE := Lib.hid (fun W (h : Below w.heap.size w W) => hE.below h)
  have CP := Lib.hid (fun W => Tryz.strings_CutPrefix s ⟨#[32]⟩ W)
  rw [show (⟨#[32]⟩ : ByteArray).data.toList = [32] from rfl, h2, show (⟨(Lib.trimPrefix s.data.toList [32]).toArray⟩ : ByteArray) = x0 from h3] at CP
  have HQ := Lib.hid hq
  clear hE h2 h3 hq
  obtain ⟨i0, hi, hz0, hz1, hz2⟩ := info_parts infoPair
  refine (callsIn_wide (n := 6)).1 ?_
  refine callsIn_of_wp_marks Tryz.func51 rfl trivial ?_ rfl
  simp only [Tryz.ntmps51, List.size_toArray, List.length_cons, List.length_nil, Nat.reduceAdd, Nat.reduceSub, Array.replicate_succ, Array.replicate_zero, List.push_toArray, List.append_toArray, List.nil_append, List.cons_append]
  gi_wp2_with fail
  refine ⟨trivial, (callsIn_wide.2 (CP.out _)).mono ?_⟩
  rintro e w1 ⟨rfl, rfl⟩
  gi_wp2_with fail
  refine ⟨trivial, (callsIn_wide.2 (seq_any 32 x0 _)).mono ?_⟩
  rintro e w1 ⟨rfl, hw1⟩
  have p0 : Boxed w1 w.heap.size 27 (.slice none 0 0) := by rw [hw1]; exact (((((newAtP rfl).alloc _).alloc _).alloc _).alloc _).alloc _
  have p1 : Boxed w1 (w.heap.size + 1) 4 (.bool false) := by rw [hw1]; exact ((((newAtP (by simp)).alloc _).alloc _).alloc _).alloc _
  have p2 : Boxed w1 (w.heap.size + 1 + 1) 27 (.slice none 0 0) := by rw [hw1]; exact (((newAtP (by simp)).alloc _).alloc _).alloc _
  have p3 : Boxed w1 (w.heap.size + 1 + 1 + 1) 9 (.string x0) := by rw [hw1]; exact ((newAtP (by simp)).alloc _).alloc _
  have p4 : Boxed w1 (w.heap.size + 1 + 1 + 1 + 1) 9 (.string ⟨#[32]⟩) := by rw [hw1]; exact (newAtP (by simp)).alloc _
  have p5 : Boxed w1 (w.heap.size + 1 + 1 + 1 + 1 + 1) 3 (.int .i64 0) := by rw [hw1]; exact newAtP (by simp)
  have hsz : w1.heap.size = w.heap.size + 6 := by rw [hw1]; simp
  have hb : Below w.heap.size w w1 := by
    rw [hw1]
    exact (((((((Below.refl _ w).alloc (Nat.le_refl _) _).alloc (by simp) _).alloc (by simp; omega) _).alloc (by simp; omega) _).alloc (by simp; omega) _).alloc (by simp; omega) _)
  simp only [World.size_alloc]
  clear hw1
  generalize hN : w.heap.size = N at *
  have HN := Lib.hid hN
  clear hN
  have FIN : Hid (∀ (va : Option Addr) (n cap : Nat) (ps : List PairP) (ok : Bool) (w' : World), n = ps.length → PairsAt w' va ps → ps.length ≤ cap → ps.length ≤ s.size + 1 → Below N w w' → (∀ g o, va = some ⟨g, o, none⟩ → N ≤ g) → (∀ qs, (∀ p ∈ qs, checkP p = 0 ∧ isInt p.num) → s.data.toList = tailL qs → ok = true ∧ ps = qs) →
      RPairsR s w (.returned (.tuple #[.slice va n cap, .bool ok])) w') := Lib.hid (fun va n cap ps ok w' h0 h1 h2 h3 h4 h6 h5 => by subst h0; exact ⟨va, cap, ps, ok, rfl, h1, ⟨h2, h3⟩, by rw [HN.out]; exact h4, by rw [HN.out]; exact h6, h5⟩)
  gi_wp2_with fail
  refine range_iter (own := fun b => b = N + 1 + 1 + 1) (Kp := Kp3 (N + 1 + 1 + 1 + 1) (N + 1 + 1 + 1) (N + 1 + 1 + 1 + 2)) rfl (by omega) (gf := 91)
    (lb := #[.pointer (some ⟨N + 1 + 1 + 1 + 1, 0, none⟩), .pointer (some ⟨N + 1 + 1 + 1, 0, none⟩), .pointer (some ⟨N + 1 + 1 + 1 + 2, 0, none⟩)]) rfl trivial (enters_of Tryz.func91 (by kernel_rfl) rfl)
    (split_iter 5 (by omega) 32 x0 hx0 _ _ _ (by omega) (by omega) w1 p4 p3 p5) (fun b hb => by omega) (Below.refl _ _) (fun _ => rfl) pkp_t
    (fun W l o' hl hlt => ⟨World.putObj_heap_other (by omega), World.putObj_heap_other (by omega), World.putObj_heap_other (by omega)⟩)
    (PInv N w) (PLeft N w) (pinv_bears N w) (pleft_bears N w) (by rw [hsz]; exact pinv_books N w) (fun c => by rw [hsz]; exact pleft_books N w c)
    ⟨_, [], p0, p1, p2, rfl, fun p hp => by simp at hp, World.ownsRow_nil _ _ _ _, hb, by omega⟩
    (fun x => { tmps := #[.string s, undef, .pointer (some ⟨N, 0, none⟩), .pointer (some ⟨N + 1, 0, none⟩), .string x0, .bool true, .pointer (some ⟨N + 1 + 1, 0, none⟩), .string x, undef, undef, .string s,
      .bool false, .tuple #[.string x0, .bool true], .string s, .tuple #[.string x0, .bool true], .string x0, .bool true, .bool true, .bool false, .string x0,
      .func (.func 91) #[] #[.pointer (some ⟨N + 1 + 1 + 1 + 1, 0, none⟩), .pointer (some ⟨N + 1 + 1 + 1, 0, none⟩), .pointer (some ⟨N + 1 + 1 + 1 + 2, 0, none⟩)],
      .string x, undef, undef, undef, undef, undef, undef, undef, undef, undef, undef, undef, undef], defers := [] }) ?assign ?body ?done ?stop
  case assign =>
    intro l x W K hK
    gi_wp2
    exact hK
  case body =>
    rintro l pre x W ⟨v, ps, q0, q1, q2, hp, hok, hown, hB, hWz⟩ hG
    clear p0 p1 p2 p3 p4 p5 hb
    have hx : x.size ≤ 100000 := Nat.le_trans (cutB_size 32 x0 x (hG.subset (by simp))) hx0
    have hcnt : ps.length ≤ 100000 := by
      have h1 := hG.length_le
      have h2 := cutB_count 32 x0
      rw [pairsO_len hp]
      simp at h1
      omega
    have CV := Lib.hid (vl.Parse_any x W hx (HE.out W hB))
    cases hr : parP x.data.toList with
    | none =>
      obtain ⟨e1, e2⟩ := par_none hr
      rw [e1, e2] at CV
      unfold zV at CV
      have HR := Lib.hid hr
      clear hr e1 e2
      gi_wp2_with fail
      refine ⟨trivial, (CallsIn.inRound l (callsIn_wide.2 CV.out)).mono ?_⟩
      rintro e w2 ⟨rfl, hb2⟩
      have r0 := boxed_below q0 hb2
      have r1 := boxed_below q1 hb2
      have hk2 := keeps_below hb2
      have hB2 : Below N w w2 := hB.trans (hb2.mono (by have := q0.lt; omega))
      have hl2 : N + 1 < w2.heap.size := r1.lt
      have hl0 : N < w2.heap.size := r0.lt
      have d0 := r0.cell
      have d1 := r1.cell
      have g0 := r0.frozen
      have g1 := r1.frozen
      gi_wp2_with fail
      refine ⟨(hk2.trans ((KeepsOthers.setCell _ _ _).trans (KeepsOthers.setCell _ _ _))).trans (KeepsOthers.alloc _ _), rfl, ?_, ?_, ⟨pre, x, [], rfl, HR.out⟩, ?_⟩
      · exact (rg.other (r0.set _) (by omega) _).alloc _
      · exact ((rg.other r1 (by omega) _).set _).alloc _
      · exact ((hB2.setCell (p := ⟨N, 0, none⟩) (Nat.le_refl _) _).setCell (p := ⟨N + 1, 0, none⟩) (by show N ≤ N + 1; omega) _).alloc (by simp; omega) _
    | some p =>
      obtain ⟨e1, e2⟩ := par_some hr
      rw [e1, e2] at CV
      unfold pV at CV
      have HR := Lib.hid hr
      have hpk := pok_par hr
      rw [show (⟨p.name.toArray⟩ : ByteArray) = bs p.name from rfl, show (⟨p.text.toArray⟩ : ByteArray) = bs p.text from rfl] at CV
      clear hr e1 e2
      obtain ⟨nm, kd, nu, tx⟩ := p
      dsimp only at CV
      gi_wp2_with fail
      refine ⟨trivial, (CallsIn.inRound l (callsIn_wide.2 CV.out)).mono ?_⟩
      rintro e w2 ⟨rfl, hb2⟩
      have r0 := boxed_below q0 hb2
      have r1 := boxed_below q1 hb2
      have r2 := boxed_below q2 hb2
      have hk2 := keeps_below hb2
      have hB2 : Below N w w2 := hB.trans (hb2.mono (by have := q0.lt; omega))
      have own2 := own_below hown hb2
      have hz2' : N + 6 ≤ w2.heap.size := Nat.le_trans hWz hb2.size
      have kp2 : Kp3 (N + 1 + 1 + 1 + 1) (N + 1 + 1 + 1) (N + 1 + 1 + 1 + 2) W w2 := ⟨hb2.block _ (by omega), hb2.block _ (by omega), hb2.block _ (by omega)⟩
      have hl2 : N + 1 + 1 < w2.heap.size := r2.lt
      have d2 := r2.cell
      have g2 := r2.frozen
      have HN0 := Lib.hid (own_ne own2 (k := N) (by omega))
      have HN1 := Lib.hid (own_ne own2 (k := N + 1) (by omega))
      have HN2 := Lib.hid (own_ne own2 (k := N + 1 + 1) (by omega))
      have HN3 := Lib.hid (own_ne own2 (k := N + 1 + 1 + 1) (by omega))
      have HN4 := Lib.hid (own_ne own2 (k := N + 1 + 1 + 1 + 1) (by omega))
      have HN5 := Lib.hid (own_ne own2 (k := N + 1 + 1 + 1 + 2) (by omega))
      have nw : Hid (∀ j u, ([.string (bs nm), .int .i64 kd, .int .i64 nu, .string (bs tx)] : List Value)[j]? = some u → ((w2.alloc (.cells #[.string (bs nm), .int .i64 kd, .int .i64 nu, .string (bs tx)] 39)).alloc (.cells #[.string (bs nm), .int .i64 kd, .int .i64 nu, .string (bs tx)] 39)).cell? ((⟨w2.heap.size + 1, 0, none⟩ : Addr).add j) = some u) := Lib.hid (World.news_of_block (cs := #[.string (bs nm), .int .i64 kd, .int .i64 nu, .string (bs tx)]) (t := 39) (fr := (0, 0)) (by
        have := heap_alloc_new (w2.alloc (.cells #[.string (bs nm), .int .i64 kd, .int .i64 nu, .string (bs tx)] 39)) (.cells #[.string (bs nm), .int .i64 kd, .int .i64 nu, .string (bs tx)] 39)
        rwa [heap_alloc] at this))
      clear q0 q1 q2 hown hB
      gi_wp2_with (first
        | (gi_at_builtin; refine wpListIn_append_own _ rfl _ _ 27 rfl (N + 6) 39 i0 _ 4 48 Tryz.underlying27 hi hz0 hz1 hz2 rfl (by omega) _ ps.length _ rfl ((own2.alloc _).alloc _) ⟨w2.heap.size + 1, 0, none⟩ 1 1 [.string (bs nm), .int .i64 kd, .int .i64 nu, .string (bs tx)] rfl rfl nw.out ?c5 ?c6 ?c7 ?c8 ?_)
        | fail)
      case c5 => simp [Value.oneCell']
      case c6 => unfold maxLen; omega
      case c7 => omega
      case c8 => simp; omega
      intro v3 w3 own3 hgrow _
      obtain ⟨g3, cap3, rfl, -, -⟩ := World.ownsRow.form own3 (by omega)
      have s0 := ((r0.alloc _).alloc _).kept hgrow HN0.out
      have s1 := ((r1.alloc _).alloc _).kept hgrow HN1.out
      have s2 := ((r2.alloc _).alloc _).kept hgrow HN2.out
      have bl : ∀ k, k < w2.heap.size → some k ≠ v.ownBlock → w3.heap[k]? = w2.heap[k]? := fun k hk hne => (hgrow.block k (by simp; omega) hne).trans ((Below.heap_alloc _ _ k (by simp; omega)).trans (Below.heap_alloc _ _ k hk))
      have e2 := s2.cell
      have f2 := s2.frozen
      have hsz3 : w2.heap.size ≤ w3.heap.size := by
        have := hgrow.size
        simp at this
        omega
      have hk3 : KeepsOthers W w3 := ((hk2.trans (KeepsOthers.alloc _ _)).trans (KeepsOthers.alloc _ _)).trans (KeepsOthers.of_grownBy hgrow fun j o ej hj => own_cells ((own2.alloc _).alloc _) ej hj)
      have hB3 : Below N w w3 := ((hB2.alloc (by omega) _).alloc (by simp; omega) _).grown hgrow (by simp; omega) (fun k e => by have := (own2.lt k e).1; omega)
      gi_wp2_with fail
      refine ⟨hk3.trans (KeepsOthers.setCell _ _ _), pkp_t kp2 ⟨(Below.heap_setCell _ _ _ _ (by show _ ≠ N + 1 + 1; omega)).trans (bl _ (by omega) HN4.out), (Below.heap_setCell _ _ _ _ (by show _ ≠ N + 1 + 1; omega)).trans (bl _ (by omega) HN3.out), (Below.heap_setCell _ _ _ _ (by show _ ≠ N + 1 + 1; omega)).trans (bl _ (by omega) HN5.out)⟩,
        _, ps ++ [⟨nm, kd, nu, tx⟩], rg.other s0 (by omega) _, rg.other s1 (by omega) _, s2.set _, pairsO_snoc hp HR.out, ?_, ?_, hB3.setCell (p := ⟨N + 1 + 1, 0, none⟩) (by show N ≤ N + 1 + 1; omega) _, by simp; omega⟩
      · intro p hp
        rcases List.mem_append.1 hp with hp | hp
        · exact hok p hp
        · simp at hp
          subst hp
          exact hpk
      · unfold OwnPairs
        rw [psc_append, List.length_append]
        exact ownsRow_setCell_below own3 (a := ⟨N + 1 + 1, 0, none⟩) (by show N + 1 + 1 < N + 6; omega) _
  case done =>
    rintro D xs W hD rfl ⟨v, ps, q0, q1, q2, hp, hok, hown, hB, hWz⟩ hK
    have d0 := q0.cell
    have d1 := q1.cell
    have d2 := q2.cell
    have g0 := q0.frozen
    have g1 := q1.frozen
    obtain ⟨vo, vn, vc, rfl⟩ : ∃ vo vn vc, v = .slice vo vn vc := by
      rcases hown.2 with ⟨hv, _⟩ | ⟨g, c, cur, hv, _⟩
      · exact ⟨_, _, _, hv⟩
      · exact ⟨_, _, _, hv⟩
    have HP := Lib.hid hp
    have hcnt : ps.length ≤ s.size + 1 := by
      have h2 := cutB_count 32 x0
      rw [pairsO_len hp]
      omega
    clear hp
    gi_wp2_with fail
    have hK' := ((KeepsOthers.setCell W ⟨N, 0, none⟩ (.slice vo vn vc)).trans (KeepsOthers.setCell _ ⟨N + 1, 0, none⟩ (.bool true))).same D _ hK rfl
    have r0 : (((W.setCell ⟨N, 0, none⟩ (.slice vo vn vc)).setCell ⟨N + 1, 0, none⟩ (.bool true)).putObj D (.deferred none)).cell? ⟨N, 0, none⟩ = some (.slice vo vn vc) := (pput (rg.other (q0.set _) (by omega) _) (by omega) _).cell
    have r1 : (((W.setCell ⟨N, 0, none⟩ (.slice vo vn vc)).setCell ⟨N + 1, 0, none⟩ (.bool true)).putObj D (.deferred none)).cell? ⟨N + 1, 0, none⟩ = some (.bool true) := (pput ((rg.other q1 (by omega) _).set _) (by omega) _).cell
    have ownA := ownsRow_setCell_below (ownsRow_setCell_below hown (a := ⟨N, 0, none⟩) (by show N < N + 6; omega) (.slice vo vn vc)) (a := ⟨N + 1, 0, none⟩) (by show N + 1 < N + 6; omega) (.bool true)
    have ownB : OwnPairs (N + 6) (((W.setCell ⟨N, 0, none⟩ (.slice vo vn vc)).setCell ⟨N + 1, 0, none⟩ (.bool true)).putObj D (.deferred none)) (.slice vo vn vc) ps := ownA.kept (grownBy_putObj' _ D _) (own_not ownA hK' rfl)
    have hfrom := own_from ownB _ _ _ rfl
    obtain ⟨va, cap, hv, hPA, hcap⟩ := own_pairs ownB hok
    injection hv with hv1 hv2 hv3
    subst hv1
    subst hv2
    subst hv3
    refine ⟨by simp, .inl ⟨_, _, rfl, run_takeDeferred hK', ?_⟩⟩
    refine ⟨.tuple #[.slice vo ps.length vc, .bool true], ?_, FIN.out vo _ vc ps true _ rfl hPA hcap hcnt ?_ (fun g o hg => by have := hfrom g o hg; omega) ?_⟩
    · simp [results, Tryz.f51, go_sem, r0, r1]
    · exact put_belowP rfl (by omega) ((hB.setCell (p := ⟨N, 0, none⟩) (Nat.le_refl _) _).setCell (p := ⟨N + 1, 0, none⟩) (by show N ≤ N + 1; omega) _)
    · intro qs h1 h2
      have := HQ.out qs h1 h2
      rw [HP.out] at this
      injection this with this
      exact ⟨rfl, this⟩
  case stop =>
    rintro D c pre W hD hS ⟨rfl, q0, q1, hp, hB⟩ hK
    have d0 := q0.cell
    have d1 := q1.cell
    gi_wp2_with fail
    have r0 : (W.putObj D (.deferred none)).cell? ⟨N, 0, none⟩ = some (.slice none 0 0) := (pput q0 (by omega) _).cell
    have r1 : (W.putObj D (.deferred none)).cell? ⟨N + 1, 0, none⟩ = some (.bool false) := (pput q1 (by omega) _).cell
    refine ⟨by simp, .inl ⟨_, _, rfl, run_takeDeferred hK, ?_⟩⟩
    refine ⟨.tuple #[.slice none 0 0, .bool false], ?_, FIN.out none 0 0 [] false _ rfl (PairsAt.nil _ _) (Nat.le_refl _) (by simp) ?_ (fun g o hg => by cases hg) ?_⟩
    · simp [results, Tryz.f51, go_sem, r0, r1]
    · exact put_belowP rfl (by omega) hB
    · intro qs h1 h2
      have := HQ.out qs h1 h2
      obtain ⟨p, y, q, hpre, hy⟩ := hp
      obtain ⟨r, hr⟩ := hS
      have hn := pairsO_none (xs := cutB 32 x0) (pre := p) (post := q ++ r) (x := y) (by rw [← hr, hpre]; simp) hy
      rw [hn] at this
      cases this

theorem beq_nil_true {s : ByteArray} (h : s.data.toList = []) : (s.toList == []) = true := by rw [ByteArray.toList_eq, h]; rfl
theorem beq_nil_false {s : ByteArray} (h : s.data.toList ≠ []) : (s.toList == []) = false := by
  rw [ByteArray.toList_eq]
  exact beq_eq_false_iff_ne.2 h
set_option maxHeartbeats 4000000 in
set_option maxRecDepth 100000 in
theorem readPairs_any (s : ByteArray) (w : World) (hs : s.size ≤ 100000) (hE : Env2 w) :
    Calls Tryz.prog 51 #[.string s] w (RPairsR s w) := by
  by_cases h1 : s.data.toList = []
  · have h1' := beq_nil_true h1
    have FIN : Hid (∀ w', Below w.heap.size w w' → RPairsR s w (.returned (.tuple #[.slice none 0 0, .bool true])) w') := Lib.hid (fun w' hb => ⟨none, 0, [], true, rfl, PairsAt.nil _ _, ⟨Nat.le_refl _, by simp⟩, hb, fun g o hg => by (cases hg), fun qs _ hq => ⟨rfl, by
      cases qs with
      | nil => rfl
      | cons q qs => rw [h1] at hq; simp [tailL] at hq⟩⟩)
    clear h1
    go_enter Tryz.func51, Tryz.ntmps51
    go_wp2_with fail
    exact bodyPost_ret (v := .tuple #[.slice none 0 0, .bool true]) (by simp [results, Tryz.f51, go_sem]) rfl (FIN.out _ (((Below.refl _ w).alloc (Nat.le_refl _) _).alloc (by simp) _))
  · by_cases h2 : Lib.hasPrefix s.data.toList [32] = true
    · have ht : s.data.toList = 32 :: (s.data.toList.drop 1) := by
        unfold Lib.hasPrefix at h2
        rw [List.isPrefixOf_iff_prefix] at h2
        obtain ⟨r, hr⟩ := h2
        rw [← hr]
        rfl
      have htp : Lib.trimPrefix s.data.toList [32] = s.data.toList.drop 1 := by
        unfold Lib.trimPrefix
        rw [if_pos h2]
        rfl
      refine readPairs_core s (bs (s.data.toList.drop 1)) w ?_ hE (beq_nil_false h1) h2 (by rw [htp]) ?_ ?_
      · rw [bs_size, List.length_drop, ← Lib.size_eq]; omega
      · intro qs hk hq
        cases qs with
        | nil => rw [hq] at h1; exact (h1 rfl).elim
        | cons q qs =>
          have e : s.data.toList = 32 :: (pairL q ++ tailL qs) := hq
          rw [e]
          exact pairsO_tail q qs hk
      · rw [bs_size, List.length_drop, ← Lib.size_eq]; omega
    · have h2' : Lib.hasPrefix s.data.toList [32] = false := by simpa using h2
      have h1' := beq_nil_false h1
      have CP := Lib.hid (fun W => Tryz.strings_CutPrefix s ⟨#[32]⟩ W)
      rw [show (⟨#[32]⟩ : ByteArray).data.toList = [32] from rfl, h2'] at CP
      have FIN : Hid (∀ w', Below w.heap.size w w' → RPairsR s w (.returned (.tuple #[.slice none 0 0, .bool false])) w') := Lib.hid (fun w' hb => ⟨none, 0, [], false, rfl, PairsAt.nil _ _, ⟨Nat.le_refl _, by simp⟩, hb, fun g o hg => by (cases hg), fun qs _ hq => by
        cases qs with
        | nil => exact (h1 hq).elim
        | cons q qs =>
          have e : s.data.toList = [32] ++ (pairL q ++ tailL qs) := hq
          rw [e, (prefix_app [32] _).1] at h2'
          cases h2'⟩)
      clear h1 h2 h2'
      go_enter Tryz.func51, Tryz.ntmps51
      go_wp2_with fail
      refine (CP.out _).mono ?_
      rintro e w1 ⟨rfl, rfl⟩
      go_wp2_with fail
      exact bodyPost_ret (v := .tuple #[.slice none 0 0, .bool false]) (by simp [results, Tryz.f51, go_sem]) rfl (FIN.out _ (((Below.refl _ w).alloc (Nat.le_refl _) _).alloc (by simp) _))
end Go.Proofs.YtdndngabddnpmaaGreatDoor.rd
