/-
  A law for a range over a function, for iterators that may be made of other iterators: what the iterator turns between two rounds are blocks of its own, and these may come to be on the way.
-/
import Derived.RangeFuncNested
import Derived.RangeFuncBound
import Derived.RangeFuncCalls
import Derived.RangeFuncLeaves
import Derived.RangeFuncBox
namespace Go.Proofs.YtlfeaamfgfegdaaDoor.rg
open Go.RowKit
variable {F : Fence} {n : Nat} {P : Program}

/-- every block but the own ones is as it was -/
structure Spares (own : Nat → Prop) (W W' : World) : Prop where
  os : W'.os = W.os
  tape : W'.tape = W.tape
  output : W'.output = W.output
  size : W.heap.size ≤ W'.heap.size
  block : ∀ k, k < W.heap.size → ¬ own k → W'.heap[k]? = W.heap[k]?
/-- the own blocks are as they were -/
structure Keeps (own : Nat → Prop) (W W' : World) : Prop where
  size : W.heap.size ≤ W'.heap.size
  block : ∀ k, k < W.heap.size → own k → W'.heap[k]? = W.heap[k]?

theorem Spares.refl (own : Nat → Prop) (W : World) : Spares own W W := ⟨rfl, rfl, rfl, Nat.le_refl _, fun _ _ _ => rfl⟩
theorem Spares.trans {own : Nat → Prop} {A B C : World} (h : Spares own A B) (k : Spares own B C) : Spares own A C :=
  ⟨k.os.trans h.os, k.tape.trans h.tape, k.output.trans h.output, Nat.le_trans h.size k.size, fun j hj hn => (k.block j (Nat.lt_of_lt_of_le hj h.size) hn).trans (h.block j hj hn)⟩
theorem Spares.of_below {own : Nat → Prop} {W W' : World} (h : Below W.heap.size W W') : Spares own W W' := ⟨h.os, h.tape, h.output, h.size, fun k hk _ => h.block k hk⟩
theorem Spares.alloc (own : Nat → Prop) (W : World) (o : Obj) : Spares own W (W.alloc o) := .of_below ((Below.refl _ _).alloc (Nat.le_refl _) _)
theorem Spares.drew (own : Nat → Prop) (W : World) : Spares own W W.drew := ⟨rfl, rfl, rfl, Nat.le_refl _, fun _ _ _ => rfl⟩
theorem Spares.setCell {own : Nat → Prop} (W : World) {b o : Nat} (hb : own b) (v : Value) : Spares own W (W.setCell ⟨b, o, none⟩ v) :=
  ⟨rfl, rfl, rfl, by simp, fun k _ hn => Below.heap_setCell W ⟨b, o, none⟩ v k (fun e => hn (by rw [e]; exact hb))⟩
theorem Spares.putObj {own : Nat → Prop} (W : World) {l : Nat} (hl : own l) (o : Obj) : Spares own W (W.putObj l o) :=
  ⟨rfl, rfl, rfl, by simp, fun k _ hn => World.putObj_heap_other (fun e => hn (by rw [e]; exact hl))⟩
theorem Spares.mono {own own' : Nat → Prop} {W W' : World} (h : Spares own W W') (hs : ∀ b, own b → own' b) : Spares own' W W' := ⟨h.os, h.tape, h.output, h.size, fun k hk hn => h.block k hk (fun e => hn (hs k e))⟩
theorem Spares.below {own : Nat → Prop} {W W' : World} {B : Nat} (h : Spares own W W') (hB : B ≤ W.heap.size) (ho : ∀ b, own b → B ≤ b) : Below B W W' := ⟨h.os, h.tape, h.output, h.size, fun k hk => h.block k (by omega) (fun e => by have := ho k e; omega)⟩
theorem Keeps.refl (own : Nat → Prop) (W : World) : Keeps own W W := ⟨Nat.le_refl _, fun _ _ _ => rfl⟩
theorem Keeps.trans {own : Nat → Prop} {A B C : World} (h : Keeps own A B) (k : Keeps own B C) : Keeps own A C := ⟨Nat.le_trans h.size k.size, fun j hj ho => (k.block j (Nat.lt_of_lt_of_le hj h.size) ho).trans (h.block j hj ho)⟩
theorem Keeps.mono {own own' : Nat → Prop} {W W' : World} (h : Keeps own W W') (hs : ∀ b, own' b → own b) : Keeps own' W W' := ⟨h.size, fun k hk ho => h.block k hk (hs k ho)⟩
theorem Keeps.of_below {own : Nat → Prop} {W W' : World} (h : Below W.heap.size W W') : Keeps own W W' := ⟨h.size, fun k hk _ => h.block k hk⟩
theorem Keeps.setCell {own : Nat → Prop} (W : World) {b o : Nat} (hb : ¬ own b) (v : Value) : Keeps own W (W.setCell ⟨b, o, none⟩ v) :=
  ⟨by simp, fun k _ ho => Below.heap_setCell W ⟨b, o, none⟩ v k (fun e => hb (by rw [← show k = b from e]; exact ho))⟩
theorem Keeps.alloc (own : Nat → Prop) (W : World) (o : Obj) : Keeps own W (W.alloc o) := .of_below ((Below.refl _ _).alloc (Nat.le_refl _) _)

/-- J abides whatever the iterator does beside the rounds; new blocks may become own ones. -/
def Bears2 {β : Type} (J : (Nat → Prop) → β → World → Prop) : Prop :=
  ∀ own own' s W W', J own s W → Spares own W W' → (∀ b, own' b → own b ∨ (W.heap.size ≤ b ∧ b < W'.heap.size)) → J own' s W'

/-- What an iterator promises, for whatever J its rounds keep. 'G pre x': it hands x over behind pre. -/
def Iter2 {α : Type} (F : Fence) (P : Program) (g : Nat) (lb : Array Value) (own0 : Nat → Prop) (encs : α → Array Value) (S Sp : List α → Prop) (G : List α → α → Prop) (w : World) : Prop :=
  ∀ (l : Nat) (J Jx : (Nat → Prop) → List α → World → Prop) (W : World), Below w.heap.size w W → Bears2 J → Bears2 Jx →
    (∀ m own pre x W1, J own pre W1 → G pre x → YieldAt F m P l (encs x) W1 fun e W' =>
      Keeps own W1 W' ∧ ((e = .returned (.bool true) ∧ J own (pre ++ [x]) W') ∨ (e = .returned (.bool false) ∧ Jx own (pre ++ [x]) W'))) →
    J own0 [] W →
    ∀ n, CallsIn F n P g (#[.func (.yield l) #[] #[]] ++ lb) W fun e W' => (∃ v, e = .returned v) ∧ ∃ own, (∃ xs, S xs ∧ J own xs W') ∨ (∃ pre, Sp pre ∧ Jx own pre W')

/-- how the body of a round may be left -/
def ownPost2 {α : Type} (own : Nat → Prop) (I : (Nat → Prop) → List α → World → Prop) (Ix : Code → (Nat → Prop) → List α → World → Prop) (xs : List α) (W : World) : Exit → Act → World → Prop
  | .normal, _, W' => Keeps own W W' ∧ I own xs W'
  | .ret, _, W' => Keeps own W W' ∧ Ix .ret own xs W'
  | .exit id, _, W' => Keeps own W W' ∧ Ix (.exit id) own xs W'
  | .goto t, _, W' => Keeps own W W' ∧ Ix (.goto t) own xs W'
  | .panic _, _, _ => False
  | .outgrown, _, _ => False

theorem room_none {F : Fence} (hd : F.depth = none) (n : Nat) : F.room n := fun d h => by rw [hd] at h; cases h
theorem YieldAt.level {F : Fence} (hd : F.depth = none) {m m' l : Nat} {args : Array Value} {W : World} {R : Ending → World → Prop} (h : YieldAt F m P l args W R) : YieldAt F m' P l args W R := by
  obtain ⟨fn, tmps, assign, body, h1, h2, h3⟩ := h
  exact ⟨fn, tmps, assign, body, h1, h2, fun c cs _ => h3 c cs (room_none hd _)⟩

theorem range_iter2 {α : Type} {g : Operand} {ps : Array Tmp} {assign body : Code} {Q : Exit → Act → World → Prop} {a : Act} {w : World}
    (hro : F.round = none) (hd : F.depth = none) {gf : Nat} {lb : Array Value} (hg : a.eval g = .func (.func gf) #[] lb) (hFg : F.fn gf) (eg : ∀ args w, (callFunc gf args).run P w = .ok (.enter gf args) w)
    {own0 : Nat → Prop} {encs : α → Array Value} {S Sp : List α → Prop} {G : List α → α → Prop} {w0 : World}
    (hseq : Iter2 F P gf lb own0 encs S Sp G w0) (hown : ∀ b, own0 b → b < w.heap.size) (hb0 : Below w0.heap.size w0 w) (hps : ∀ x, (encs x).size = ps.size)
    (I : (Nat → Prop) → List α → World → Prop) (Ix : Code → (Nat → Prop) → List α → World → Prop) (hI : Bears2 I) (hIx : ∀ c, Bears2 (Ix c)) (h0 : I own0 [] w) (a₁ : α → Act) (k : Nat)
    (hassign : ∀ (l : Nat) (x : α) (W : World) (K : Act → World → Prop), K (a₁ x) W →
      assign.wpIn (F.inRound l) k P (Exit.then K (fun _ _ _ => False)) { tmps := (ps.zip (encs x)).foldl (fun t (p, v) => t.setIfInBounds p v) a.tmps, defers := [] } W)
    (hbody : ∀ (l : Nat) (own : Nat → Prop) (pre : List α) (x : α) (W : World), I own pre W → G pre x → body.wpIn (F.inRound l) k P (ownPost2 own I Ix (pre ++ [x]) W) (a₁ x) W)
    (hdone : ∀ (D : Nat) (own : Nat → Prop) (xs : List α) (W : World), own D → S xs → I own xs W → W.heap[D]? = some (.deferred (some [])) → Q .normal { a with defers := { target := .collected D, args := #[] } :: a.defers } W)
    (hstop : ∀ (D : Nat) (own : Nat → Prop) (c : Code) (pre : List α) (W : World), own D → Sp pre → Ix c own pre W → W.heap[D]? = some (.deferred (some [])) → c.wpIn F n P Q { a with defers := { target := .collected D, args := #[] } :: a.defers } W) :
    (Code.rangeFunc g ps assign body).wpIn F n P Q a w := by
  refine wpIn_rangeFunc fun fn hfn => ?_
  rw [hro]
  generalize hD : w.heap.size = D at *
  -- the record in each of its states
  let rec' : LoopState → Option Code → Loop := fun st pe => { state := st, pending := pe, fn, tmps := a.tmps, params := ps, assign, body, defers := D }
  have hsz : (w.alloc (.deferred (some []))).heap.size = D + 1 := by simp [hD]
  let w1 := (w.alloc (.deferred (some []))).alloc (.loop (rec' .ready none))
  have hsz1 : w1.heap.size = D + 2 := by simp [w1, hD]
  have hl1 : w1.heap[D + 1]? = some (.loop (rec' .ready none)) := by
    have := World.alloc_heap_new (w.alloc (.deferred (some []))) (.loop (rec' .ready none)); rwa [hsz] at this
  have hk1 : w1.heap[D]? = some (.deferred (some [])) := by
    have := World.alloc_heap_new w (.deferred (some []))
    rw [hD] at this
    exact (Below.heap_alloc _ _ _ (by rw [hsz]; omega)).trans this
  let with2 : (Nat → Prop) → Nat → Prop := fun own b => own b ∨ b = D ∨ b = D + 1
  let J : (Nat → Prop) → List α → World → Prop := fun own pre W => I (with2 own) pre W ∧ W.heap[D + 1]? = some (.loop (rec' .ready none)) ∧ W.heap[D]? = some (.deferred (some [])) ∧ ¬ own D ∧ ¬ own (D + 1)
  let Jx : (Nat → Prop) → List α → World → Prop := fun own pre W => ∃ c, Ix c (with2 own) pre W ∧ W.heap[D + 1]? = some (.loop (rec' .done (some c))) ∧ W.heap[D]? = some (.deferred (some [])) ∧ ¬ own D ∧ ¬ own (D + 1)
  have at_ : ∀ {W : World} {j : Nat} {o : Obj}, W.heap[j]? = some o → j < W.heap.size := fun h => (Array.getElem?_eq_some_iff.1 h).1
  have grow2 : ∀ {own own' : Nat → Prop} {W W' : World}, (∀ b, own' b → own b ∨ (W.heap.size ≤ b ∧ b < W'.heap.size)) → ∀ b, with2 own' b → with2 own b ∨ (W.heap.size ≤ b ∧ b < W'.heap.size) := fun h b hb => by
    rcases hb with hb | hb
    · rcases h b hb with h | h
      · exact .inl (.inl h)
      · exact .inr h
    · exact .inl (.inr hb)
  have not2 : ∀ {own own' : Nat → Prop} {W W' : World} {j : Nat}, ¬ own j → j < W.heap.size → (∀ b, own' b → own b ∨ (W.heap.size ≤ b ∧ b < W'.heap.size)) → ¬ own' j := fun h1 h2 h3 h4 => by
    rcases h3 _ h4 with h | ⟨h, _⟩
    · exact h1 h
    · omega
  have bJ : Bears2 J := fun own own' s W W' ⟨h, i, j, p, q⟩ hs hg =>
    ⟨hI _ _ _ _ _ h (hs.mono fun _ => .inl) (grow2 hg), (hs.block _ (at_ i) q).trans i, (hs.block _ (at_ j) p).trans j, not2 p (at_ j) hg, not2 q (at_ i) hg⟩
  have bJx : Bears2 Jx := fun own own' s W W' ⟨c, h, i, j, p, q⟩ hs hg =>
    ⟨c, hIx c _ _ _ _ _ h (hs.mono fun _ => .inl) (grow2 hg), (hs.block _ (at_ i) q).trans i, (hs.block _ (at_ j) p).trans j, not2 p (at_ j) hg, not2 q (at_ i) hg⟩
  have hb1 : Below w.heap.size w w1 := (((Below.refl _ w).alloc (Nat.le_refl _) _).alloc (by rw [hsz, hD]; omega) _)
  have hbel : Below w0.heap.size w0 w1 := hb0.trans (hb1.mono (by have := hb0.size; omega))
  have hn0 : ¬ own0 D := fun h => by have := hown D h; omega
  have hn1 : ¬ own0 (D + 1) := fun h => by have := hown (D + 1) h; omega
  have hJ0 : J own0 [] w1 := ⟨hI own0 _ [] w w1 h0 (.of_below hb1) (fun b hb => by
    rcases hb with hb | hb
    · exact .inl hb
    · exact .inr ⟨by omega, by omega⟩), hl1, hk1, hn0, hn1⟩
  refine ⟨D + 1, [{ target := .collected D, args := #[] }], w1, { target := .fn (.func gf) lb, args := #[.func (.yield (D + 1)) #[] #[]] }, w1, gf, #[.func (.yield (D + 1)) #[] #[]] ++ lb, w1, ?_, ?_, ?_, ?_, (fun h => by rw [hd] at h; cases h), ?_⟩
  · have := run_enterLoop_outer (P := P) (w := w) fn a.tmps ps assign body
    rw [hD] at this
    exact this
  · simp only [resolve, hg]
    simp [go_sem]
  · intro f' hf'
    simp [Target.leads] at hf'
    subst hf'; exact hFg
  · simp [invoke, go_sem, eg]
  refine (hseq (D + 1) J Jx w1 hbel bJ bJx ?_ hJ0 _).mono ?_
  · -- one round
    rintro m own pre x W ⟨hi, hl, hk, hp, hq⟩ hG
    have hlt : D + 1 < W.heap.size := at_ hl
    have hltD : D < W.heap.size := at_ hk
    refine YieldAt.level hd (m := k) ⟨fn, _, assign, body, run_yield (P := P) (args := encs x) hl (hps x), roundIn_of_wpIn hfn (hassign _ x W _ ⟨_, run_beginRound hl rfl, ?_⟩)⟩
    let W2 := W.putObj (D + 1) (.loop (rec' .busy none))
    have hz2 : W2.heap.size = W.heap.size := by simp [W2]
    have hl2 : W2.heap[D + 1]? = some (.loop (rec' .busy none)) := World.putObj_heap_same hlt
    have hk2 : W2.heap[D]? = some (.deferred (some [])) := (World.putObj_heap_other (by omega)).trans hk
    have hi2 : I (with2 own) pre W2 := hI _ _ _ _ _ hi (.putObj _ (.inr (.inr rfl)) _) (fun b hb => .inl hb)
    have ends : ∀ (jump : Option Code) (W3 : World), Keeps (with2 own) W2 W3 → ∃ W4, (Instr.endRound (D + 1) jump).run P W3 = .ok (.bool jump.isNone) W4 ∧ W4 = W3.putObj (D + 1) (.loop (rec' (if jump.isNone then .ready else .done) jump)) ∧
        D + 1 < W3.heap.size ∧ W4.heap[D + 1]? = some (.loop (rec' (if jump.isNone then .ready else .done) jump)) ∧ W4.heap[D]? = some (.deferred (some [])) ∧ Keeps own W W4 := fun jump W3 h3 => by
      have hl3 := (h3.block (D + 1) (by omega) (.inr (.inr rfl))).trans hl2
      have hlt3 := at_ hl3
      have hz3 := h3.size
      refine ⟨_, run_endRound (P := P) jump hl3, rfl, hlt3, World.putObj_heap_same hlt3, (World.putObj_heap_other (by omega)).trans ((h3.block D (by omega) (.inr (.inl rfl))).trans hk2), ⟨by simp; omega, fun j hj ho => ?_⟩⟩
      have hne : j ≠ D + 1 := fun e => hq (by rw [← e]; exact ho)
      exact (World.putObj_heap_other hne).trans ((h3.block j (by omega) (.inl ho)).trans (World.putObj_heap_other hne))
    refine wpIn_mono (hbody _ _ pre x W2 hi2 hG) ?_
    have leaves : ∀ (c : Code) (W3 : World), Keeps (with2 own) W2 W3 → Ix c (with2 own) (pre ++ [x]) W3 → ∃ v w', (Instr.endRound (D + 1) (some c)).run P W3 = .ok v w' ∧
        (Keeps own W w' ∧ ((Ending.returned v = .returned (.bool true) ∧ J own (pre ++ [x]) w') ∨ (Ending.returned v = .returned (.bool false) ∧ Jx own (pre ++ [x]) w'))) := fun c W3 h3 hx => by
      obtain ⟨W4, e1, e2, e3, e5, e6, e7⟩ := ends (some c) W3 h3
      subst e2
      exact ⟨_, _, e1, e7, .inr ⟨rfl, c, hIx c _ _ _ _ _ hx (.putObj _ (.inr (.inr rfl)) _) (fun b hb => .inl hb), e5, e6, hp, hq⟩⟩
    rintro e a3 W3 hpost
    cases e with
    | normal =>
      obtain ⟨h3, hi3⟩ := hpost
      obtain ⟨W4, e1, e2, e3, e5, e6, e7⟩ := ends none W3 h3
      subst e2
      exact ⟨_, _, e1, e7, .inl ⟨rfl, hI _ _ _ _ _ hi3 (.putObj _ (.inr (.inr rfl)) _) (fun b hb => .inl hb), e5, e6, hp, hq⟩⟩
    | ret => exact leaves _ W3 hpost.1 hpost.2
    | exit id => exact leaves _ W3 hpost.1 hpost.2
    | goto t => exact leaves _ W3 hpost.1 hpost.2
    | panic ch => exact hpost.elim
    | outgrown => exact hpost.elim
  · -- behind the iterator
    rintro e W2 ⟨⟨v, rfl⟩, own, (⟨xs, hS, hi, hl, hk, hp, hq⟩ | ⟨pre, hSp, c, hi, hl, hk, hp, hq⟩)⟩
    · exact ⟨none, _, run_endLoop (P := P) hl (by simp [rec']), hdone D (with2 own) xs _ (.inr (.inl rfl)) hS (hI _ _ _ _ _ hi (.putObj _ (.inr (.inr rfl)) _) (fun b hb => .inl hb)) ((World.putObj_heap_other (by omega)).trans hk)⟩
    · exact ⟨some c, _, run_endLoop (P := P) hl (by simp [rec']), hstop D (with2 own) c pre _ (.inr (.inl rfl)) hSp (hIx c _ _ _ _ _ hi (.putObj _ (.inr (.inr rfl)) _) (fun b hb => .inl hb)) ((World.putObj_heap_other (by omega)).trans hk)⟩
end Go.Proofs.YtlfeaamfgfegdaaDoor.rg
