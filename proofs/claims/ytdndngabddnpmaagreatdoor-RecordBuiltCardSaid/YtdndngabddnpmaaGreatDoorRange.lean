/-
  A law for a range over a function whose iterator keeps its state in cells of its own (blocks that it may write between two rounds), over any program.
-/
import Derived.RangeFuncNested
import Derived.RangeFuncBound
import Derived.RangeFuncCalls
import Derived.RangeFuncLeaves
import Derived.RangeFuncBox
namespace Go.Proofs.YtdndngabddnpmaaGreatDoor.rg
open Go.RowKit
variable {F : Fence} {n : Nat} {P : Program}

/-- J abides what the iterator does beside the rounds: stores into its own boxes, new blocks, draws. -/
structure Bears {β : Type} (own : Nat → Prop) (J : β → World → Prop) : Prop where
  box : ∀ s W (b : Nat) (v : Value), own b → J s W → J s (W.setCell ⟨b, 0, none⟩ v)
  new : ∀ s W (o : Obj), J s W → J s (W.alloc o)
  drew : ∀ s W, J s W → J s W.drew

/-- What an iterator promises, for whatever J its rounds keep. 'G pre x': it hands x over behind pre. -/
def Iter {α : Type} (F : Fence) (n : Nat) (P : Program) (g : Nat) (lb : Array Value) (own : Nat → Prop) (Kp : World → World → Prop) (encs : α → Array Value) (S Sp : List α → Prop) (G : List α → α → Prop) (w : World) : Prop :=
  ∀ (l : Nat) (J Jx : List α → World → Prop) (W : World), Below w.heap.size w W → Bears own J → Bears own Jx →
    (∀ pre x W1, J pre W1 → G pre x → YieldAt F (n - 1) P l (encs x) W1 fun e W' =>
      (e = .returned (.bool true) ∧ J (pre ++ [x]) W' ∧ Kp W1 W') ∨ (e = .returned (.bool false) ∧ Jx (pre ++ [x]) W')) →
    J [] W →
    CallsIn F n P g (#[.func (.yield l) #[] #[]] ++ lb) W fun e W' => (∃ v, e = .returned v) ∧ ((∃ xs, S xs ∧ J xs W') ∨ (∃ pre, Sp pre ∧ Jx pre W'))

/-- The caller's invariant abides the turn of a block of the loop's own book-keeping. -/
def Books {β : Type} (B : Nat) (I : β → World → Prop) : Prop :=
  ∀ s W (l : Nat) (o o' : Obj), I s W → B ≤ l → W.heap[l]? = some o → o.isCells = false → I s (W.putObj l o')

theorem range_iter {α : Type} {g : Operand} {ps : Array Tmp} {assign body : Code} {Q : Exit → Act → World → Prop} {a : Act} {w : World}
    (hro : F.round = none) (h1 : 1 ≤ n) {gf : Nat} {lb : Array Value} (hg : a.eval g = .func (.func gf) #[] lb) (hFg : F.fn gf) (eg : ∀ args w, (callFunc gf args).run P w = .ok (.enter gf args) w)
    {own : Nat → Prop} {Kp : World → World → Prop} {encs : α → Array Value} {S Sp : List α → Prop} {G : List α → α → Prop} {w0 : World}
    (hseq : Iter F (n - 1) P gf lb own Kp encs S Sp G w0) (hown : ∀ b, own b → b < w.heap.size) (hb0 : Below w0.heap.size w0 w) (hps : ∀ x, (encs x).size = ps.size)
    (hKt : ∀ {A B C : World}, Kp A B → Kp B C → Kp A C) (hKb : ∀ (W : World) (l : Nat) (o' : Obj), w.heap.size ≤ l → l < W.heap.size → Kp W (W.putObj l o'))
    (I : List α → World → Prop) (Ix : Code → List α → World → Prop) (hI : Bears own I) (hIx : ∀ c, Bears own (Ix c)) (bI : Books w.heap.size I) (bIx : ∀ c, Books w.heap.size (Ix c)) (h0 : I [] w) (a₁ : α → Act)
    (hassign : ∀ (l : Nat) (x : α) (W : World) (K : Act → World → Prop), K (a₁ x) W →
      assign.wpIn (F.inRound l) (n - 1 - 1) P (Exit.then K (fun _ _ _ => False)) { tmps := (ps.zip (encs x)).foldl (fun t (p, v) => t.setIfInBounds p v) a.tmps, defers := [] } W)
    (hbody : ∀ (l : Nat) (pre : List α) (x : α) (W : World), I pre W → G pre x → body.wpIn (F.inRound l) (n - 1 - 1) P (ownPostK Kp I Ix (pre ++ [x]) W) (a₁ x) W)
    (hdone : ∀ (D : Nat) (xs : List α) (W : World), w.heap.size ≤ D → S xs → I xs W → W.heap[D]? = some (.deferred (some [])) → Q .normal { a with defers := { target := .collected D, args := #[] } :: a.defers } W)
    (hstop : ∀ (D : Nat) (c : Code) (pre : List α) (W : World), w.heap.size ≤ D → Sp pre → Ix c pre W → W.heap[D]? = some (.deferred (some [])) → c.wpIn F n P Q { a with defers := { target := .collected D, args := #[] } :: a.defers } W) :
    (Code.rangeFunc g ps assign body).wpIn F n P Q a w := by
  refine wpIn_rangeFunc fun fn hfn => ?_
  rw [hro]
  generalize hD : w.heap.size = D at *
  -- the record in each of its states
  let rec' : LoopState → Option Code → Loop := fun st pe => { state := st, pending := pe, fn, tmps := a.tmps, params := ps, assign, body, defers := D }
  have hsz : (w.alloc (.deferred (some []))).heap.size = D + 1 := by simp [hD]
  let w1 := (w.alloc (.deferred (some []))).alloc (.loop (rec' .ready none))
  have hl1 : w1.heap[D + 1]? = some (.loop (rec' .ready none)) := by
    have := World.alloc_heap_new (w.alloc (.deferred (some []))) (.loop (rec' .ready none)); rwa [hsz] at this
  have hk1 : w1.heap[D]? = some (.deferred (some [])) := by
    have := World.alloc_heap_new w (.deferred (some []))
    rw [hD] at this
    exact (Below.heap_alloc _ _ _ (by rw [hsz]; omega)).trans this
  let J : List α → World → Prop := fun pre W => I pre W ∧ W.heap[D + 1]? = some (.loop (rec' .ready none)) ∧ W.heap[D]? = some (.deferred (some []))
  let Jx : List α → World → Prop := fun pre W => ∃ c, Ix c pre W ∧ W.heap[D + 1]? = some (.loop (rec' .done (some c))) ∧ W.heap[D]? = some (.deferred (some []))
  have stays : ∀ (W : World) (b : Nat) (v : Value) (o : Obj) (k : Nat), own b → D ≤ k → W.heap[k]? = some o → (W.setCell ⟨b, 0, none⟩ v).heap[k]? = some o := fun W b v o k hb hk h =>
    (Below.heap_setCell W ⟨b, 0, none⟩ v k (by have := hown b hb; show k ≠ b; omega)).trans h
  have grows : ∀ (W : World) (o o' : Obj) (k : Nat), W.heap[k]? = some o → (W.alloc o').heap[k]? = some o := fun W o o' k h =>
    (Below.heap_alloc W o' k (Array.getElem?_eq_some_iff.1 h).1).trans h
  have bJ : Bears own J := ⟨fun s W b v hb ⟨h, i, k⟩ => ⟨hI.box _ _ _ _ hb h, stays _ _ _ _ _ hb (by omega) i, stays _ _ _ _ _ hb (by omega) k⟩,
    fun s W o ⟨h, i, k⟩ => ⟨hI.new _ _ _ h, grows _ _ _ _ i, grows _ _ _ _ k⟩, fun s W ⟨h, i, k⟩ => ⟨hI.drew _ _ h, i, k⟩⟩
  have bJx : Bears own Jx := ⟨fun s W b v hb ⟨c, h, i, k⟩ => ⟨c, (hIx c).box _ _ _ _ hb h, stays _ _ _ _ _ hb (by omega) i, stays _ _ _ _ _ hb (by omega) k⟩,
    fun s W o ⟨c, h, i, k⟩ => ⟨c, (hIx c).new _ _ _ h, grows _ _ _ _ i, grows _ _ _ _ k⟩, fun s W ⟨c, h, i, k⟩ => ⟨c, (hIx c).drew _ _ h, i, k⟩⟩
  have hbel : Below w0.heap.size w0 w1 := hb0.trans ((((Below.refl _ w).alloc (Nat.le_refl _) _).alloc (by rw [hsz, hD]; omega) _).mono (by rw [hD]; exact Nat.le_trans hb0.size (by omega)))
  refine ⟨D + 1, [{ target := .collected D, args := #[] }], w1, { target := .fn (.func gf) lb, args := #[.func (.yield (D + 1)) #[] #[]] }, w1, gf, #[.func (.yield (D + 1)) #[] #[]] ++ lb, w1, ?_, ?_, ?_, ?_, fun _ => h1, ?_⟩
  · have := run_enterLoop_outer (P := P) (w := w) fn a.tmps ps assign body
    rw [hD] at this
    exact this
  · simp only [resolve, hg]
    simp [go_sem]
  · intro f' hf'
    simp [Target.leads] at hf'
    subst hf'; exact hFg
  · simp [invoke, go_sem, eg]
  refine (hseq (D + 1) J Jx w1 hbel bJ bJx ?_ ⟨hI.new _ _ _ (hI.new _ _ _ h0), hl1, hk1⟩).mono ?_
  · -- one round
    rintro pre x W ⟨hi, hl, hk⟩ hG
    have hlt : D + 1 < W.heap.size := (Array.getElem?_eq_some_iff.1 hl).1
    refine ⟨fn, _, assign, body, run_yield (P := P) (args := encs x) hl (hps x), roundIn_of_wpIn hfn (hassign _ x W _ ⟨_, run_beginRound hl rfl, ?_⟩)⟩
    let W2 := W.putObj (D + 1) (.loop (rec' .busy none))
    have hl2 : W2.heap[D + 1]? = some (.loop (rec' .busy none)) := World.putObj_heap_same hlt
    have hk2 : W2.heap[D]? = some (.deferred (some [])) := (World.putObj_heap_other (by omega)).trans hk
    have hw2 : Kp W W2 := hKb _ _ _ (by omega) hlt
    have ends : ∀ (jump : Option Code) (W3 : World), KeepsOthers W2 W3 → ∃ W4, (Instr.endRound (D + 1) jump).run P W3 = .ok (.bool jump.isNone) W4 ∧ W4 = W3.putObj (D + 1) (.loop (rec' (if jump.isNone then .ready else .done) jump)) ∧
        D + 1 < W3.heap.size ∧ W3.heap[D + 1]? = some (.loop (rec' .busy none)) ∧ W4.heap[D + 1]? = some (.loop (rec' (if jump.isNone then .ready else .done) jump)) ∧ W4.heap[D]? = some (.deferred (some [])) := fun jump W3 h3 => by
      have hl3 := h3.same _ _ hl2 rfl
      have hlt3 := (Array.getElem?_eq_some_iff.1 hl3).1
      exact ⟨_, run_endRound (P := P) jump hl3, rfl, hlt3, hl3, World.putObj_heap_same hlt3, (World.putObj_heap_other (by omega)).trans (h3.same _ _ hk2 rfl)⟩
    refine wpIn_mono (hbody _ pre x W2 (bI _ _ _ _ _ hi (by omega) hl rfl) hG) ?_
    have leaves : ∀ (c : Code) (W3 : World), KeepsOthers W2 W3 → Ix c (pre ++ [x]) W3 → ∃ v w', (Instr.endRound (D + 1) (some c)).run P W3 = .ok v w' ∧
        ((Ending.returned v = .returned (.bool true) ∧ J (pre ++ [x]) w' ∧ Kp W w') ∨ (Ending.returned v = .returned (.bool false) ∧ Jx (pre ++ [x]) w')) := fun c W3 h3 hx => by
      obtain ⟨W4, e1, e2, e3, e4, e5, e6⟩ := ends (some c) W3 h3
      subst e2
      exact ⟨_, _, e1, .inr ⟨rfl, c, bIx c _ _ _ _ _ hx (by omega) e4 rfl, e5, e6⟩⟩
    rintro e a3 W3 hp
    cases e with
    | normal =>
      obtain ⟨h3, hkp3, hi3⟩ := hp
      obtain ⟨W4, e1, e2, e3, e4, e5, e6⟩ := ends none W3 h3
      subst e2
      exact ⟨_, _, e1, .inl ⟨rfl, ⟨bI _ _ _ _ _ hi3 (by omega) e4 rfl, e5, e6⟩, hKt (hKt hw2 hkp3) (hKb _ _ _ (by omega) e3)⟩⟩
    | ret => exact leaves _ W3 hp.1 hp.2
    | exit id => exact leaves _ W3 hp.1 hp.2
    | goto t => exact leaves _ W3 hp.1 hp.2
    | panic ch => exact hp.elim
    | outgrown => exact hp.elim
  · -- behind the iterator
    rintro e W2 ⟨⟨v, rfl⟩, (⟨xs, hS, hi, hl, hk⟩ | ⟨pre, hSp, c, hi, hl, hk⟩)⟩
    · exact ⟨none, _, run_endLoop (P := P) hl (by simp [rec']), hdone D xs _ (by omega) hS (bI _ _ _ _ _ hi (by omega) hl rfl) ((World.putObj_heap_other (by omega)).trans hk)⟩
    · exact ⟨some c, _, run_endLoop (P := P) hl (by simp [rec']), hstop D c pre _ (by omega) hSp (bIx c _ _ _ _ _ hi (by omega) hl rfl) ((World.putObj_heap_other (by omega)).trans hk)⟩
end Go.Proofs.YtdndngabddnpmaaGreatDoor.rg
