/-
  mask.Parse reads a set, or returns the error.
-/
import Derived.Test.YtjckgehlojcinaaDoorRng
import Derived.Test.YtjckgehlojcinaaDoorSplit
namespace Go.Proofs.YtjckgehlojcinaaDoor.mk
open Go.RowKit Go.Shelf Go.Proofs.YtjckgehlojcinaaDoor.rg
attribute [local go_sem] Oper.semAt_some

/-- the range of an item, if it is one -/
def rngO (s : ByteArray) : Option (Nat × Nat) := if (rngR s).2.2 = true then some ((rngR s).1.toNat, (rngR s).2.1.toNat) else none

/-- what is made of the items from a set and a mark on -/
def parL : List ByteArray → Nat → Bool → Nat × Int
  | [], M, b => if b then (0, 10) else (M, 0)
  | it :: r, M, b => match rngO it with
    | none => (0, 11)
    | some (a, z) => if z < 32 then parL r (M ||| (2 ^ (z + 1) - 2 ^ a)) b else parL r M true

theorem rngO_none {s : ByteArray} {a z : Int} (h : rngR s = (a, z, false)) : rngO s = none := by unfold rngO; rw [h]; rfl
theorem rngO_some {s : ByteArray} {a z : Int} (h : rngR s = (a, z, true)) : ∃ A Z : Nat, a = A ∧ z = Z ∧ A ≤ Z ∧ Z < 10000 ∧ rngO s = some (A, Z) := by
  have ho : rngO s = some (a.toNat, z.toNat) := by unfold rngO; rw [h]; rfl
  rw [ho]
  unfold rngR at h
  split at h
  · cases h
  · rename_i n hn
    split at h
    · cases h
      exact ⟨n, n, rfl, rfl, Nat.le_refl _, numO_lt hn, by simp⟩
    · split at h
      · cases h
      · rename_i m hm
        simp only [Prod.mk.injEq, decide_eq_true_eq] at h
        obtain ⟨rfl, rfl, h3⟩ := h
        exact ⟨n, m, rfl, rfl, h3, numO_lt hm, by simp⟩

/-- between two rounds: the set so far, the mark, the results' boxes as they were made -/
def Inv (N : Nat) (w : World) (pre : List ByteArray) (W : World) : Prop :=
  ∃ (M : Nat) (b : Bool), Boxed W N 25 (.int .u64 0) ∧ Boxed W (N + 1) 26 (.int .i64 0) ∧ Boxed W (N + 1 + 1) 25 (.int .u64 (M : Int)) ∧ Boxed W (N + 1 + 1 + 1) 4 (.bool b) ∧
    M < 4294967296 ∧ (∀ r, parL (pre ++ r) 0 false = parL r M b) ∧ Below N w W

/-- behind a round that returned -/
def Left (N : Nat) (w : World) (c : Code) (pre : List ByteArray) (W : World) : Prop :=
  c = .ret ∧ Boxed W N 25 (.int .u64 0) ∧ Boxed W (N + 1) 26 (.int .i64 11) ∧ (∀ r, parL (pre ++ r) 0 false = (0, 11)) ∧ Below N w W

theorem below_drew {N : Nat} {w W : World} (h : Below N w W) : Below N w W.drew := h.trans ⟨rfl, rfl, rfl, Nat.le_refl _, fun _ _ => rfl⟩

theorem inv_bears (N : Nat) (w : World) : rg.Bears (fun b => b = N + 1 + 1 + 1 + 1) (Inv N w) := {
  box := fun s W b v hb ⟨M, m, h0, h1, h2, h3, hM, hp, hB⟩ => by
    subst hb
    exact ⟨M, m, other h0 (by omega) _, other h1 (by omega) _, other h2 (by omega) _, other h3 (by omega) _, hM, hp, hB.setCell (p := ⟨N + 1 + 1 + 1 + 1, 0, none⟩) (by show N ≤ N + 1 + 1 + 1 + 1; omega) _⟩
  new := fun s W o ⟨M, m, h0, h1, h2, h3, hM, hp, hB⟩ => ⟨M, m, h0.alloc _, h1.alloc _, h2.alloc _, h3.alloc _, hM, hp, hB.alloc (by have := h0.lt; omega) _⟩
  drew := fun s W ⟨M, m, h0, h1, h2, h3, hM, hp, hB⟩ => ⟨M, m, h0, h1, h2, h3, hM, hp, below_drew hB⟩ }

theorem left_bears (N : Nat) (w : World) (c : Code) : rg.Bears (fun b => b = N + 1 + 1 + 1 + 1) (Left N w c) := {
  box := fun s W b v hb ⟨hc, h0, h1, hp, hB⟩ => by
    subst hb
    exact ⟨hc, other h0 (by omega) _, other h1 (by omega) _, hp, hB.setCell (p := ⟨N + 1 + 1 + 1 + 1, 0, none⟩) (by show N ≤ N + 1 + 1 + 1 + 1; omega) _⟩
  new := fun s W o ⟨hc, h0, h1, hp, hB⟩ => ⟨hc, h0.alloc _, h1.alloc _, hp, hB.alloc (by have := h0.lt; omega) _⟩
  drew := fun s W ⟨hc, h0, h1, hp, hB⟩ => ⟨hc, h0, h1, hp, below_drew hB⟩ }

theorem put_boxed {W : World} {B l : Nat} {t : TypeId} {v : Value} (h : Boxed W B t v) (hne : B ≠ l) (o : Obj) : Boxed (W.putObj l o) B t v := (World.putObj_heap_other hne).trans h

theorem inv_books (N : Nat) (w : World) : Books (N + 7) (Inv N w) := fun s W l o o' ⟨M, m, h0, h1, h2, h3, hM, hp, hB⟩ hl ho hc =>
  ⟨M, m, put_boxed h0 (by omega) _, put_boxed h1 (by omega) _, put_boxed h2 (by omega) _, put_boxed h3 (by omega) _, hM, hp, hB.grown (grownBy_putObj' W l o') (by have := h0.lt; omega) (fun k e => by cases e; omega)⟩

theorem left_books (N : Nat) (w : World) (c : Code) : Books (N + 7) (Left N w c) := fun s W l o o' ⟨hc', h0, h1, hp, hB⟩ hl ho hc =>
  ⟨hc', put_boxed h0 (by omega) _, put_boxed h1 (by omega) _, hp, hB.grown (grownBy_putObj' W l o') (by have := h0.lt; omega) (fun k e => by cases e; omega)⟩

theorem kp_t {a b c : Nat} {A B C : World} (h : Kp3 a b c A B) (k : Kp3 a b c B C) : Kp3 a b c A C := ⟨k.1.trans h.1, k.2.1.trans h.2.1, k.2.2.trans h.2.2⟩

theorem keeps_drewN (W : World) (q : Nat) : KeepsOthers W (W.drewN q) := ⟨Nat.le_refl _, fun _ _ h _ => h⟩
theorem boxed_drewN {W : World} {B : Nat} {t : TypeId} {v : Value} (h : Boxed W B t v) (q : Nat) : Boxed (W.drewN q) B t v := h

theorem orsp_num (M A Z : Nat) (hM : M < 4294967296) (hZ : Z < 32) : bits .or .u64 (M : Int) ((2 ^ (Z + 1) - 2 ^ A : Nat) : Int) = ((M ||| (2 ^ (Z + 1) - 2 ^ A) : Nat) : Int) :=
  u64_or_nat M _ (by omega) (span_lt A Z hZ)
theorem orsp_lt (M A Z : Nat) (hM : M < 4294967296) (hZ : Z < 32) : M ||| (2 ^ (Z + 1) - 2 ^ A) < 4294967296 := by
  have h1 : 2 ^ (Z + 1) - 2 ^ A < 2 ^ 32 := by
    have h2 : (2 : Nat) ^ (Z + 1) ≤ 2 ^ 32 := Nat.pow_le_pow_right (by omega) (by omega)
    have := Nat.two_pow_pos A
    omega
  have := Nat.or_lt_two_pow (n := 32) (by simpa using hM) h1
  simpa using this

theorem put_below {N M D : Nat} {w W : World} {o : Obj} (hN : M = N) (hD : N ≤ D) (h : Below N w W) : Below M w (W.putObj D o) := by
  subst hN
  refine h.trans ⟨rfl, rfl, rfl, by simp, fun k hk => World.putObj_heap_other (by omega)⟩

theorem newAt {w : World} {n : Nat} {t : TypeId} {v : Value} (h : w.heap.size = n) : Boxed (w.alloc (.cells #[v] t)) n t v := by subst h; exact Boxed.new w t v

set_option maxHeartbeats 4000000 in
set_option maxRecDepth 100000 in
theorem parse_core (s : ByteArray) (w : World) (hs : s.size ≤ 100000) (h1 : (s.toList == [97, 108, 108]) = false) (h2 : (s.toList == [110, 111, 110, 101]) = false) :
    Calls Tryd.prog 22 #[.string s] w fun e w' => e = .returned (.tuple #[.int .u64 ((parL (cutB 44 s) 0 false).1 : Int), .int .i64 (parL (cutB 44 s) 0 false).2]) ∧ Below w.heap.size w w' := by
  refine (callsIn_wide (n := 6)).1 ?_
  refine callsIn_of_wp_marks Tryd.func22 rfl trivial ?_ rfl
  simp only [Tryd.ntmps22, List.size_toArray, List.length_cons, List.length_nil, Nat.reduceAdd, Nat.reduceSub, Array.replicate_succ, Array.replicate_zero, List.push_toArray, List.append_toArray, List.nil_append, List.cons_append]
  gi_wp2_with fail
  refine ⟨trivial, (callsIn_wide.2 (seq_any 44 s _)).mono ?_⟩
  rintro e w1 ⟨rfl, hw1⟩
  have p0 : Boxed w1 w.heap.size 25 (.int .u64 0) := by rw [hw1]; exact ((((((newAt rfl).alloc _).alloc _).alloc _).alloc _).alloc _).alloc _
  have p1 : Boxed w1 (w.heap.size + 1) 26 (.int .i64 0) := by rw [hw1]; exact (((((newAt (by simp)).alloc _).alloc _).alloc _).alloc _).alloc _
  have p2 : Boxed w1 (w.heap.size + 1 + 1) 25 (.int .u64 0) := by rw [hw1]; exact ((((newAt (by simp)).alloc _).alloc _).alloc _).alloc _
  have p3 : Boxed w1 (w.heap.size + 1 + 1 + 1) 4 (.bool false) := by rw [hw1]; exact (((newAt (by simp)).alloc _).alloc _).alloc _
  have p4 : Boxed w1 (w.heap.size + 1 + 1 + 1 + 1) 9 (.string s) := by rw [hw1]; exact ((newAt (by simp)).alloc _).alloc _
  have p5 : Boxed w1 (w.heap.size + 1 + 1 + 1 + 1 + 1) 9 (.string ⟨#[44]⟩) := by rw [hw1]; exact (newAt (by simp)).alloc _
  have p6 : Boxed w1 (w.heap.size + 1 + 1 + 1 + 1 + 1 + 1) 3 (.int .i64 0) := by rw [hw1]; exact newAt (by simp)
  have hsz : w1.heap.size = w.heap.size + 7 := by rw [hw1]; simp
  have hb : Below w.heap.size w w1 := by
    rw [hw1]
    exact ((((((((Below.refl _ w).alloc (Nat.le_refl _) _).alloc (by simp) _).alloc (by simp; omega) _).alloc (by simp; omega) _).alloc (by simp; omega) _).alloc (by simp; omega) _).alloc (by simp; omega) _)
  simp only [World.size_alloc]
  clear hw1
  generalize hN : w.heap.size = N at *
  have HN := Lib.hid hN
  clear hN
  gi_wp2_with fail
  refine range_iter (own := fun b => b = N + 1 + 1 + 1 + 1) (Kp := Kp3 (N + 1 + 1 + 1 + 1 + 1) (N + 1 + 1 + 1 + 1) (N + 1 + 1 + 1 + 1 + 2)) rfl (by omega) (gf := 51)
    (lb := #[.pointer (some ⟨N + 1 + 1 + 1 + 1 + 1, 0, none⟩), .pointer (some ⟨N + 1 + 1 + 1 + 1, 0, none⟩), .pointer (some ⟨N + 1 + 1 + 1 + 1 + 2, 0, none⟩)]) rfl trivial (enters_of Tryd.func51 (by kernel_rfl) rfl)
    (split_iter 5 (by omega) 44 s hs _ _ _ (by omega) (by omega) w1 p5 p4 p6) (fun b hb => by omega) (Below.refl _ _) (fun _ => rfl) kp_t
    (fun W l o' hl hlt => ⟨World.putObj_heap_other (by omega), World.putObj_heap_other (by omega), World.putObj_heap_other (by omega)⟩)
    (Inv N w) (Left N w) (inv_bears N w) (left_bears N w) (by rw [hsz]; exact inv_books N w) (fun c => by rw [hsz]; exact left_books N w c)
    ⟨0, false, p0, p1, p2, p3, by omega, fun r => rfl, hb⟩
    (fun x => { tmps := #[.string s, undef, .pointer (some ⟨N, 0, none⟩), .pointer (some ⟨N + 1, 0, none⟩), .pointer (some ⟨N + 1 + 1, 0, none⟩), .pointer (some ⟨N + 1 + 1 + 1, 0, none⟩), .string x, undef, undef, undef, .string s,
      .bool false, .bool false, .bool false, .bool false, .string s,
      .func (.func 51) #[] #[.pointer (some ⟨N + 1 + 1 + 1 + 1 + 1, 0, none⟩), .pointer (some ⟨N + 1 + 1 + 1 + 1, 0, none⟩), .pointer (some ⟨N + 1 + 1 + 1 + 1 + 2, 0, none⟩)],
      .string x, undef, undef, undef, undef, undef, undef, undef, undef, undef, undef, undef, undef, undef, undef, undef, undef, undef, undef], defers := [] }) ?assign ?body ?done ?stop
  case assign =>
    intro l x W K hK
    gi_wp2
    exact hK
  case body =>
    rintro l pre x W ⟨M, m, q0, q1, q2, q3, hM, hp, hB⟩ hG
    clear p0 p1 p2 p3 p4 p5 p6 hb
    have hx : x.size ≤ 100000 := Nat.le_trans (cutB_size 44 s x (hG.subset (by simp))) hs
    have d0 := q0.cell
    have d1 := q1.cell
    have d2 := q2.cell
    have d3 := q3.cell
    have g0 := q0.frozen
    have g1 := q1.frozen
    have g2 := q2.frozen
    have g3 := q3.frozen
    have HP := Lib.hid hp
    have CR := Lib.hid (range_any x W hx)
    clear hp
    cases hr : rngR x with
    | mk a zf =>
    obtain ⟨z, f⟩ := zf
    rw [hr] at CR
    dsimp only at CR
    cases f
    · have HO := Lib.hid (rngO_none hr)
      clear hr
      gi_wp2_with fail
      refine ⟨trivial, (CallsIn.inRound l (callsIn_wide.2 CR.out)).mono ?_⟩
      rintro e w' ⟨rfl, q, rfl⟩
      gi_wp2_with fail
      have k1 : KeepsOthers W (((W.drewN q).setCell ⟨N, 0, none⟩ (.int .u64 0)).setCell ⟨N + 1, 0, none⟩ (.int .i64 11)) := (keeps_drewN W q).trans ((KeepsOthers.setCell _ _ _).trans (KeepsOthers.setCell _ _ _))
      refine ⟨k1, rfl, ?_, ?_, ?_, ?_⟩
      · exact other ((boxed_drewN q0 q).set _) (by omega) _
      · exact (other (boxed_drewN q1 q) (by omega) _).set _
      · intro r
        rw [List.append_assoc, HP.out]
        show parL (x :: r) M m = _
        unfold parL
        rw [HO.out]
      · exact ((below_drewN hB q).setCell (p := ⟨N, 0, none⟩) (Nat.le_refl _) _).setCell (p := ⟨N + 1, 0, none⟩) (by show N ≤ N + 1; omega) _
    · obtain ⟨A, Z, rfl, rfl, hAZ, hZ, ho⟩ := rngO_some hr
      have HO := Lib.hid ho
      clear ho hr
      have CI := fun W => isCall_any (Z : Int) W
      by_cases hz : Z < 32
      · rw [show decide (0 ≤ (Z : Int) ∧ (Z : Int) < 32) = true by simp; omega] at CI
        have CI1 := Lib.hid CI
        clear CI
        have CS := Lib.hid (fun W => span_any A Z W hAZ hz)
        gi_wp2_with fail
        refine ⟨trivial, (CallsIn.inRound l (callsIn_wide.2 CR.out)).mono ?_⟩
        rintro e w' ⟨rfl, q, rfl⟩
        gi_wp2_with fail
        refine ⟨trivial, (CallsIn.inRound l (callsIn_wide.2 (CI1.out _))).mono ?_⟩
        rintro e w' ⟨rfl, rfl⟩
        gi_wp2_with fail
        gi_region_with (refine ⟨trivial, ?_⟩; gi_at_call 28; refine (CallsIn.inRound l (callsIn_wide.2 (CS.out _))).mono ?_; rintro e w' ⟨rfl, nq, rfl⟩)
        all_goals
          rw [orsp_num M A Z hM hz]
          refine ⟨(keeps_drewN W _).trans (KeepsOthers.setCell _ _ _), ⟨Below.heap_setCell _ _ _ _ (by show _ ≠ N + 1 + 1; omega), Below.heap_setCell _ _ _ _ (by show _ ≠ N + 1 + 1; omega), Below.heap_setCell _ _ _ _ (by show _ ≠ N + 1 + 1; omega)⟩,
            _, m, other (boxed_drewN q0 _) (by omega) _, other (boxed_drewN q1 _) (by omega) _, (boxed_drewN q2 _).set _, other (boxed_drewN q3 _) (by omega) _, orsp_lt M A Z hM hz, ?_, (below_drewN hB _).setCell (p := ⟨N + 1 + 1, 0, none⟩) (by show N ≤ N + 1 + 1; omega) _⟩
          intro r
          rw [List.append_assoc, HP.out]
          show parL (x :: r) M m = _
          rw [parL, HO.out]
          show (if Z < 32 then _ else _) = _
          rw [if_pos hz]
      · rw [show decide (0 ≤ (Z : Int) ∧ (Z : Int) < 32) = false by simp; omega] at CI
        have CI1 := Lib.hid CI
        clear CI
        gi_wp2_with fail
        refine ⟨trivial, (CallsIn.inRound l (callsIn_wide.2 CR.out)).mono ?_⟩
        rintro e w' ⟨rfl, q, rfl⟩
        gi_wp2_with fail
        refine ⟨trivial, (CallsIn.inRound l (callsIn_wide.2 (CI1.out _))).mono ?_⟩
        rintro e w' ⟨rfl, rfl⟩
        gi_wp2_with fail
        refine ⟨(keeps_drewN W q).trans (KeepsOthers.setCell _ _ _), ⟨Below.heap_setCell _ _ _ _ (by show _ ≠ N + 1 + 1 + 1; omega), Below.heap_setCell _ _ _ _ (by show _ ≠ N + 1 + 1 + 1; omega), Below.heap_setCell _ _ _ _ (by show _ ≠ N + 1 + 1 + 1; omega)⟩,
          M, true, other (boxed_drewN q0 q) (by omega) _, other (boxed_drewN q1 q) (by omega) _, other (boxed_drewN q2 q) (by omega) _, (boxed_drewN q3 q).set _, hM, ?_, (below_drewN hB q).setCell (p := ⟨N + 1 + 1 + 1, 0, none⟩) (by show N ≤ N + 1 + 1 + 1; omega) _⟩
        intro r
        rw [List.append_assoc, HP.out]
        show parL (x :: r) M m = _
        rw [parL, HO.out]
        show (if Z < 32 then _ else _) = _
        rw [if_neg hz]
  case done =>
    rintro D xs W hD rfl ⟨M, m, q0, q1, q2, q3, hM, hp, hB⟩ hK
    have d0 := q0.cell
    have d1 := q1.cell
    have d2 := q2.cell
    have d3 := q3.cell
    have g0 := q0.frozen
    have g1 := q1.frozen
    have hp0 := hp []
    rw [List.append_nil] at hp0
    cases m
    · have HP : Hid (parL (cutB 44 s) 0 false = (M, 0)) := Lib.hid hp0
      clear hp hp0
      gi_wp2_with fail
      have hK' := ((KeepsOthers.setCell W ⟨N, 0, none⟩ (.int .u64 (M : Int))).trans (KeepsOthers.setCell _ ⟨N + 1, 0, none⟩ (.int .i64 0))).same D _ hK rfl
      have r0 : (((W.setCell ⟨N, 0, none⟩ (.int .u64 (M : Int))).setCell ⟨N + 1, 0, none⟩ (.int .i64 0)).putObj D (.deferred none)).cell? ⟨N, 0, none⟩ = some (.int .u64 (M : Int)) := (put_boxed (other (q0.set _) (by omega) _) (by omega) _).cell
      have r1 : (((W.setCell ⟨N, 0, none⟩ (.int .u64 (M : Int))).setCell ⟨N + 1, 0, none⟩ (.int .i64 0)).putObj D (.deferred none)).cell? ⟨N + 1, 0, none⟩ = some (.int .i64 0) := (put_boxed ((other q1 (by omega) _).set _) (by omega) _).cell
      refine ⟨by simp, .inl ⟨_, _, rfl, run_takeDeferred hK', ?_⟩⟩
      refine ⟨.tuple #[.int .u64 (M : Int), .int .i64 0], ?_, ret_pair (by rw [HP.out]) (by rw [HP.out]), ?_⟩
      · simp [results, Tryd.f22, go_sem, r0, r1]
      · exact put_below HN.out (by omega) ((hB.setCell (p := ⟨N, 0, none⟩) (Nat.le_refl _) _).setCell (p := ⟨N + 1, 0, none⟩) (by show N ≤ N + 1; omega) _)
    · have HP : Hid (parL (cutB 44 s) 0 false = (0, 10)) := Lib.hid hp0
      clear hp hp0
      gi_wp2_with fail
      have hK' := ((KeepsOthers.setCell W ⟨N, 0, none⟩ (.int .u64 0)).trans (KeepsOthers.setCell _ ⟨N + 1, 0, none⟩ (.int .i64 10))).same D _ hK rfl
      have r0 : (((W.setCell ⟨N, 0, none⟩ (.int .u64 0)).setCell ⟨N + 1, 0, none⟩ (.int .i64 10)).putObj D (.deferred none)).cell? ⟨N, 0, none⟩ = some (.int .u64 0) := (put_boxed (other (q0.set _) (by omega) _) (by omega) _).cell
      have r1 : (((W.setCell ⟨N, 0, none⟩ (.int .u64 0)).setCell ⟨N + 1, 0, none⟩ (.int .i64 10)).putObj D (.deferred none)).cell? ⟨N + 1, 0, none⟩ = some (.int .i64 10) := (put_boxed ((other q1 (by omega) _).set _) (by omega) _).cell
      refine ⟨by simp, .inl ⟨_, _, rfl, run_takeDeferred hK', ?_⟩⟩
      refine ⟨.tuple #[.int .u64 0, .int .i64 10], ?_, ret_pair (m := 0) (by rw [HP.out]) (by rw [HP.out]), ?_⟩
      · simp [results, Tryd.f22, go_sem, r0, r1]
      · exact put_below HN.out (by omega) ((hB.setCell (p := ⟨N, 0, none⟩) (Nat.le_refl _) _).setCell (p := ⟨N + 1, 0, none⟩) (by show N ≤ N + 1; omega) _)
  case stop =>
    rintro D c pre W hD hS ⟨rfl, q0, q1, hp, hB⟩ hK
    have d0 := q0.cell
    have d1 := q1.cell
    gi_wp2_with fail
    have r0 : (W.putObj D (.deferred none)).cell? ⟨N, 0, none⟩ = some (.int .u64 0) := (put_boxed q0 (by omega) _).cell
    have r1 : (W.putObj D (.deferred none)).cell? ⟨N + 1, 0, none⟩ = some (.int .i64 11) := (put_boxed q1 (by omega) _).cell
    have HP : Hid (parL (cutB 44 s) 0 false = (0, 11)) := Lib.hid (by obtain ⟨r, hr⟩ := hS; rw [← hr]; exact hp r)
    refine ⟨by simp, .inl ⟨_, _, rfl, run_takeDeferred hK, ?_⟩⟩
    refine ⟨.tuple #[.int .u64 0, .int .i64 11], ?_, ret_pair (m := 0) (by rw [HP.out]) (by rw [HP.out]), ?_⟩
    · simp [results, Tryd.f22, go_sem, r0, r1]
    · exact put_below HN.out (by omega) hB

/-- what mask.Parse answers -/
def parS (s : ByteArray) : Nat × Int :=
  if s.toList = [97, 108, 108] then (4294967295, 0) else if s.toList = [110, 111, 110, 101] then (0, 0) else parL (cutB 44 s) 0 false

set_option maxHeartbeats 1000000 in
theorem parse_any (s : ByteArray) (w : World) (hs : s.size ≤ 100000) :
    Calls Tryd.prog 22 #[.string s] w fun e w' => e = .returned (.tuple #[.int .u64 ((parS s).1 : Int), .int .i64 (parS s).2]) ∧ Below w.heap.size w w' := by
  unfold parS
  by_cases h1 : s.toList = [97, 108, 108]
  · rw [if_pos h1]
    have h1' : (s.toList == [97, 108, 108]) = true := by rw [h1]; rfl
    clear h1
    go_enter Tryd.func22, Tryd.ntmps22
    go_wp2_with fail
    exact bodyPost_ret (v := .tuple #[.int .u64 4294967295, .int .i64 0]) (by simp [results, Tryd.f22, go_sem]) rfl ⟨rfl, ((Below.refl _ w).alloc (Nat.le_refl _) _).alloc (by simp) _⟩
  · rw [if_neg h1]
    by_cases h2 : s.toList = [110, 111, 110, 101]
    · rw [if_pos h2]
      have h1' : (s.toList == [97, 108, 108]) = false := beq_eq_false_iff_ne.2 h1
      have h2' : (s.toList == [110, 111, 110, 101]) = true := by rw [h2]; rfl
      clear h1 h2
      go_enter Tryd.func22, Tryd.ntmps22
      go_wp2_with fail
      exact bodyPost_ret (v := .tuple #[.int .u64 0, .int .i64 0]) (by simp [results, Tryd.f22, go_sem]) rfl ⟨rfl, ((Below.refl _ w).alloc (Nat.le_refl _) _).alloc (by simp) _⟩
    · rw [if_neg h2]
      exact parse_core s w hs (beq_eq_false_iff_ne.2 h1) (beq_eq_false_iff_ne.2 h2)
end Go.Proofs.YtjckgehlojcinaaDoor.mk
