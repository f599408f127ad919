/-
  strings.SplitSeq at a separator of one byte: it hands over the pieces of the text, in order.
-/
import Derived.Test.YtdndngabddnpmaaGreatDoorRange
import Derived.Test.YtdndngabddnpmaaGreatDoorCut
import Derived.Test.YtdndngabddnpmaaGreatDoorShelf
import Derived.Shelf.Abstract
import Derived.Shelf.RegionOpen
import Derived.WalkKit
import Derived.OwnWalkIn
import Derived.TacticsInMore
import Derived.LoopNIn
import Derived.LoopIn
import Derived.Outline
import Derived.Lib.Hide
namespace Go.Proofs.YtdndngabddnpmaaGreatDoor.rg
open Go.RowKit Go.Shelf
attribute [local go_sem] Oper.semAt_some

/-- how much of the text is left -/
def left (b : Nat) (w : World) : Nat := match w.cell? ⟨b, 0, none⟩ with
  | some (.string t) => t.size
  | _ => 0

/-- what the rounds keep of the iterator's boxes -/
def Kp3 (a b c : Nat) (W W' : World) : Prop := W'.heap[a]? = W.heap[a]? ∧ W'.heap[b]? = W.heap[b]? ∧ W'.heap[c]? = W.heap[c]?

theorem other {W : World} {b b' : Nat} {t : TypeId} {v : Value} (h : Boxed W b t v) (hne : b ≠ b') (u : Value) : Boxed (W.setCell ⟨b', 0, none⟩ u) b t v := (Below.heap_setCell W ⟨b', 0, none⟩ u b hne).trans h

set_option maxHeartbeats 2000000 in
set_option maxRecDepth 100000 in
theorem split_iter (n : Nat) (hn : 1 ≤ n) (c : UInt8) (s : ByteArray) (hs : s.size ≤ 100000) (b0 b1 b2 : Nat) (h01 : b0 ≠ b1) (h21 : b2 ≠ b1) (w : World)
    (x0 : Boxed w b0 9 (.string ⟨#[c]⟩)) (x1 : Boxed w b1 9 (.string s)) (x2 : Boxed w b2 3 (.int .i64 0)) :
    Iter Fence.wide n Tryz.prog 91 #[.pointer (some ⟨b0, 0, none⟩), .pointer (some ⟨b1, 0, none⟩), .pointer (some ⟨b2, 0, none⟩)] (fun b => b = b1) (Kp3 b0 b1 b2)
      (fun x : ByteArray => #[.string x]) (fun xs => xs = cutB c s) (fun pre => pre <+: cutB c s) (fun pre x => (pre ++ [x]) <+: cutB c s) w := by
  intro l J Jx W hW hJ hJx hY h0
  have y0 : Boxed W b0 9 (.string ⟨#[c]⟩) := (hW.block b0 x0.lt).trans x0
  have y1 : Boxed W b1 9 (.string s) := (hW.block b1 x1.lt).trans x1
  have y2 : Boxed W b2 3 (.int .i64 0) := (hW.block b2 x2.lt).trans x2
  refine callsIn_of_wp Tryz.func91 rfl trivial ?_ rfl
  simp only [Tryz.ntmps91, List.size_toArray, List.length_cons, List.length_nil, Nat.reduceAdd, Nat.reduceSub, Array.replicate_succ, Array.replicate_zero, List.push_toArray, List.append_toArray, List.nil_append, List.cons_append]
  have c0 := y0.cell
  gi_wp2_with fail
  gi_loopw [7] (fun _ wr => ∃ (pre : List ByteArray) (rest : ByteArray), Hid (cutB c s = pre ++ cutB c rest) ∧ rest.size ≤ 100000 ∧ Boxed wr b0 9 (.string ⟨#[c]⟩) ∧ Boxed wr b1 9 (.string rest) ∧ Boxed wr b2 3 (.int .i64 0) ∧ J pre wr)
    (fun _ wr => left b1 wr)
  case atStart => exact ⟨[], s, Lib.hid rfl, hs, y0, y1, y2, h0⟩
  case round =>
    obtain ⟨pre, rest, HC, hrs, z0, z1, z2, hJp⟩ := hrel
    have c1 := z0.cell
    have c2 := z1.cell
    have c3 := z2.cell
    have CI : Hid (Calls Tryz.prog 93 #[.string rest, .string ⟨#[c]⟩] wr fun e w' => e = .returned (.int .i64 (Lib.indexByte rest.data.toList c)) ∧ wr = w') := Lib.hid ((Tryz.strings_Index_one rest c wr).mono fun _ _ ⟨a, b⟩ => ⟨a, b.symm⟩)
    have f1 := z1.frozen
    rcases index_cases rest c with hi | ⟨i, hi⟩
    · have HB := Lib.hid (cutB_none c rest hi)
      rw [hi] at CI
      clear hi
      obtain ⟨fn, tmps, assign, body, hy, hR⟩ := hY pre rest wr hJp (by rw [HC.out, HB.out]; exact List.prefix_rfl)
      gi_wp2_with fail
      refine ⟨trivial, (callsIn_wide.2 CI.out).mono ?_⟩
      rintro e w' ⟨rfl, rfl⟩
      gi_wp2_with fail
      refine hR.mono ?_
      rintro e W' (⟨rfl, hJ', _⟩ | ⟨rfl, hJx'⟩)
      · gi_wp2_with fail
        go_end0
        exact ⟨⟨_, rfl⟩, .inl ⟨_, by rw [HC.out, HB.out], hJ'⟩⟩
      · gi_wp2_with fail
        go_end0
        exact ⟨⟨_, rfl⟩, .inr ⟨_, by rw [HC.out, HB.out]; exact List.prefix_rfl, hJx'⟩⟩
    · obtain ⟨hi1, hi2⟩ := cutB_some c rest i hi
      have HB := Lib.hid hi2
      rw [hi] at CI
      clear hi hi2
      obtain ⟨fn, tmps, assign, body, hy, hR⟩ := hY pre (rest.extract 0 i) wr hJp (by rw [HC.out, HB.out]; exact ⟨cutB c (rest.extract (i + 1) rest.size), by simp⟩)
      gi_wp2_with fail
      refine ⟨trivial, (callsIn_wide.2 CI.out).mono ?_⟩
      rintro e w' ⟨rfl, rfl⟩
      gi_wp2_with fail
      refine hR.mono ?_
      rintro e W' (⟨rfl, hJ', k0, k1, k2⟩ | ⟨rfl, hJx'⟩)
      · have z0' : Boxed W' b0 9 (.string ⟨#[c]⟩) := k0.trans z0
        have z1' : Boxed W' b1 9 (.string rest) := k1.trans z1
        have z2' : Boxed W' b2 3 (.int .i64 0) := k2.trans z2
        have d1 := z0'.cell
        have d2 := z1'.cell
        have d3 := z2'.cell
        have g1 := z1'.frozen
        gi_wp2_with fail
        have k1' : Boxed (W'.setCell ⟨b1, 0, none⟩ (.string (rest.extract (i + 1) rest.size))) b1 9 (.string (rest.extract (i + 1) rest.size)) := z1'.set _
        have hsz : (rest.extract (i + 1) rest.size).size = rest.size - (i + 1) := by rw [ByteArray.size_extract]; omega
        refine ⟨⟨pre ++ [rest.extract 0 i], rest.extract (i + 1) rest.size, Lib.hid ?_, by omega, other z0' h01 _, k1', other z2' h21 _, hJ.box _ _ _ _ rfl hJ'⟩, ?_⟩
        · rw [HC.out, HB.out, List.append_assoc]; rfl
        · have e1 := k1'.cell
          have e2 := z1.cell
          unfold left
          rw [e1, e2]
          show (rest.extract (i + 1) rest.size).size < rest.size
          omega
      · gi_wp2_with fail
        refine bodyPost_ret (results_none rfl _ _ _) rfl ?_
        exact ⟨⟨_, rfl⟩, .inr ⟨_, by rw [HC.out, HB.out]; exact ⟨cutB c (rest.extract (i + 1) rest.size), by simp⟩, hJx'⟩⟩

/-- strings.SplitSeq hands back the iterator, on three boxes of its own. -/
theorem seq_any (c : UInt8) (s : ByteArray) (w : World) :
    Calls Tryz.prog 66 #[.string s, .string ⟨#[c]⟩] w fun e w' => e = .returned (.func (.func 91) #[] #[.pointer (some ⟨w.heap.size + 1, 0, none⟩), .pointer (some ⟨w.heap.size, 0, none⟩), .pointer (some ⟨w.heap.size + 2, 0, none⟩)]) ∧
      w' = ((w.alloc (.cells #[.string s] 9)).alloc (.cells #[.string ⟨#[c]⟩] 9)).alloc (.cells #[.int .i64 0] 3) := by
  go_enter Tryz.func66, Tryz.ntmps66
  go_wp2
  go_ret
  exact ⟨rfl, rfl⟩
end Go.Proofs.YtdndngabddnpmaaGreatDoor.rg
