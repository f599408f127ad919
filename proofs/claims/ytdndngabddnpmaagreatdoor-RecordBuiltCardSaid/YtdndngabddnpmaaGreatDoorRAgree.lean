/-
  The helpers of layer 3's statements: awake, light, agrees.
-/
import Derived.Test.YtdndngabddnpmaaGreatDoorRRFmt
import Derived.Test.YtdndngabddnpmaaGreatDoorSameP
namespace Go.Proofs.YtdndngabddnpmaaGreatDoor.rd
open Go.RowKit Go.Proofs.YtdndngabddnpmaaGreatDoor.cm Go.Proofs.YtdndngabddnpmaaGreatDoor.vl

def cwdP : PairP := ⟨[99, 119, 100], 2, 0, [47, 116, 109, 112]⟩
theorem cwd_fine : ckR 1307 12345 7 [cwdP] = 0 := by decide +kernel
theorem cwd_digits : Lib.decDigits 12 = [49, 50] ∧ three 345 = [51, 52, 53] ∧ Lib.decDigits 7 = [55] := by
  refine ⟨?_, ?_, Lib.decDigits_one (by decide)⟩
  · rw [Lib.decDigits, dif_neg (by decide), Lib.decDigits_one (by decide)]; rfl
  · unfold three
    rw [Lib.decDigits_one (by decide), Lib.decDigits_one (by decide), Lib.decDigits_one (by decide)]; rfl
theorem cwd_pair : pairL cwdP = [99, 119, 100, 61, 34, 47, 116, 109, 112, 34] := by decide +kernel
theorem cwd_line : fR 1307 12345 7 [cwdP] = ⟨#[116, 121, 112, 101, 61, 67, 87, 68, 32, 109, 115, 103, 61, 97, 117, 100, 105, 116, 40, 49, 50, 46, 51, 52, 53, 58, 55, 41, 58, 32, 99, 119, 100, 61, 34, 47, 116, 109, 112, 34]⟩ := by
  unfold fR
  rw [if_pos cwd_fine, show (12345 : Int) = ((12345 : Nat) : Int) from rfl, show (7 : Int) = ((7 : Nat) : Int) from rfl, line_eq]
  unfold headL word1 stampL tailL
  obtain ⟨h1, h2, h3⟩ := cwd_digits
  rw [show 12345 / 1000 = 12 from rfl, show 12345 % 1000 = 345 from rfl, h1, h2, h3, List.map_cons, cwd_pair]
  rfl

set_option maxRecDepth 100000 in
set_option maxHeartbeats 4000000 in
theorem awake_any (w : World) (hE : EnvR w) :
    Calls Tryz.prog 5 #[] w fun e w' => e = .returned (.bool true) ∧ Below w.heap.size w w' := by
  have hb : Below w.heap.size w (w.alloc (.cells #[.string ⟨#[99, 119, 100]⟩, .int .i64 2, .int .i64 0, .string ⟨#[47, 116, 109, 112]⟩] 39)) := (Below.refl _ _).alloc (Nat.le_refl _) _
  have q := Quad.new w 39 (.string ⟨#[99, 119, 100]⟩) (.int .i64 2) (.int .i64 0) (.string ⟨#[47, 116, 109, 112]⟩)
  have hp : PairsAt (w.alloc (.cells #[.string ⟨#[99, 119, 100]⟩, .int .i64 2, .int .i64 0, .string ⟨#[47, 116, 109, 112]⟩] 39)) (some ⟨w.heap.size, 0, none⟩) [cwdP] := by
    refine ⟨fun p hp => ?_, .inr ⟨_, _, rfl, fun j p hj => ?_⟩⟩
    · simp at hp; subst hp; exact ⟨by decide, by decide, by unfold isInt; decide⟩
    · cases j with
      | zero => simp at hj; subst hj; exact ⟨q.c0, q.c1, q.c2, q.c3⟩
      | succ j => simp at hj
  have CF := Format_any 1307 12345 7 (some ⟨w.heap.size, 0, none⟩) 1 [cwdP] _ hp (by decide) (by decide) (hE.below hb)
  rw [cwd_fine, cwd_line] at CF
  have CF := Lib.hid CF
  clear hp q hE
  go_enter Tryz.func5, Tryz.ntmps5
  go_wp2_with fail
  refine CF.out.mono ?_
  rintro e w' ⟨rfl, hb2⟩
  go_wp2_with fail
  go_ret
  exact ⟨rfl, hb.trans (hb2.mono hb.size)⟩

/-- some answer -/
def SomeB (w : World) (e : Ending) (w' : World) : Prop := ∃ b : Bool, e = .returned (.bool b) ∧ Below w.heap.size w w'

set_option maxRecDepth 100000 in
set_option maxHeartbeats 8000000 in
theorem agrees_any (t tm sr : Int) (a : Option Addr) (cap : Nat) (ps : List PairP) (w : World) (hP : PairsAt w a ps) (hl : ps.length ≤ 9223372036854775807) (hc : ps.length ≤ cap) (hE : EnvR w) :
    Calls Tryz.prog 9 #[.agg #[.int .i64 t, .int .i64 tm, .int .i64 sr, .slice a ps.length cap]] w fun e w' => e = .returned (.bool true) ∧ Below w.heap.size w w' := by
  have h0 := HW.new w 29 t tm sr (.slice a ps.length cap)
  have C1 := Lib.hid (fun W (h : HW w t tm sr (.slice a ps.length cap) W) => (Format_any t tm sr a cap ps W (hP.below h.bel) hl hc (hE.below h.bel)).mono (R' := fun e W' => e = .returned (.tuple #[.string (fR t tm sr ps), .int .i64 (ckR t tm sr ps)]) ∧ HW w t tm sr (.slice a ps.length cap) W') fun e W' hh => ⟨hh.1, h.step hh.2⟩)
  have C2 := Lib.hid (fun W (h : HW w t tm sr (.slice a ps.length cap) W) => (rFormat_any t tm sr a cap ps W (hP.below h.bel) hl).mono (R' := fun e W' => e = .returned (.tuple #[.string (fR t tm sr ps), .int .i64 (ckR t tm sr ps)]) ∧ HW w t tm sr (.slice a ps.length cap) W') fun e W' hh => ⟨hh.1, h.step hh.2⟩)
  have C3 := Lib.hid (fun W (h : HW w t tm sr (.slice a ps.length cap) W) => (Check_any t tm sr a cap ps W (hP.below h.bel) hl hc (hE.below h.bel).tab).mono (R' := fun e W' => e = .returned (.int .i64 (ckR t tm sr ps)) ∧ HW w t tm sr (.slice a ps.length cap) W') fun e W' hh => ⟨hh.1, h.step hh.2⟩)
  have C4 := Lib.hid (fun W (h : HW w t tm sr (.slice a ps.length cap) W) => (rCheck_any t tm sr a cap ps W (hP.below h.bel) hl).mono (R' := fun e W' => e = .returned (.int .i64 (ckR t tm sr ps)) ∧ HW w t tm sr (.slice a ps.length cap) W') fun e W' hh => ⟨hh.1, h.step hh.2⟩)
  generalize fR t tm sr ps = F at *
  generalize ckR t tm sr ps = er at *
  clear hP hE
  obtain ⟨c0, c1, c2, c3, f0, f1, f2, f3⟩ := h0.box
  go_enter Tryz.func9, Tryz.ntmps9
  go_wp2_with fail
  (with_reducible refine (C1.out _ h0).mono ?_)
  rintro e w1 ⟨rfl, h1⟩
  clear h0 c0 c1 c2 c3 f0 f1 f2 f3
  obtain ⟨c0, c1, c2, c3, f0, f1, f2, f3⟩ := h1.box
  go_wp2_with fail
  (with_reducible refine (C2.out _ h1).mono ?_)
  rintro e w2 ⟨rfl, h2⟩
  clear h1 c0 c1 c2 c3 f0 f1 f2 f3
  obtain ⟨c0, c1, c2, c3, f0, f1, f2, f3⟩ := h2.box
  have h2d := h2.step (Below.refl w2.heap.size w2).drew
  go_wp2_with fail
  go_region_held3 (fun w' => w'.cell? ⟨w.heap.size, 0, none⟩ = some (.int .i64 t) ∧ w'.cell? ⟨w.heap.size, 1, none⟩ = some (.int .i64 tm) ∧ w'.cell? ⟨w.heap.size, 2, none⟩ = some (.int .i64 sr) ∧ w'.cell? ⟨w.heap.size, 3, none⟩ = some (.slice a ps.length cap))
    (first
      | go_keep
      | (go_split_ands
         refine ⟨?_, ?_, ?_, ?_⟩ <;> assumption))
    (first
      | (go_at_call 19; (with_reducible refine (C3.out _ (by assumption)).mono ?_); rintro e wN ⟨rfl, hN⟩; have n0 := hN.box.c0; have n1 := hN.box.c1; have n2 := hN.box.c2; have n3 := hN.box.c3)
      | (go_at_call 20; (with_reducible refine (C4.out _ (by assumption)).mono ?_); rintro e wM ⟨rfl, hM⟩; have m0 := hM.box.c0; have m1 := hM.box.c1; have m2 := hM.box.c2; have m3 := hM.box.c3))
  all_goals
    go_wp2_with fail
    go_ret
    refine ⟨rfl, HW.bel (t := t) (tm := tm) (sr := sr) (s := .slice a ps.length cap) ?_⟩
    assumption
end Go.Proofs.YtdndngabddnpmaaGreatDoor.rd
