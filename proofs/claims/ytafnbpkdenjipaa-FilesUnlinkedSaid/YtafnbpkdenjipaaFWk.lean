/-
  The laws' small example.
-/
import Derived.Test.YtafnbpkdenjipaaFGp
import Derived.Test.YtafnbpkdenjipaaFMz
import Derived.Test.YtafnbpkdenjipaaFGl
import Derived.Test.YtafnbpkdenjipaaFGa
import Derived.StillTailTactics
namespace Go.Proofs.Ytafnbpkdenjipaa.fl
open Go.RowKit Go.Proofs.Ytafnbpkdenjipaa.cm

theorem OutF.files {B : Nat} {w : World} {v : Value} {F : FilP} (h : OutF B w v F) : ∃ a cap, v = .slice a F.length cap ∧ FilesAt w a F := by
  obtain ⟨a, cap, h1, -, -, h2⟩ := h.at_
  exact ⟨a, cap, h1, h2⟩
theorem OwnC.ptr {B : Nat} {w : World} {v : Value} {c : ChgP} (h : OwnC B w v [c]) : ∃ g cap, v = .slice (some ⟨g, 0, none⟩) 1 cap ∧ ChgAt w g 0 c := by
  obtain ⟨a, cap, hv, -, -, hc⟩ := h.at_
  have hl : 0 < [c].length := by simp
  obtain ⟨b, o, ha, hx⟩ := hc.get hl
  obtain ⟨a', cap', hv', -, -, hp⟩ := own_slice h
  subst ha
  rw [hv] at hv'
  injection hv' with hv' _ _
  obtain ⟨g, hg, -⟩ := hp _ hv'.symm
  injection hg with h1 h2 _
  subst h1
  subst h2
  exact ⟨b, cap, hv, by simpa using hx⟩

set_option maxRecDepth 100000 in
set_option maxHeartbeats 4000000 in
theorem awake_any (w : World) : Calls Try.prog 12 #[] w fun e w' => e = .returned (.bool true) ∧ Below w.heap.size w w' := by
  have CNw := Lib.hid (New_any 1 w)
  have CMk := Lib.hid (fun a cap W hF => Make_any a cap (newP 1).1 ⟨0, 1⟩ ⟨#[97]⟩ (fileN 420) none 0 0 W hF (new_ok rfl))
  rw [first_make 420 (.inl rfl)] at CMk
  obtain ⟨G, hG1, hG2, hG3⟩ := second_link 420 (.inl rfl)
  have CLk := Lib.hid (fun a cap W hF => Link_any a cap (firstF 420) ⟨0, 1⟩ ⟨#[98]⟩ ⟨0, 2⟩ W hF (first_ok 420 (.inl rfl)))
  rw [hG1] at CLk
  have CLs := Lib.hid (fun a cap W hF => Links_any a cap G ⟨0, 2⟩ W hF hG2.sml)
  rw [hG3] at CLs
  clear hG1 hG2 hG3
  go_enter Try.func12, Try.ntmps12
  go_wp2_with fail
  refine CNw.out.mono ?_
  rintro e w1 ⟨v1, rfl, ho1, hb1⟩
  obtain ⟨a1, c1, rfl, hf1⟩ := ho1.files
  obtain ⟨w2, hw2⟩ : ∃ w2, w2 = (w1.alloc (.cells #[.slice a1 (newP 1).1.length c1] 24)).alloc (.cells #[.int .i64 0, .int .i64 1] 36) := ⟨_, rfl⟩
  have hx1 : Below w1.heap.size w1 (w1.alloc (.cells #[.slice a1 (newP 1).1.length c1] 24)) := (Below.refl _ _).alloc (Nat.le_refl _) _
  have hb2 : Below w1.heap.size w1 w2 := by rw [hw2]; exact hx1.alloc hx1.size _
  have t1 : TB 24 w2 w1.heap.size [.slice a1 (newP 1).1.length c1] := by rw [hw2]; exact (TB.new1 w1 _ _ _ rfl).alloc _
  have t3 : TB 36 w2 (w1.heap.size + 1) [.int .i64 0, .int .i64 1] := by rw [hw2]; exact TB.new1 _ _ _ _ (size_alloc _ _)
  have CM := Lib.hid (CMk.out a1 c1 w2 (hf1.below hb2))
  have hb02 := Lib.hid (hb1.trans (hb2.mono hb1.size))
  have HW2 := Lib.hid hw2
  have hz12 := hb1.size
  obtain ⟨x0, xf0⟩ := t1.blk.c1
  obtain ⟨y0, y1, -⟩ := t3.blk.c2
  have e1 : (newP 1).2 = 0 := rfl
  clear hw2 hx1 hf1 ho1 CNw CMk hb2
  go_upto_region 3 with fail
  rw [← HW2.out]
  clear HW2
  go_wp2_with fail
  refine CM.out.mono ?_
  rintro e w3 ⟨v3, cv3, rfl, ho3, hc3, hb3⟩
  obtain ⟨a3, c3, rfl, -⟩ := ho3.files
  obtain ⟨g3, cc3, rfl, hch⟩ := hc3.ptr
  have u1 := t1.stay hb3
  have u3 := t3.stay hb3
  have hlt1 := t1.lt
  have hg3 : w2.heap.size ≤ g3 := by
    obtain ⟨a', cap', h1, -, -, h2⟩ := own_slice hc3
    injection h1 with h1 _ _
    obtain ⟨g', h3, -, h4, -⟩ := h2 _ h1.symm
    injection h3 with h3 _ _
    omega
  obtain ⟨w4, hw4⟩ : ∃ w4, w4 = w3.setCell ⟨w1.heap.size, 0, none⟩ (.slice a3 (firstF 420).length c3) := ⟨_, rfl⟩
  have v1 : TB 24 w4 w1.heap.size [.slice a3 (firstF 420).length c3] := by rw [hw4]; exact u1.set 0 _
  have v3 : TB 36 w4 (w1.heap.size + 1) [.int .i64 0, .int .i64 1] := by rw [hw4]; exact u3.other (by omega) 0 _
  have hf4 : FilesAt w4 a3 (firstF 420) := by
    have ho4 := ho3.same (u1.same (by decide) 0 (.slice a3 (firstF 420).length c3))
    rw [← hw4] at ho4
    obtain ⟨a', c', h1, h2⟩ := ho4.files
    injection h1 with h1 _ _
    rw [h1]
    exact h2
  have hk : w4.heap[g3]? = w3.heap[g3]? := by rw [hw4]; exact Below.heap_setCell w3 ⟨w1.heap.size, 0, none⟩ _ g3 (by show g3 ≠ w1.heap.size; omega)
  have q5 : w4.cell? ⟨g3, 5, none⟩ = some (.int .i64 0) := (World.cell?_of_block (a := ⟨g3, 5, none⟩) hk).trans hch.c5
  have q6 : w4.cell? ⟨g3, 6, none⟩ = some (.int .i64 2) := (World.cell?_of_block (a := ⟨g3, 6, none⟩) hk).trans hch.c6
  have hb04 : Hid (Below w.heap.size w w4) := Lib.hid (by rw [hw4]; exact below_set (hb02.out.trans (hb3.mono hb02.out.size)) hz12 0 _)
  obtain ⟨x0, xf0⟩ := u1.blk.c1
  have CL := Lib.hid (CLk.out a3 c3 w4.drew (hf4.below (Below.refl _ _).drew))
  have HW4 := Lib.hid hw4
  clear hw4 hk hf4 ho3 hc3 hch hb3 u1 u3 t1 t3 CLk CM y0 y1
  go_upto_region 6 with fail
  rw [← HW4.out]
  clear HW4 x0 xf0
  obtain ⟨x0, xf0⟩ := v1.blk.c1
  obtain ⟨y0, y1, -⟩ := v3.blk.c2
  go_cut [7] (fun s7 W => s7 = .int .i64 0 ∧ ∃ a5 c5, TB 24 W w1.heap.size [.slice a5 G.length c5] ∧ FilesAt W a5 G ∧ W.cell? ⟨g3, 5, none⟩ = some (.int .i64 0) ∧ W.cell? ⟨g3, 6, none⟩ = some (.int .i64 2) ∧ Below w.heap.size w W)
  case first =>
    go_region_with ((go_at_call 28; (with_reducible refine CL.out.mono ?_); rintro e w5 ⟨v5, cv5, rfl, ho5, hc5, hb5⟩; obtain ⟨a5, c5, rfl, hf5⟩ := ho5.files; have hd4 : Below w4.heap.size w4 w5 := (Below.refl w4.heap.size w4).drew.trans hb5; have u1 := v1.stay hd4; obtain ⟨x0, xf0⟩ := u1.blk.c1))
    all_goals
      have r5 := cell_stays q5 hd4
      have r6 := cell_stays q6 hd4
      have hlt4 : g3 < w4.heap.size := World.block_lt_of_cell? w4 _ q5
      have hltT := v1.lt
      have HR : Hid (TB 24 (w5.setCell ⟨w1.heap.size, 0, none⟩ (.slice a5 G.length c5)) w1.heap.size [.slice a5 G.length c5] ∧ FilesAt (w5.setCell ⟨w1.heap.size, 0, none⟩ (.slice a5 G.length c5)) a5 G ∧ (w5.setCell ⟨w1.heap.size, 0, none⟩ (.slice a5 G.length c5)).cell? ⟨g3, 5, none⟩ = some (.int .i64 0) ∧ (w5.setCell ⟨w1.heap.size, 0, none⟩ (.slice a5 G.length c5)).cell? ⟨g3, 6, none⟩ = some (.int .i64 2) ∧ Below w.heap.size w (w5.setCell ⟨w1.heap.size, 0, none⟩ (.slice a5 G.length c5))) := Lib.hid (by
        have hk : (w5.setCell ⟨w1.heap.size, 0, none⟩ (.slice a5 G.length c5)).heap[g3]? = w5.heap[g3]? := Below.heap_setCell w5 ⟨w1.heap.size, 0, none⟩ _ g3 (by show g3 ≠ w1.heap.size; omega)
        refine ⟨u1.set 0 _, ?_, (World.cell?_of_block (a := ⟨g3, 5, none⟩) hk).trans r5, (World.cell?_of_block (a := ⟨g3, 6, none⟩) hk).trans r6, below_set (hb04.out.trans (hd4.mono hb04.out.size)) hz12 0 _⟩
        have ho6 := ho5.same (u1.same (by decide) 0 (.slice a5 G.length c5))
        obtain ⟨a', c', h1, h2⟩ := ho6.files
        injection h1 with h1 _ _
        subst h1
        exact h2)
      clear hf5 ho5 hc5 hb5 hd4 u1 v1 v3 CL CLs q5 q6 r5 r6 y0 y1
      go_wp2_with fail
      go_meet
      exact ⟨rfl, _, _, HR.out⟩
  case rest =>
    obtain ⟨rfl, a5, c5, z1, hf6, s5, s6, hb06⟩ := hcut
    have CS := Lib.hid (CLs.out a5 c5 wc.drew (hf6.below (Below.refl _ _).drew))
    have HB6 := Lib.hid hb06
    clear hf6 v1 v3 CL CLs q5 q6 y0 y1 x0 xf0 hb06
    obtain ⟨x0, xf0⟩ := z1.blk.c1
    go_upto_region 7 with fail
    go_region_held3 (fun W => W.cell? ⟨w1.heap.size, 0, none⟩ = some (.slice a5 G.length c5) ∧ W.cell? ⟨g3, 5, none⟩ = some (.int .i64 0) ∧ W.cell? ⟨g3, 6, none⟩ = some (.int .i64 2))
      (first
        | go_keep
        | (with_reducible exact ⟨cell_stays (w := wc.drew) x0 hb7, cell_stays (w := wc.drew) s5 hb7, cell_stays (w := wc.drew) s6 hb7⟩)
        | exact ⟨cell_stays (w := wc.drew) x0 hb7, cell_stays (w := wc.drew) s5 hb7, cell_stays (w := wc.drew) s6 hb7⟩)
      ((go_at_call 22; (with_reducible refine CS.out.mono ?_); rintro e w7 ⟨rfl, hb7⟩))
    have hfin : Hid (Below w.heap.size w w7) := Lib.hid (HB6.out.trans (((Below.refl wc.heap.size wc).drew.trans hb7).mono HB6.out.size))
    clear x0 xf0 s5 s6 hb7
    go_wp2_with fail
    go_ret
    exact ⟨rfl, hfin.out⟩
end Go.Proofs.Ytafnbpkdenjipaa.fl
