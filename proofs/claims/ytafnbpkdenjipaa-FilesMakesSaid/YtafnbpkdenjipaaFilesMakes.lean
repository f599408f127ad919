/-
  FilesMakes: the walk.
-/
import Derived.Test.YtafnbpkdenjipaaSrcL
import Derived.Test.YtafnbpkdenjipaaRSz
import Derived.Test.YtafnbpkdenjipaaFWk
import Derived.Test.YtafnbpkdenjipaaOpN
import Derived.Test.YtafnbpkdenjipaaRows
import Derived.Test.YtafnbpkdenjipaaRow
namespace Go.Proofs.Ytafnbpkdenjipaa.fl
open Go.RowKit Go.Proofs.Ytafnbpkdenjipaa.cm Go.Proofs.Ytafnbpkdenjipaa.sr

theorem ownC_stay {B : Nat} {w w' : World} {v : Value} {l : List ChgP} (h : OwnC B w v l) (hb : Below w.heap.size w w') : OwnC B w' v l := own_keep h fun g hg => hb.block g (own_lt h hg).2
/-- an answer is small -/
def SmlR (r : ResP) : Prop := Sml r.files ∧ r.chg.length ≤ 1000
theorem SmlR.none {r : ResP} (h1 : r.files = []) (h2 : r.chg = []) : SmlR r := ⟨by rw [h1]; exact ⟨by simp, fun d hd => by simp at hd, fun d hd => by simp at hd⟩, by rw [h2]; simp⟩
theorem make_sml {F : FilP} (hO : OKF F) (x : At) (s : ByteArray) (n : NodeP) : SmlR (makeF F x s n) := by
  obtain ⟨-, h2, h3⟩ := mk_eq hO x s n
  by_cases h : (makeF F x s n).err = 0
  · exact ⟨(hO.make x s n h).1.sml, by rw [(h2 h).2]; simp⟩
  · exact .none (h3 h).1 (h3 h).2

set_option maxRecDepth 100000 in
set_option maxHeartbeats 4000000 in
theorem filesMakes_any (a : Option Addr) (len cap : Nat) (rw : NodeP) (a7 : Option Addr) (l7 c7 : Nat) (w : World) (hr : Nums w a len) : Calls Try.prog 5 #[.slice a len cap, .agg #[.int .i64 rw.ino, .int .i64 rw.kind, .int .i64 rw.mode, .int .i64 rw.uid, .int .i64 rw.gid, .int .i64 rw.parent, .string rw.target, .slice a7 l7 c7]] w fun e w' => e = .returned (.bool true) ∧ Below w.heap.size w w' := by
  obtain ⟨w0, hw0⟩ : ∃ w0, w0 = w.alloc (.cells #[.int .i64 rw.ino, .int .i64 rw.kind, .int .i64 rw.mode, .int .i64 rw.uid, .int .i64 rw.gid, .int .i64 rw.parent, .string rw.target, .slice a7 l7 c7] 43) := ⟨_, rfl⟩
  have hbw0 : Below w.heap.size w w0 := by rw [hw0]; exact (Below.refl _ _).alloc (Nat.le_refl _) _
  have tW0 : TB 43 w0 w.heap.size [.int .i64 rw.ino, .int .i64 rw.kind, .int .i64 rw.mode, .int .i64 rw.uid, .int .i64 rw.gid, .int .i64 rw.parent, .string rw.target, .slice a7 l7 c7] := by rw [hw0]; exact TB.new1 w [.int .i64 rw.ino, .int .i64 rw.kind, .int .i64 rw.mode, .int .i64 rw.uid, .int .i64 rw.gid, .int .i64 rw.parent, .string rw.target, .slice a7 l7 c7] _ _ rfl
  have hz0 : w0.heap.size = w.heap.size + 1 := by rw [hw0, size_alloc]
  obtain ⟨b, hbd⟩ : ∃ b, b = w0.heap.size := ⟨_, rfl⟩
  obtain ⟨w1, hw1⟩ : ∃ w1, w1 = w0.alloc (.cells #[.slice a len cap, .int .i64 0] 74) := ⟨_, rfl⟩
  have hs1 : SrcAt w0 w1 b a len cap 0 := by rw [hw1, hbd]; exact src_new w0 a len cap (nums_below hr (by rw [hw0]; exact (Below.refl _ _).alloc (Nat.le_refl _) _))
  have hb1 : Beside b w0 w1 := by rw [hw1]; exact (Beside.refl _ _).alloc _
  have CS : Hid (Calls Try.prog 13 #[.slice a len cap] w0 fun e w' => e = .returned (.pointer (some ⟨b, 0, none⟩)) ∧ w' = w1) := Lib.hid (by rw [hbd, hw1]; exact new_any a len cap w0)
  have CF := Lib.hid (files_b w0 w1 b a len cap 0 hs1 (by omega))
  have CA := Lib.hid (fun W => awake_any W)
  have HW0 := Lib.hid hw0
  have hz1 : w1.heap.size = b + 1 := by rw [hw1, size_alloc, hbd]
  have HZ := Lib.hid (show w0.heap.size = w.heap.size + 1 ∧ w1.heap.size = b + 1 ∧ b = w.heap.size + 1 from ⟨hz0, hz1, by omega⟩)
  have t6 := tW0.blk.c8.1.2.2.2.2.2.2.1
  clear hw0 hw1 hs1 hr hbd hz0 hz1
  by_cases hsz : rw.target.size ≤ 300
  · have hsz' : ¬ ((rw.target.size : Int) > 300) := by omega
    have e0 : decide ((rw.target.size : Int) > 300) = false := decide_eq_false hsz'
    go_enter Try.func5, Try.ntmps5
    go_upto_region 1 with fail
    rw [← HW0.out]
    go_wp2_with fail
    refine CS.out.mono ?_
    rintro e w1' ⟨rfl, rfl⟩
    rename World => w1
    clear CS HW0 t6 e0 hsz'
    go_wp2_with fail
    refine CF.out.mono ?_
    rintro e w2 ⟨F, fa, fc, k0, hk0, hO, rfl, ho2, hs2, hb2⟩
    have hb3 := (hb1.trans hb2).alloc (.cells #[.slice fa F.length fc] 24)
    have hs3 := hs2.alloc (.cells #[.slice fa F.length fc] 24)
    have ho3 := ho2.stay ((Below.refl w2.heap.size w2).alloc (Nat.le_refl _) (.cells #[.slice fa F.length fc] 24))
    obtain ⟨w3, hw3⟩ : ∃ w3, w3 = w2.alloc (.cells #[.slice fa F.length fc] 24) := ⟨_, rfl⟩
    have tD3 : TB 24 w3 w2.heap.size [.slice fa F.length fc] := by rw [hw3]; exact TB.new1 w2 _ _ _ rfl
    have hDb : w2.heap.size ≠ b := by have := hb2.size; have := HZ.out; omega
    have hWb : w.heap.size ≠ b := by have := HZ.out; omega
    rw [← hw3] at hb3 hs3 ho3
    have tW3 := tW0.beside hWb hb3
    have HW3 := Lib.hid hw3
    have HO := Lib.hid hO
    clear CF hw3 hO ho2 hs2 hb2 hb1 tW0
    go_upto_region 5 with fail
    rw [← HW3.out]
    clear HW3
    go_wp2_with fail
    go_loopw [7] (fun i wr => ∃ q k' : Nat, q ≤ 4 ∧ i = .int .i64 q ∧ k' ≤ 800 + 46 * q ∧ OutF w1.heap.size wr (.slice fa F.length fc) F ∧ TB 24 wr w2.heap.size [.slice fa F.length fc] ∧ TB 43 wr w.heap.size [.int .i64 rw.ino, .int .i64 rw.kind, .int .i64 rw.mode, .int .i64 rw.uid, .int .i64 rw.gid, .int .i64 rw.parent, .string rw.target, .slice a7 l7 c7] ∧ SrcAt w0 wr b a len cap k' ∧ Beside b w0 wr) (fun i _ => 4 - (intOf i).toNat)
    case atStart => exact ⟨0, k0, by omega, rfl, by omega, ho3, tD3, tW3, hs3, hb3⟩
    case round =>
      obtain ⟨q, k', hq, rfl, hk', ho, tD, tW, hs, hb⟩ := hrel
      clear ho3 tD3 tW3 hs3 hb3
      by_cases hlt : q < 4
      · have hqq : (q : Int) < 4 := by omega
        have CFi := Lib.hid (file_b w0 wr b a len cap k' hs (by omega) w1.heap.size (.slice fa F.length fc) F ho HO.out)
        have x0 := tD.blk.c1.1
        have HF := Lib.hid (fun W (hb : Beside b wr W) => ho.beside hs hb)
        clear hs ho
        go_wp2_with fail
        refine CFi.out.mono ?_
        rintro e w4 ⟨x, k1, hk1, rfl, hs4, hb4⟩
        have CN := Lib.hid (name_b w0 w4 b a len cap k1 hs4 (by omega))
        clear CFi hs4 x0
        go_wp2_with fail
        refine CN.out.mono ?_
        rintro e w5 ⟨nm, hnm, rfl, hs5, hb5⟩
        have hb45 := hb4.trans hb5
        have CT := Lib.hid (attributes_b w0 w5 b a len cap (k1 + 2) hs5 (by omega))
        clear CN hs5 hb4 hb5
        go_wp2_with fail
        refine CT.out.mono ?_
        rintro e w6 ⟨m, k2, hk2, hm60, rfl, hs6, hb6⟩
        have ho6 := HF.out w6 (hb45.trans hb6)
        have hbx : Below w6.heap.size w6 ((w6.alloc (.cells #[.int .i64 x.dev, .int .i64 x.ino] 36)).alloc (.cells #[.int .i64 0, .int .i64 m.kind, .int .i64 m.mode, .int .i64 m.uid, .int .i64 m.gid, .int .i64 0, .string m.target, .slice none 0 0] 43)) := ((Below.refl _ _).alloc (Nat.le_refl _) _).alloc (by rw [size_alloc]; omega) _
        have hb7 := ((hb45.trans hb6).alloc (.cells #[.int .i64 x.dev, .int .i64 x.ino] 36)).alloc (.cells #[.int .i64 0, .int .i64 m.kind, .int .i64 m.mode, .int .i64 m.uid, .int .i64 m.gid, .int .i64 0, .string m.target, .slice none 0 0] 43)
        have hs7 := (hs6.alloc (.cells #[.int .i64 x.dev, .int .i64 x.ino] 36)).alloc (.cells #[.int .i64 0, .int .i64 m.kind, .int .i64 m.mode, .int .i64 m.uid, .int .i64 m.gid, .int .i64 0, .string m.target, .slice none 0 0] 43)
        obtain ⟨u00, hu00⟩ : ∃ u00, u00 = (w6.alloc (.cells #[.int .i64 x.dev, .int .i64 x.ino] 36)).alloc (.cells #[.int .i64 0, .int .i64 m.kind, .int .i64 m.mode, .int .i64 m.uid, .int .i64 m.gid, .int .i64 0, .string m.target, .slice none 0 0] 43) := ⟨_, rfl⟩
        have tP7 : TB 36 u00 w6.heap.size [.int .i64 x.dev, .int .i64 x.ino] := by rw [hu00]; exact (TB.new1 w6 _ _ _ rfl).alloc _
        have tM7 : TB 43 u00 (w6.heap.size + 1) [.int .i64 0, .int .i64 m.kind, .int .i64 m.mode, .int .i64 m.uid, .int .i64 m.gid, .int .i64 0, .string m.target, .slice none 0 0] := by rw [hu00]; exact TB.new1 _ [.int .i64 0, .int .i64 m.kind, .int .i64 m.mode, .int .i64 m.uid, .int .i64 m.gid, .int .i64 0, .string m.target, .slice none 0 0] _ _ (size_alloc _ _)
        have hz6 : w2.heap.size < w6.heap.size := by have := (tD.beside hDb (hb45.trans hb6)).lt; omega
        have hz62 : w.heap.size < w6.heap.size := by have := (tW.beside hWb (hb45.trans hb6)).lt; omega
        have hz63 : b < w6.heap.size := hs6.lt
        have hz64 : w0.heap.size ≤ w6.heap.size := hs6.old.size
        rw [← hu00] at hb7 hs7 hbx
        have tD7 := tD.beside hDb hb7
        have tW7 := tW.beside hWb hb7
        have hbw7 := hb.trans hb7
        have HU00 := Lib.hid hu00
        clear CT tD tW hs6 hb6 hb45 hb7 hu00 HF hnm hb
        go_upto_region 9 with fail
        rw [← HU00.out]
        clear HU00
        obtain ⟨⟨r0, r1, r2, r3, r4, r5, r6, r7⟩, -⟩ := tW7.blk.c8
        obtain ⟨⟨p0, p1, p2, p3, p4, p5, p6, p7⟩, f0, f1, f2, f3, f4, f5, f6, f7⟩ := tM7.blk.c8
        go_upto_if 38 with fail
        go_cut [] (fun W => ∃ (n : NodeP) (ra : Option Addr) (rl rc : Nat), n.target.size ≤ 300 ∧ OutF w1.heap.size W (.slice fa F.length fc) F ∧ TB 24 W w2.heap.size [.slice fa F.length fc] ∧ TB 43 W w.heap.size [.int .i64 rw.ino, .int .i64 rw.kind, .int .i64 rw.mode, .int .i64 rw.uid, .int .i64 rw.gid, .int .i64 rw.parent, .string rw.target, .slice a7 l7 c7] ∧ TB 36 W w6.heap.size [.int .i64 x.dev, .int .i64 x.ino] ∧ TB 43 W (w6.heap.size + 1) [.int .i64 n.ino, .int .i64 n.kind, .int .i64 n.mode, .int .i64 n.uid, .int .i64 n.gid, .int .i64 n.parent, .string n.target, .slice ra rl rc] ∧ SrcAt w0 W b a len cap k2 ∧ Beside b w0 W)
        case first =>
          obtain ⟨vn, ev, hf6⟩ := ho6
          have hf7 := hf6.stay hbx
          by_cases c : q = 3
          · have e1 : ((q : Int) == 3) = true := by simp [c]
            have KF : Hid (OutF w1.heap.size ((((((((u00.setCell ⟨w6.heap.size + 1, 0, none⟩ (.int .i64 rw.ino)).setCell ⟨w6.heap.size + 1, 1, none⟩ (.int .i64 rw.kind)).setCell ⟨w6.heap.size + 1, 2, none⟩ (.int .i64 rw.mode)).setCell ⟨w6.heap.size + 1, 3, none⟩ (.int .i64 rw.uid)).setCell ⟨w6.heap.size + 1, 4, none⟩ (.int .i64 rw.gid)).setCell ⟨w6.heap.size + 1, 5, none⟩ (.int .i64 rw.parent)).setCell ⟨w6.heap.size + 1, 6, none⟩ (.string rw.target)).setCell ⟨w6.heap.size + 1, 7, none⟩ (.slice a7 l7 c7)) (.slice fa F.length fc) F ∧ TB 24 ((((((((u00.setCell ⟨w6.heap.size + 1, 0, none⟩ (.int .i64 rw.ino)).setCell ⟨w6.heap.size + 1, 1, none⟩ (.int .i64 rw.kind)).setCell ⟨w6.heap.size + 1, 2, none⟩ (.int .i64 rw.mode)).setCell ⟨w6.heap.size + 1, 3, none⟩ (.int .i64 rw.uid)).setCell ⟨w6.heap.size + 1, 4, none⟩ (.int .i64 rw.gid)).setCell ⟨w6.heap.size + 1, 5, none⟩ (.int .i64 rw.parent)).setCell ⟨w6.heap.size + 1, 6, none⟩ (.string rw.target)).setCell ⟨w6.heap.size + 1, 7, none⟩ (.slice a7 l7 c7)) w2.heap.size [.slice fa F.length fc] ∧ TB 43 ((((((((u00.setCell ⟨w6.heap.size + 1, 0, none⟩ (.int .i64 rw.ino)).setCell ⟨w6.heap.size + 1, 1, none⟩ (.int .i64 rw.kind)).setCell ⟨w6.heap.size + 1, 2, none⟩ (.int .i64 rw.mode)).setCell ⟨w6.heap.size + 1, 3, none⟩ (.int .i64 rw.uid)).setCell ⟨w6.heap.size + 1, 4, none⟩ (.int .i64 rw.gid)).setCell ⟨w6.heap.size + 1, 5, none⟩ (.int .i64 rw.parent)).setCell ⟨w6.heap.size + 1, 6, none⟩ (.string rw.target)).setCell ⟨w6.heap.size + 1, 7, none⟩ (.slice a7 l7 c7)) w.heap.size [.int .i64 rw.ino, .int .i64 rw.kind, .int .i64 rw.mode, .int .i64 rw.uid, .int .i64 rw.gid, .int .i64 rw.parent, .string rw.target, .slice a7 l7 c7] ∧ TB 36 ((((((((u00.setCell ⟨w6.heap.size + 1, 0, none⟩ (.int .i64 rw.ino)).setCell ⟨w6.heap.size + 1, 1, none⟩ (.int .i64 rw.kind)).setCell ⟨w6.heap.size + 1, 2, none⟩ (.int .i64 rw.mode)).setCell ⟨w6.heap.size + 1, 3, none⟩ (.int .i64 rw.uid)).setCell ⟨w6.heap.size + 1, 4, none⟩ (.int .i64 rw.gid)).setCell ⟨w6.heap.size + 1, 5, none⟩ (.int .i64 rw.parent)).setCell ⟨w6.heap.size + 1, 6, none⟩ (.string rw.target)).setCell ⟨w6.heap.size + 1, 7, none⟩ (.slice a7 l7 c7)) w6.heap.size [.int .i64 x.dev, .int .i64 x.ino] ∧ TB 43 ((((((((u00.setCell ⟨w6.heap.size + 1, 0, none⟩ (.int .i64 rw.ino)).setCell ⟨w6.heap.size + 1, 1, none⟩ (.int .i64 rw.kind)).setCell ⟨w6.heap.size + 1, 2, none⟩ (.int .i64 rw.mode)).setCell ⟨w6.heap.size + 1, 3, none⟩ (.int .i64 rw.uid)).setCell ⟨w6.heap.size + 1, 4, none⟩ (.int .i64 rw.gid)).setCell ⟨w6.heap.size + 1, 5, none⟩ (.int .i64 rw.parent)).setCell ⟨w6.heap.size + 1, 6, none⟩ (.string rw.target)).setCell ⟨w6.heap.size + 1, 7, none⟩ (.slice a7 l7 c7)) (w6.heap.size + 1) [.int .i64 rw.ino, .int .i64 rw.kind, .int .i64 rw.mode, .int .i64 rw.uid, .int .i64 rw.gid, .int .i64 rw.parent, .string rw.target, .slice a7 l7 c7] ∧ SrcAt w0 ((((((((u00.setCell ⟨w6.heap.size + 1, 0, none⟩ (.int .i64 rw.ino)).setCell ⟨w6.heap.size + 1, 1, none⟩ (.int .i64 rw.kind)).setCell ⟨w6.heap.size + 1, 2, none⟩ (.int .i64 rw.mode)).setCell ⟨w6.heap.size + 1, 3, none⟩ (.int .i64 rw.uid)).setCell ⟨w6.heap.size + 1, 4, none⟩ (.int .i64 rw.gid)).setCell ⟨w6.heap.size + 1, 5, none⟩ (.int .i64 rw.parent)).setCell ⟨w6.heap.size + 1, 6, none⟩ (.string rw.target)).setCell ⟨w6.heap.size + 1, 7, none⟩ (.slice a7 l7 c7)) b a len cap k2 ∧ Beside b w0 ((((((((u00.setCell ⟨w6.heap.size + 1, 0, none⟩ (.int .i64 rw.ino)).setCell ⟨w6.heap.size + 1, 1, none⟩ (.int .i64 rw.kind)).setCell ⟨w6.heap.size + 1, 2, none⟩ (.int .i64 rw.mode)).setCell ⟨w6.heap.size + 1, 3, none⟩ (.int .i64 rw.uid)).setCell ⟨w6.heap.size + 1, 4, none⟩ (.int .i64 rw.gid)).setCell ⟨w6.heap.size + 1, 5, none⟩ (.int .i64 rw.parent)).setCell ⟨w6.heap.size + 1, 6, none⟩ (.string rw.target)).setCell ⟨w6.heap.size + 1, 7, none⟩ (.slice a7 l7 c7))) := Lib.hid (by
              have hk : ∀ g, g ≠ w6.heap.size + 1 → ((((((((u00.setCell ⟨w6.heap.size + 1, 0, none⟩ (.int .i64 rw.ino)).setCell ⟨w6.heap.size + 1, 1, none⟩ (.int .i64 rw.kind)).setCell ⟨w6.heap.size + 1, 2, none⟩ (.int .i64 rw.mode)).setCell ⟨w6.heap.size + 1, 3, none⟩ (.int .i64 rw.uid)).setCell ⟨w6.heap.size + 1, 4, none⟩ (.int .i64 rw.gid)).setCell ⟨w6.heap.size + 1, 5, none⟩ (.int .i64 rw.parent)).setCell ⟨w6.heap.size + 1, 6, none⟩ (.string rw.target)).setCell ⟨w6.heap.size + 1, 7, none⟩ (.slice a7 l7 c7)).heap[g]? = u00.heap[g]? := fun g hg => by
                have hh := fun (W : World) (j : Nat) (v : Value) => Below.heap_setCell W ⟨w6.heap.size + 1, j, none⟩ v g hg
                rw [hh, hh, hh, hh, hh, hh, hh, hh]
              have h6 : w0.heap.size ≤ w6.heap.size + 1 := by omega
              exact ⟨⟨vn, ev, hf6.setFar (hf6.setFar (hf6.setFar (hf6.setFar (hf6.setFar (hf6.setFar (hf6.setFar (hf6.setFar (hf7) (Nat.le_succ _) 0 (.int .i64 rw.ino)) (Nat.le_succ _) 1 (.int .i64 rw.kind)) (Nat.le_succ _) 2 (.int .i64 rw.mode)) (Nat.le_succ _) 3 (.int .i64 rw.uid)) (Nat.le_succ _) 4 (.int .i64 rw.gid)) (Nat.le_succ _) 5 (.int .i64 rw.parent)) (Nat.le_succ _) 6 (.string rw.target)) (Nat.le_succ _) 7 (.slice a7 l7 c7)⟩, tD7.keep (hk _ (by omega)), tW7.keep (hk _ (by omega)), tP7.keep (hk _ (by omega)), node_cells tM7 (.int .i64 rw.ino) (.int .i64 rw.kind) (.int .i64 rw.mode) (.int .i64 rw.uid) (.int .i64 rw.gid) (.int .i64 rw.parent) (.string rw.target) (.slice a7 l7 c7), src_set8 hs7 (by omega) (by omega) _ _ _ _ _ _ _ _, bes_set8 hbw7 (by omega) _ _ _ _ _ _ _ _⟩)
            clear c tP7 tM7 tD7 tW7 hs7 hbw7 hf6 hf7 hbx
            go_wp2_with fail
            go_meet
            exact ⟨rw, a7, l7, c7, hsz, KF.out⟩
          · have e1 : ((q : Int) == 3) = false := beq_eq_false_iff_ne.2 (by omega)
            have KF := Lib.hid (And.intro (show OutF w1.heap.size u00 (.slice fa F.length fc) F from ⟨vn, ev, hf7⟩) (And.intro tD7 (And.intro tW7 (And.intro tP7 (And.intro tM7 (And.intro hs7 hbw7))))))
            have hm300 : m.target.size ≤ 300 := by omega
            clear c tP7 tM7 tD7 tW7 hs7 hbw7 hf6 hf7 hbx
            go_wp2_with fail
            go_meet
            exact ⟨⟨0, m.kind, m.mode, m.uid, m.gid, 0, m.target, []⟩, none, 0, 0, hm300, KF.out⟩
        case rest =>
          clear r0 r1 r2 r3 r4 r5 r6 r7 p0 p1 p2 p3 p4 p5 p6 p7 f0 f1 f2 f3 f4 f5 f6 f7 tP7 tM7 tD7 tW7 hs7 hbw7 ho6 hbx
          rename World => u0
          obtain ⟨n, ra, rl, rc, hn300, hou, tD0, tW0, tP0, tM0, hs6, hb6⟩ := hcut
          have hb0 := Below.refl u0.heap.size u0
          have HFA : Hid (∀ W, Below u0.heap.size u0 W → FilesAt W fa F) := Lib.hid (fun W hb => by
            obtain ⟨a', c', hv, -, -, hF⟩ := (hou.stay hb).at_
            injection hv with hv _ _
            rw [hv]
            exact hF)
          have HEND := Lib.hid (fun W (hbb : Below u0.heap.size u0 W) => And.intro (hou.stay hbb) (And.intro (tD0.stay hbb) (And.intro (tW0.stay hbb) (And.intro (hs6.later hbb) (hb6.trans (.of_below hbb))))))
          clear hou tW0 hs6 hb6
          go_upto_region 11 with fail
          obtain ⟨x0, -⟩ := tD0.blk.c1
          obtain ⟨x1, x2, -⟩ := tP0.blk.c2
          obtain ⟨⟨y0, y1, y2, y3, y4, y5, y6, y7⟩, -⟩ := tM0.blk.c8
          have CC := Lib.hid (Make_any fa fc F x nm n ra rl rc u0 (HFA.out u0 hb0) HO.out)
          go_wp2_with fail
          refine CC.out.mono ?_
          rintro e v1 ⟨fv1, cv1, rfl, ho1, hc1, hbv⟩
          obtain ⟨ga1, gc1, rfl⟩ := outF_form ho1
          obtain ⟨u1, hu⟩ : ∃ u1, u1 = v1.alloc (.cells #[.slice ga1 (makeF F x nm n).files.length gc1] 24) := ⟨_, rfl⟩
          have hst : Below v1.heap.size v1 u1 := by rw [hu]; exact (Below.refl _ _).alloc (Nat.le_refl _) _
          have tA1 : TB 24 u1 v1.heap.size [.slice ga1 (makeF F x nm n).files.length gc1] := by rw [hu]; exact TB.new1 v1 _ _ _ rfl
          have hs1 : Below u0.heap.size u0 u1 := hbv.trans (hst.mono hbv.size)
          replace ho1 := ho1.stay hst
          replace hc1 := ownC_stay hc1 hst
          have hb1 : Below u0.heap.size u0 u1 := hb0.trans (hs1.mono hb0.size)
          have tD1 := tD0.stay hs1
          have tP1 := tP0.stay hs1
          have tM1 := tM0.stay hs1
          have HU := Lib.hid hu
          clear hu hst hbv CC x0 x1 x2 y0 y1 y2 y3 y4 y5 y6 y7 tD0 tP0 tM0
          go_upto_region 12 with fail
          rw [← HU.out]
          clear HU
          obtain ⟨x0, -⟩ := tD1.blk.c1
          obtain ⟨x1, x2, -⟩ := tP1.blk.c2
          obtain ⟨⟨y0, y1, y2, y3, y4, y5, y6, y7⟩, -⟩ := tM1.blk.c8
          have CC := Lib.hid (rMake_any fa fc F x nm n ra rl rc u1 (HFA.out u1 hb1) HO.out (by omega))
          go_wp2_with fail
          refine CC.out.mono ?_
          rintro e v2 ⟨fv2, cv2, rfl, ho2, hc2, hbv⟩
          obtain ⟨ga2, gc2, rfl⟩ := outF_form ho2
          obtain ⟨u2, hu⟩ : ∃ u2, u2 = v2.alloc (.cells #[.slice ga2 (makeF F x nm n).files.length gc2] 24) := ⟨_, rfl⟩
          have hst : Below v2.heap.size v2 u2 := by rw [hu]; exact (Below.refl _ _).alloc (Nat.le_refl _) _
          have tA2 : TB 24 u2 v2.heap.size [.slice ga2 (makeF F x nm n).files.length gc2] := by rw [hu]; exact TB.new1 v2 _ _ _ rfl
          have hs2 : Below u1.heap.size u1 u2 := hbv.trans (hst.mono hbv.size)
          replace ho2 := ho2.stay hst
          replace hc2 := ownC_stay hc2 hst
          have hb2 : Below u0.heap.size u0 u2 := hb1.trans (hs2.mono hb1.size)
          have tD2 := tD1.stay hs2
          have tP2 := tP1.stay hs2
          have tM2 := tM1.stay hs2
          have HU := Lib.hid hu
          clear hu hst hbv CC x0 x1 x2 y0 y1 y2 y3 y4 y5 y6 y7 tD1 tP1 tM1
          replace ho1 := ho1.stay hs2
          replace hc1 := ownC_stay hc1 hs2
          replace tA1 := tA1.stay hs2
          go_upto_region 13 with fail
          rw [← HU.out]
          clear HU
          have CB := Lib.hid (bad_no _ _ _ _ (makeF F x nm n) _ _ _ _ u2 ho1 hc1 ho2 hc2 (make_sml HO.out x nm n).1 (make_sml HO.out x nm n).2)
          obtain ⟨a1, -⟩ := tA1.blk.c1
          obtain ⟨a2, -⟩ := tA2.blk.c1
          clear ho1 ho2 hc1 hc2 tA1 tA2 tD2 tP2 tM2
          go_wp2_with fail
          refine CB.out.mono ?_
          rintro e u5 ⟨rfl, hb5⟩
          have hfin := HEND.out u5 (hb2.trans (hb5.mono hb2.size))
          clear CB a1 a2 hb5 hb2 hb1 hb0 HEND
          go_wp2_with fail
          exact ⟨⟨q + 1, k2, by omega, by go_num, by omega, hfin⟩, by simp [intOf]; omega⟩
      · have hqq : ¬ (q : Int) < 4 := by omega
        have CA2 := Lib.hid (CA.out wr)
        have hbw : Below w.heap.size w wr := by
          have hz := HZ.out
          have h1 := hb.below (B := w.heap.size) (by omega) (by omega)
          exact hbw0.trans h1
        clear CA hs ho tD tW hb
        go_wp2_with fail
        refine CA2.out.mono ?_
        rintro e w4 ⟨rfl, hb4⟩
        have hbf := hbw.trans (hb4.mono hbw.size)
        clear hb4 hbw CA2
        go_wp2_with fail
        go_ret
        exact ⟨rfl, hbf⟩
  · have hsz' : (rw.target.size : Int) > 300 := by omega
    have e0 : decide ((rw.target.size : Int) > 300) = true := decide_eq_true hsz'
    have CA2 := Lib.hid (CA.out w0)
    clear CA CS CF
    go_enter Try.func5, Try.ntmps5
    go_upto_region 1 with fail
    rw [← HW0.out]
    go_wp2_with fail
    refine CA2.out.mono ?_
    rintro e w4 ⟨rfl, hb4⟩
    have hbf := hbw0.trans (hb4.mono hbw0.size)
    clear hb4 CA2
    go_wp2_with fail
    go_ret
    exact ⟨rfl, hbf⟩
end Go.Proofs.Ytafnbpkdenjipaa.fl
namespace Go.Proofs.Ytafnbpkdenjipaa.filesMakes
open Go.RowKit Go.Proofs.Ytafnbpkdenjipaa.fl
theorem walk (a : Option Addr) (len cap : Nat) (zs : List Int) (n : NodeP) (ra : Option Addr) (rl rc : Nat) (w : World) (hr : IsRow .i64 w a len cap zs) (_ : laidMetH Try.prog Rows.filesMakesRow.laid w) (_ : w.ShapedOpen Try.prog) : Calls Try.prog 5 #[.slice a len cap, .agg #[.int .i64 n.ino, .int .i64 n.kind, .int .i64 n.mode, .int .i64 n.uid, .int .i64 n.gid, .int .i64 n.parent, .string n.target, .slice ra rl rc]] w fun e w' => e = .returned (.bool true) ∧ Below w.heap.size w w' := filesMakes_any a len cap n ra rl rc w (cm.nums_of_row hr)
end Go.Proofs.Ytafnbpkdenjipaa.filesMakes
