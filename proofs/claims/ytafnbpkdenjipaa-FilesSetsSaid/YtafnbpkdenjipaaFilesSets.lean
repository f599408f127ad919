/-
  FilesSets: the walk.
-/
import Derived.Test.YtafnbpkdenjipaaSrcL
import Derived.Test.YtafnbpkdenjipaaRSz
import Derived.Test.YtafnbpkdenjipaaFWk
import Derived.Test.YtafnbpkdenjipaaFSa
import Derived.Test.YtafnbpkdenjipaaRows
import Derived.Test.YtafnbpkdenjipaaRow
namespace Go.Proofs.Ytafnbpkdenjipaa.fl
open Go.RowKit Go.Proofs.Ytafnbpkdenjipaa.cm Go.Proofs.Ytafnbpkdenjipaa.sr

theorem set_sml {F : FilP} (hO : OKF F) (x : At) (m u g : Int) : Sml (setFF F x m u g).1 := by
  obtain ⟨-, -, h3⟩ := set_eq hO x m u g
  by_cases h : (setFF F x m u g).2 = 0
  · exact (hO.set x m u g h).sml
  · rw [h3 h]; exact ⟨by simp, fun d hd => by simp at hd, fun d hd => by simp at hd⟩

set_option maxRecDepth 100000 in
set_option maxHeartbeats 4000000 in
theorem filesSets_any (a : Option Addr) (len cap : Nat) (mode uid gid : Int) (w : World) (hr : Nums w a len) : Calls Try.prog 7 #[.slice a len cap, .int .i64 mode, .int .i64 uid, .int .i64 gid] w fun e w' => e = .returned (.bool true) ∧ Below w.heap.size w w' := by
  obtain ⟨w1, hw1⟩ : ∃ w1, w1 = w.alloc (.cells #[.slice a len cap, .int .i64 0] 74) := ⟨_, rfl⟩
  have hs1 : SrcAt w w1 w.heap.size a len cap 0 := by rw [hw1]; exact src_new w a len cap hr
  have hb1 : Beside w.heap.size w w1 := by rw [hw1]; exact (Beside.refl _ _).alloc _
  have CS := Lib.hid (new_any a len cap w)
  have CF := Lib.hid (files_b w w1 w.heap.size a len cap 0 hs1 (by omega))
  have CA := Lib.hid (fun W => awake_any W)
  have HW1 := Lib.hid hw1
  have hz1 : w1.heap.size = w.heap.size + 1 := by rw [hw1, size_alloc]
  clear hw1 hs1 hr
  go_enter Try.func7, Try.ntmps7
  go_wp2_with fail
  refine CS.out.mono ?_
  rintro e w1' ⟨rfl, hw1'⟩
  obtain rfl : w1' = w1 := hw1'.trans HW1.out.symm
  rename World => w1
  clear CS HW1 hw1'
  go_wp2_with fail
  refine CF.out.mono ?_
  rintro e w2 ⟨F, fa, fc, k0, hk0, hO, rfl, ho2, hs2, hb2⟩
  have hb3 := (hb1.trans hb2).alloc (.cells #[.slice fa F.length fc] 24)
  have hs3 := hs2.alloc (.cells #[.slice fa F.length fc] 24)
  have ho3 := ho2.stay ((Below.refl w2.heap.size w2).alloc (Nat.le_refl _) (.cells #[.slice fa F.length fc] 24))
  obtain ⟨w3, hw3⟩ : ∃ w3, w3 = w2.alloc (.cells #[.slice fa F.length fc] 24) := ⟨_, rfl⟩
  have tD3 : TB 24 w3 w2.heap.size [.slice fa F.length fc] := by rw [hw3]; exact TB.new1 w2 _ _ _ rfl
  have hwz : w.heap.size < w2.heap.size := by have := hb2.size; omega
  have hDb : w2.heap.size ≠ w.heap.size := by omega
  rw [← hw3] at hb3 hs3 ho3
  have HW3 := Lib.hid hw3
  have HO := Lib.hid hO
  have CFi := Lib.hid (file_b w w3 w.heap.size a len cap k0 hs3 (by omega) w1.heap.size (.slice fa F.length fc) F ho3 hO)
  have HF := Lib.hid (fun W (hb : Beside w.heap.size w3 W) => ho3.beside hs3 hb)
  have x0 := tD3.blk.c1.1
  clear CF hw3 hO ho2 hs2 hb2 hb1 hs3 ho3
  go_upto_region 3 with fail
  rw [← HW3.out]
  clear HW3
  go_wp2_with fail
  refine CFi.out.mono ?_
  rintro e w4 ⟨x, k1, hk1, rfl, hs4, hb4⟩
  have hz4 := hb4.size
  have hz3 := tD3.lt
  have tD4 := tD3.beside hDb hb4
  have hb5 := hb4.alloc (.cells #[.int .i64 x.dev, .int .i64 x.ino] 36)
  have hs5 := hs4.alloc (.cells #[.int .i64 x.dev, .int .i64 x.ino] 36)
  have tD5 := tD4.alloc (.cells #[.int .i64 x.dev, .int .i64 x.ino] 36)
  obtain ⟨w5, hw5⟩ : ∃ w5, w5 = w4.alloc (.cells #[.int .i64 x.dev, .int .i64 x.ino] 36) := ⟨_, rfl⟩
  have tP5 : TB 36 w5 w4.heap.size [.int .i64 x.dev, .int .i64 x.ino] := by rw [hw5]; exact TB.new1 w4 _ _ _ rfl
  rw [← hw5] at hb5 hs5 tD5
  have HW5 := Lib.hid hw5
  have hz5 := tP5.lt
  have hPb : w4.heap.size ≠ w.heap.size := by omega
  clear CFi x0 tD3 tD4 hs4 hb4 hw5
  have hb6 := hb5.alloc (.cells #[.int .i64 mode, .int .i64 uid, .int .i64 gid] 3)
  have hs6 := hs5.alloc (.cells #[.int .i64 mode, .int .i64 uid, .int .i64 gid] 3)
  have tD6 := tD5.alloc (.cells #[.int .i64 mode, .int .i64 uid, .int .i64 gid] 3)
  have tP6 := tP5.alloc (.cells #[.int .i64 mode, .int .i64 uid, .int .i64 gid] 3)
  have tT6 := TB.new1 w5 [.int .i64 mode, .int .i64 uid, .int .i64 gid] 3 w5.heap.size rfl
  have hz6 := size_alloc w5 (.cells #[.int .i64 mode, .int .i64 uid, .int .i64 gid] 3)
  have hTb : w5.heap.size ≠ w.heap.size := by omega
  clear tD5 tP5 hs5 hb5
  have C1 := Lib.hid (pick_b w ((w5.alloc (.cells #[.int .i64 mode, .int .i64 uid, .int .i64 gid] 3)).alloc (.cells #[.int .i64 0, .int .i64 511, .int .i64 512, .int .i64 (-1)] 3)) w.heap.size a len cap (k1) (hs6.alloc _) (by omega) (w5.heap.size + 1) (by have := hs6.lt; omega) (by simp) 4 (by omega) (by omega) 4 (fun _ => True) (fun j hj => by
    match j, hj with
    | 0, _ => exact ⟨_, by first | (simp; rfl) | simp, trivial⟩
    | 1, _ => exact ⟨_, by first | (simp; rfl) | simp, trivial⟩
    | 2, _ => exact ⟨_, by first | (simp; rfl) | simp, trivial⟩
    | 3, _ => exact ⟨_, by first | (simp; rfl) | simp, trivial⟩))
  go_upto_region 4 with fail
  rw [← HW5.out]
  go_wp2_with fail
  refine C1.out.mono ?_
  rintro e w7 ⟨m1, -, rfl, hs7, hb7'⟩
  have hb7 := (hb6.alloc (.cells #[.int .i64 0, .int .i64 511, .int .i64 512, .int .i64 (-1)] 3)).trans hb7'
  have tD7 := (tD6.alloc (.cells #[.int .i64 0, .int .i64 511, .int .i64 512, .int .i64 (-1)] 3)).beside hDb hb7'
  have tP7 := (tP6.alloc (.cells #[.int .i64 0, .int .i64 511, .int .i64 512, .int .i64 (-1)] 3)).beside hPb hb7'
  have tT7 := (tT6.alloc (.cells #[.int .i64 0, .int .i64 511, .int .i64 512, .int .i64 (-1)] 3)).beside hTb hb7'
  clear C1 hb7' hb6 tD6 tP6 tT6 hs6 HW5
  have C2 := Lib.hid (pick_b w (w7.alloc (.cells #[.int .i64 0, .int .i64 4294967295, .int .i64 4294967296] 3)) w.heap.size a len cap (k1 + 1) (hs7.alloc _) (by omega) w7.heap.size (by have := hs7.lt; omega) (by simp) 3 (by omega) (by omega) 3 (fun _ => True) (fun j hj => by
    match j, hj with
    | 0, _ => exact ⟨_, by first | (simp; rfl) | simp, trivial⟩
    | 1, _ => exact ⟨_, by first | (simp; rfl) | simp, trivial⟩
    | 2, _ => exact ⟨_, by first | (simp; rfl) | simp, trivial⟩))
  go_wp2_with fail
  refine C2.out.mono ?_
  rintro e w8 ⟨m2, -, rfl, hs8, hb8'⟩
  have hb8 := (hb7.alloc (.cells #[.int .i64 0, .int .i64 4294967295, .int .i64 4294967296] 3)).trans hb8'
  have tD8 := (tD7.alloc (.cells #[.int .i64 0, .int .i64 4294967295, .int .i64 4294967296] 3)).beside hDb hb8'
  have tP8 := (tP7.alloc (.cells #[.int .i64 0, .int .i64 4294967295, .int .i64 4294967296] 3)).beside hPb hb8'
  have tT8 := (tT7.alloc (.cells #[.int .i64 0, .int .i64 4294967295, .int .i64 4294967296] 3)).beside hTb hb8'
  clear C2 hb8' hb7 tD7 tP7 tT7 hs7
  have C3 := Lib.hid (pick_b w (w8.alloc (.cells #[.int .i64 0, .int .i64 7, .int .i64 (-1)] 3)) w.heap.size a len cap (k1 + 1 + 1) (hs8.alloc _) (by omega) w8.heap.size (by have := hs8.lt; omega) (by simp) 3 (by omega) (by omega) 3 (fun _ => True) (fun j hj => by
    match j, hj with
    | 0, _ => exact ⟨_, by first | (simp; rfl) | simp, trivial⟩
    | 1, _ => exact ⟨_, by first | (simp; rfl) | simp, trivial⟩
    | 2, _ => exact ⟨_, by first | (simp; rfl) | simp, trivial⟩))
  go_wp2_with fail
  refine C3.out.mono ?_
  rintro e w9 ⟨m3, -, rfl, hs9, hb9'⟩
  have hb9 := (hb8.alloc (.cells #[.int .i64 0, .int .i64 7, .int .i64 (-1)] 3)).trans hb9'
  have tD9 := (tD8.alloc (.cells #[.int .i64 0, .int .i64 7, .int .i64 (-1)] 3)).beside hDb hb9'
  have tP9 := (tP8.alloc (.cells #[.int .i64 0, .int .i64 7, .int .i64 (-1)] 3)).beside hPb hb9'
  have tT9 := (tT8.alloc (.cells #[.int .i64 0, .int .i64 7, .int .i64 (-1)] 3)).beside hTb hb9'
  clear C3 hb9' hb8 tD8 tP8 tT8 hs8
  obtain ⟨u0, hu0⟩ : ∃ u0, u0 = (w9.alloc (.cells #[.int .i64 m1, .int .i64 m2, .int .i64 m3] 3)).alloc (.cells #[.slice (some ⟨w5.heap.size, 0, none⟩) 3 3, .slice (some ⟨w9.heap.size, 0, none⟩) 3 3] 31) := ⟨_, rfl⟩
  obtain ⟨L, hL⟩ : ∃ L, L = w9.heap.size + 1 := ⟨_, rfl⟩
  have tD : TB 24 u0 w2.heap.size [.slice fa F.length fc] := by rw [hu0]; exact (tD9.alloc _).alloc _
  have tP : TB 36 u0 w4.heap.size [.int .i64 x.dev, .int .i64 x.ino] := by rw [hu0]; exact (tP9.alloc _).alloc _
  have tT : TB 3 u0 w5.heap.size [.int .i64 mode, .int .i64 uid, .int .i64 gid] := by rw [hu0]; exact (tT9.alloc _).alloc _
  have tT2 : TB 3 u0 w9.heap.size [.int .i64 m1, .int .i64 m2, .int .i64 m3] := by rw [hu0]; exact (TB.new1 w9 _ _ _ rfl).alloc _
  have tL : TB 31 u0 L [.slice (some ⟨w5.heap.size, 0, none⟩) 3 3, .slice (some ⟨w9.heap.size, 0, none⟩) 3 3] := by rw [hu0, hL]; exact TB.new1 _ [.slice (some ⟨w5.heap.size, 0, none⟩) 3 3, .slice (some ⟨w9.heap.size, 0, none⟩) 3 3] _ _ (size_alloc _ _)
  have hbu : Beside w.heap.size w3 u0 := by rw [hu0]; exact (hb9.alloc _).alloc _
  have hou := HF.out u0 hbu
  have hbwu : Below w.heap.size w u0 := (hb3.trans hbu).below (Nat.le_refl _) (Nat.le_refl _)
  have HFA : Hid (∀ W, Below u0.heap.size u0 W → FilesAt W fa F) := Lib.hid (fun W hb => by
    obtain ⟨a', c', hv, -, -, hF⟩ := (hou.stay hb).at_
    injection hv with hv _ _
    rw [hv]
    exact hF)
  have HU0 := Lib.hid (show u0 = (w9.alloc (.cells #[.int .i64 m1, .int .i64 m2, .int .i64 m3] 3)).alloc (.cells #[.slice (some ⟨w5.heap.size, 0, none⟩) 3 3, .slice (some ⟨w9.heap.size, 0, none⟩) 3 3] 31) from hu0)
  have HL := Lib.hid hL
  have HB := Lib.hid hbwu
  have KT : Hid (∀ q, q < 2 → ∃ (T : Nat) (m u g : Int), ∀ W, Below u0.heap.size u0 W → W.cell? ⟨w2.heap.size, 0, none⟩ = some (.slice fa F.length fc) ∧ W.cell? ⟨w4.heap.size, 0, none⟩ = some (.int .i64 x.dev) ∧ W.cell? ⟨w4.heap.size, 1, none⟩ = some (.int .i64 x.ino) ∧ W.cell? ⟨L, q, none⟩ = some (.slice (some ⟨T, 0, none⟩) 3 3) ∧ W.cell? ⟨T, 0, none⟩ = some (.int .i64 m) ∧ W.cell? ⟨T, 1, none⟩ = some (.int .i64 u) ∧ W.cell? ⟨T, 2, none⟩ = some (.int .i64 g)) := Lib.hid (fun q hq => by
    match q, hq with
    | 0, _ => exact ⟨w5.heap.size, mode, uid, gid, fun W hb => ⟨(tD.stay hb).blk.c1.1, (tP.stay hb).blk.c2.1, (tP.stay hb).blk.c2.2.1, (tL.stay hb).blk.c2.1, (tT.stay hb).blk.c3.1, (tT.stay hb).blk.c3.2.1, (tT.stay hb).blk.c3.2.2.1⟩⟩
    | 1, _ => exact ⟨w9.heap.size, m1, m2, m3, fun W hb => ⟨(tD.stay hb).blk.c1.1, (tP.stay hb).blk.c2.1, (tP.stay hb).blk.c2.2.1, (tL.stay hb).blk.c2.2.1, (tT2.stay hb).blk.c3.1, (tT2.stay hb).blk.c3.2.1, (tT2.stay hb).blk.c3.2.2.1⟩⟩)
  clear hu0 hL tD9 tP9 tT9 hs9 hb9 tD tP tT tT2 tL hbu hou hbwu HF hb3
  go_upto_region 5 with fail
  rw [← HU0.out, ← HL.out]
  clear HU0 HL
  go_wp2_with fail
  go_loopw [13] (fun i wr => ∃ q : Nat, q ≤ 2 ∧ i = .int .i64 q ∧ Below u0.heap.size u0 wr) (fun i _ => 2 - (intOf i).toNat)
  case atStart => exact ⟨0, by omega, rfl, Below.refl _ _⟩
  case round =>
    obtain ⟨q, hq, rfl, hbr⟩ := hrel
    rename World => ur
    by_cases hlt : q < 2
    · have hqq : (q : Int) < 2 := by omega
      obtain ⟨T, m, u, g, hkt⟩ := KT.out q hlt
      have KS := Lib.hid hkt
      obtain ⟨R, hR⟩ : ∃ R, R = setFF F x m u g := ⟨_, rfl⟩
      have HR := Lib.hid hR
      have HSM : Hid (Sml R.1) := Lib.hid (by rw [hR]; exact set_sml HO.out x m u g)
      clear hkt hR
      have hbur := hbr
      have hbdv1 : Below ur.heap.size ur ur.drew := (Below.refl _ _).drew
      have hbev1 : Below ur.heap.size ur (ur.alloc (.cells #[.slice none 0 0] 24)).drew := ((Below.refl _ _).alloc (Nat.le_refl _) _).drew
      have tAv1 : TB 24 (ur.alloc (.cells #[.slice none 0 0] 24)).drew ur.heap.size [.slice none 0 0] := (TB.new1 ur [.slice none 0 0] _ _ rfl).drew
      have K4 := KS.out ur hbur
      have CSv1 : Hid (∀ W, Below ur.heap.size ur W → Calls Try.prog 31 #[.agg #[.slice fa F.length fc], .agg #[.int .i64 x.dev, .int .i64 x.ino], .int .i64 m, .int .i64 u, .int .i64 g] W (SetR W.heap.size R W)) := Lib.hid (fun W hb => by rw [HR.out]; exact Set_any fa fc F x m u g W (HFA.out W ((hbur.trans (hb.mono hbur.size)))) HO.out)
      go_upto_region 8 with fail
      go_cut [14, 15] (fun sA sE W => ∃ (A : Nat) (ga : Option Addr) (gc : Nat), sA = .pointer (some ⟨A, 0, none⟩) ∧ sE = .int .i64 R.2 ∧ TB 24 W A [.slice ga R.1.length gc] ∧ OutF ur.heap.size W (.slice ga R.1.length gc) R.1 ∧ Below ur.heap.size ur W)
      case first =>
        go_region_held3 (fun (W : World) => W.cell? ⟨w2.heap.size, 0, none⟩ = some (.slice fa F.length fc) ∧ W.cell? ⟨w4.heap.size, 0, none⟩ = some (.int .i64 x.dev) ∧ W.cell? ⟨w4.heap.size, 1, none⟩ = some (.int .i64 x.ino) ∧ W.cell? ⟨L, q, none⟩ = some (.slice (some ⟨T, 0, none⟩) 3 3) ∧ W.cell? ⟨T, 0, none⟩ = some (.int .i64 m) ∧ W.cell? ⟨T, 1, none⟩ = some (.int .i64 u) ∧ W.cell? ⟨T, 2, none⟩ = some (.int .i64 g))
          (first
            | (with_reducible exact K4)
            | (with_reducible exact K5)
            | (exact K6)
            | (with_reducible exact KA)
            | go_keep)
          (first
            | (go_at_call 31; (with_reducible refine (CSv1.out _ hbdv1).mono ?_); rintro e v1 ⟨fv, rfl, h1, h3⟩; obtain ⟨ga, gc, rfl⟩ := outF_form h1; have hb9 : Below ur.heap.size ur v1 := hbdv1.trans h3; have K5 := KS.out v1 (hbur.trans (hb9.mono hbur.size)); have hbz := (Below.refl v1.heap.size v1).alloc (Nat.le_refl _) (.cells #[.slice ga R.1.length gc] 24); have K6 := KS.out _ ((hbur.trans (hb9.mono hbur.size)).trans (hbz.mono (by have := hb9.size; have := hbur.size; omega))); have HFN := Lib.hid (And.intro (TB.new1 v1 [.slice ga R.1.length gc] 24 v1.heap.size rfl) (And.intro ((h1.mono (Nat.le_refl _)).stay hbz) (hb9.trans (hbz.mono hb9.size)))); clear h1 h3 hbz)
            | (go_at_call 31; (with_reducible refine (CSv1.out _ hbev1).mono ?_); rintro e v1 ⟨fv, rfl, h1, h3⟩; obtain ⟨ga, gc, rfl⟩ := outF_form h1; have hb9 : Below ur.heap.size ur v1 := hbev1.trans (h3.mono hbev1.size); have K5 := KS.out v1 (hbur.trans (hb9.mono hbur.size)); have t9 := tAv1.stay h3; obtain ⟨a0, af⟩ := t9.blk.c1; have K6 := KS.out _ (below_set (hbur.trans (hb9.mono hbur.size)) (hbur.size) 0 (.slice ga R.1.length gc)); have HFN := Lib.hid (And.intro (show TB 24 (v1.setCell ⟨ur.heap.size, 0, none⟩ (.slice ga R.1.length gc)) ur.heap.size [.slice ga R.1.length gc] from t9.set 0 _) (And.intro ((h1.mono hbev1.size).same (t9.same (by decide) 0 (.slice ga R.1.length gc))) (below_set hb9 (Nat.le_refl _) 0 (.slice ga R.1.length gc)))); clear h1 h3 t9))
        all_goals
          try clear K5
          try clear K6
          clear K4
          go_wp2_with fail
          go_meet
          exact ⟨_, _, _, rfl, rfl, HFN.out⟩
      case rest =>
        obtain ⟨Av1, gav1, gcv1, rfl, rfl, tv1, ov1, hxv1⟩ := hcut
        rename World => v1
        clear K4 hbdv1 hbev1 tAv1 CSv1
        have hbv1 : Below u0.heap.size u0 v1 := hbur.trans (hxv1.mono hbur.size)
        have hbdv2 : Below v1.heap.size v1 v1.drew := (Below.refl _ _).drew
        have hbev2 : Below v1.heap.size v1 (v1.alloc (.cells #[.slice none 0 0] 24)).drew := ((Below.refl _ _).alloc (Nat.le_refl _) _).drew
        have tAv2 : TB 24 (v1.alloc (.cells #[.slice none 0 0] 24)).drew v1.heap.size [.slice none 0 0] := (TB.new1 v1 [.slice none 0 0] _ _ rfl).drew
        have K4 := KS.out v1 hbv1
        have CSv2 : Hid (∀ W, Below v1.heap.size v1 W → Calls Try.prog 32 #[.agg #[.slice fa F.length fc], .agg #[.int .i64 x.dev, .int .i64 x.ino], .int .i64 m, .int .i64 u, .int .i64 g] W (SetR W.heap.size R W)) := Lib.hid (fun W hb => by rw [HR.out]; exact rSet_any fa fc F x m u g W (HFA.out W ((hbv1.trans (hb.mono hbv1.size)))) HO.out)
        go_upto_region 9 with fail
        go_cut [16, 17] (fun sA sE W => ∃ (A : Nat) (ga : Option Addr) (gc : Nat), sA = .pointer (some ⟨A, 0, none⟩) ∧ sE = .int .i64 R.2 ∧ TB 24 W A [.slice ga R.1.length gc] ∧ OutF v1.heap.size W (.slice ga R.1.length gc) R.1 ∧ Below v1.heap.size v1 W)
        case first =>
          go_region_held3 (fun (W : World) => W.cell? ⟨w2.heap.size, 0, none⟩ = some (.slice fa F.length fc) ∧ W.cell? ⟨w4.heap.size, 0, none⟩ = some (.int .i64 x.dev) ∧ W.cell? ⟨w4.heap.size, 1, none⟩ = some (.int .i64 x.ino) ∧ W.cell? ⟨L, q, none⟩ = some (.slice (some ⟨T, 0, none⟩) 3 3) ∧ W.cell? ⟨T, 0, none⟩ = some (.int .i64 m) ∧ W.cell? ⟨T, 1, none⟩ = some (.int .i64 u) ∧ W.cell? ⟨T, 2, none⟩ = some (.int .i64 g))
            (first
              | (with_reducible exact K4)
              | (with_reducible exact K5)
              | (exact K6)
              | (with_reducible exact KA)
              | go_keep)
            (first
              | (go_at_call 32; (with_reducible refine (CSv2.out _ hbdv2).mono ?_); rintro e v2 ⟨fv, rfl, h1, h3⟩; obtain ⟨ga, gc, rfl⟩ := outF_form h1; have hb9 : Below v1.heap.size v1 v2 := hbdv2.trans h3; have K5 := KS.out v2 (hbv1.trans (hb9.mono hbv1.size)); have hbz := (Below.refl v2.heap.size v2).alloc (Nat.le_refl _) (.cells #[.slice ga R.1.length gc] 24); have K6 := KS.out _ ((hbv1.trans (hb9.mono hbv1.size)).trans (hbz.mono (by have := hb9.size; have := hbv1.size; omega))); have HFN := Lib.hid (And.intro (TB.new1 v2 [.slice ga R.1.length gc] 24 v2.heap.size rfl) (And.intro ((h1.mono (Nat.le_refl _)).stay hbz) (hb9.trans (hbz.mono hb9.size)))); clear h1 h3 hbz)
              | (go_at_call 32; (with_reducible refine (CSv2.out _ hbev2).mono ?_); rintro e v2 ⟨fv, rfl, h1, h3⟩; obtain ⟨ga, gc, rfl⟩ := outF_form h1; have hb9 : Below v1.heap.size v1 v2 := hbev2.trans (h3.mono hbev2.size); have K5 := KS.out v2 (hbv1.trans (hb9.mono hbv1.size)); have t9 := tAv2.stay h3; obtain ⟨a0, af⟩ := t9.blk.c1; have K6 := KS.out _ (below_set (hbv1.trans (hb9.mono hbv1.size)) (hbv1.size) 0 (.slice ga R.1.length gc)); have HFN := Lib.hid (And.intro (show TB 24 (v2.setCell ⟨v1.heap.size, 0, none⟩ (.slice ga R.1.length gc)) v1.heap.size [.slice ga R.1.length gc] from t9.set 0 _) (And.intro ((h1.mono hbev2.size).same (t9.same (by decide) 0 (.slice ga R.1.length gc))) (below_set hb9 (Nat.le_refl _) 0 (.slice ga R.1.length gc)))); clear h1 h3 t9))
          all_goals
            try clear K5
            try clear K6
            clear K4
            go_wp2_with fail
            go_meet
            exact ⟨_, _, _, rfl, rfl, HFN.out⟩
        case rest =>
          obtain ⟨Av2, gav2, gcv2, rfl, rfl, tv2, ov2, hxv2⟩ := hcut
          rename World => v2
          clear K4 hbdv2 hbev2 tAv2 CSv2
          have tA1 := tv1.stay hxv2
          have o1 := ov1.stay hxv2
          have hbv2 : Below u0.heap.size u0 v2 := hbv1.trans (hxv2.mono hbv1.size)
          obtain ⟨f1, -⟩ := tA1.blk.c1
          obtain ⟨f2, -⟩ := tv2.blk.c1
          have CS2 : Hid (Calls Try.prog 11 #[.agg #[.slice gav1 R.1.length gcv1], .agg #[.slice gav2 R.1.length gcv2]] v2 fun e w' => e = .returned (.bool true) ∧ Below v2.heap.size v2 w') := Lib.hid (by
            obtain ⟨a1, c1, h1, g1⟩ := o1.files
            obtain ⟨a2, c2, h2, g2⟩ := ov2.files
            injection h1 with h1 _ _
            injection h2 with h2 _ _
            rw [h1, h2]
            exact Same_true a1 a2 gcv1 gcv2 R.1 v2 g1 g2 HSM.out)
          obtain ⟨E, hE⟩ : ∃ E, E = R.2 := ⟨_, rfl⟩
          rw [← hE]
          have e9 : (E != E) = false := by simp
          clear hE tA1 o1 tv1 tv2 ov1 ov2 HR HSM
          go_wp2_with fail
          refine CS2.out.mono ?_
          rintro e v3 ⟨rfl, hb3⟩
          have hfin : Below u0.heap.size u0 v3 := hbv2.trans (hb3.mono hbv2.size)
          clear f1 f2 CS2 hb3 hbv2 hbv1 hxv1 hxv2 hbur hbr
          go_wp2_with fail
          exact ⟨⟨q + 1, by omega, by go_num, hfin⟩, by simp [intOf]; omega⟩
    · have hqq : ¬ (q : Int) < 2 := by omega
      have CA2 := Lib.hid (CA.out ur)
      have hbw : Below w.heap.size w ur := HB.out.trans (hbr.mono HB.out.size)
      clear CA hbr
      go_wp2_with fail
      refine CA2.out.mono ?_
      rintro e v4 ⟨rfl, hb4⟩
      have hbf := hbw.trans (hb4.mono hbw.size)
      clear hb4 hbw CA2
      go_wp2_with fail
      go_ret
      exact ⟨rfl, hbf⟩
end Go.Proofs.Ytafnbpkdenjipaa.fl
namespace Go.Proofs.Ytafnbpkdenjipaa.filesSets
open Go.RowKit Go.Proofs.Ytafnbpkdenjipaa.fl
theorem walk (a : Option Addr) (len cap : Nat) (zs : List Int) (mode uid gid : Int) (w : World) (hr : IsRow .i64 w a len cap zs) (_ : (Lit.int .i64 mode).wf = true) (_ : (Lit.int .i64 uid).wf = true) (_ : (Lit.int .i64 gid).wf = true) (_ : laidMetH Try.prog Rows.filesSetsRow.laid w) (_ : w.ShapedOpen Try.prog) : Calls Try.prog 7 #[.slice a len cap, .int .i64 mode, .int .i64 uid, .int .i64 gid] w fun e w' => e = .returned (.bool true) ∧ Below w.heap.size w w' := filesSets_any a len cap mode uid gid w (cm.nums_of_row hr)
end Go.Proofs.Ytafnbpkdenjipaa.filesSets
