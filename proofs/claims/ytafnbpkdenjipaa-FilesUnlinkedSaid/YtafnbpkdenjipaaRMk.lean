/-
  The reference of files: Make.
-/
import Derived.Test.YtafnbpkdenjipaaRQc
import Derived.Test.YtafnbpkdenjipaaRQd
import Derived.Test.YtafnbpkdenjipaaFMz
namespace Go.Proofs.Ytafnbpkdenjipaa.fl
open Go.RowKit Go.Proofs.Ytafnbpkdenjipaa.cm

set_option linter.unusedSimpArgs false in
set_option maxRecDepth 100000 in
set_option maxHeartbeats 8000000 in
theorem rMake_any (a : Option Addr) (cap : Nat) (F : FilP) (x : At) (s : ByteArray) (n : NodeP) (ra : Option Addr) (rl rc : Nat) (w : World) (hF : FilesAt w a F) (hO : OKF F) (hs : n.target.size ≤ 100000) :
    Calls Try.prog 26 #[.agg #[.slice a F.length cap], .agg #[.int .i64 x.dev, .int .i64 x.ino], .string s, .agg #[.int .i64 n.ino, .int .i64 n.kind, .int .i64 n.mode, .int .i64 n.uid, .int .i64 n.gid, .int .i64 n.parent, .string n.target, .slice ra rl rc]] w (EditR w.heap.size (makeF F x s n) w) := by
  have hb1 : Below w.heap.size w (w.alloc (.cells #[.slice a F.length cap] 24)) := (Below.refl _ _).alloc (Nat.le_refl _) _
  have hb2 := hb1.alloc hb1.size (.cells #[.int .i64 x.dev, .int .i64 x.ino] 36)
  have hb2y := hb2.alloc hb2.size (.cells #[.int .i64 n.ino, .int .i64 n.kind, .int .i64 n.mode, .int .i64 n.uid, .int .i64 n.gid, .int .i64 n.parent, .string n.target, .slice ra rl rc] 43)
  have hb3 := hb2y.alloc hb2y.size (.cells #[.slice none 0 0] 24)
  obtain ⟨w3, hw3⟩ : ∃ w3, w3 = (((w.alloc (.cells #[.slice a F.length cap] 24)).alloc (.cells #[.int .i64 x.dev, .int .i64 x.ino] 36)).alloc (.cells #[.int .i64 n.ino, .int .i64 n.kind, .int .i64 n.mode, .int .i64 n.uid, .int .i64 n.gid, .int .i64 n.parent, .string n.target, .slice ra rl rc] 43)).alloc (.cells #[.slice none 0 0] 24) := ⟨_, rfl⟩
  have tF : TB 24 w3 w.heap.size [.slice a F.length cap] := by rw [hw3]; exact (((TB.new1 w [.slice a F.length cap] _ _ rfl).alloc _).alloc _).alloc _
  have tD : TB 36 w3 (w.heap.size + 1) [.int .i64 x.dev, .int .i64 x.ino] := by rw [hw3]; exact ((TB.new1 _ [.int .i64 x.dev, .int .i64 x.ino] _ _ (size_alloc _ _)).alloc _).alloc _
  have tY : TB 43 w3 (w.heap.size + 1 + 1) (ncs n (.slice ra rl rc)) := by rw [hw3]; exact (TB.new1 _ (ncs n (.slice ra rl rc)) _ _ (by rw [size_alloc, size_alloc])).alloc _
  have tG : TB 24 w3 (w.heap.size + 1 + 1 + 1) [.slice none 0 0] := by rw [hw3]; exact TB.new1 _ [.slice none 0 0] _ _ (by rw [size_alloc, size_alloc, size_alloc])
  rw [← hw3] at hb3
  have hFW : ∀ W, Below w3.heap.size w3 W → FilesAt W a F := fun W hb => hF.below (hb3.trans (hb.mono hb3.size))
  have CP := Lib.hid (fun W (hb : Below w3.heap.size w3 W) => rplace_any a cap F x s W (hFW W hb) hO.sml)
  have CL := Lib.hid (fun W (hb : Below w3.heap.size w3 W) => rLook_any a cap F x s W (hFW W hb) hO.sml)
  have CF := Lib.hid (fun W (hb : Below w3.heap.size w3 W) => rfull_any a cap F x W (hFW W hb) hO.sml)
  have CPl := Lib.hid (fun W => rplain_any n ra rl rc W hs)
  have HFW := Lib.hid hFW
  have HOK := Lib.hid hO
  have ERR : Hid (∀ (e : Int) W, Below w3.heap.size w3 W → EditR w.heap.size (errR e) w (.returned (.tuple #[.agg #[.slice none 0 0], .slice none 0 0, .int .i64 e])) (W.setCell ⟨w.heap.size + 1 + 1 + 1, 0, none⟩ (.slice none 0 0))) := Lib.hid (fun e W hb => EditR.out (r := errR e) hb3.size hb3 (OutF.nil _ _) (OwnC.nil _ _) hb (tG.stay hb) (by omega))
  have KEEP := Lib.hid (And.intro tF (And.intro tD (And.intro tY tG)))
  obtain ⟨x0, -⟩ := tF.blk.c1
  obtain ⟨x1, x2, -⟩ := tD.blk.c2
  have HB3 := Lib.hid hb3
  have HW := Lib.hid hw3
  obtain ⟨R, hR⟩ : ∃ R, R = makeF F x s n := ⟨_, rfl⟩
  rw [← hR]
  clear hw3 hb1 hb2 hb2y hb3 hF hFW tF tD tY tG hs
  by_cases c1 : placeF F x s = 0
  · obtain ⟨d, pn, HD, HPN, HR⟩ : ∃ (d : DevP) (pn : NodeP), Hid (devF F x.dev = some d) ∧ Hid (nodeF F x = some pn) ∧ Hid (R = if plainB n = false then errR 22 else if (lookF F x s).2 = 0 then errR 17 else if 16 ≤ d.nodes.length ∨ d.next = 1073741824 ∨ fullF F x = true then errR 28 else ⟨pointF (mkF F x n) x s ⟨x.dev, d.next⟩, [⟨x, s, zA, ⟨x.dev, d.next⟩⟩], 0⟩) := by
      obtain ⟨p, hp, -⟩ := place_zero c1
      obtain ⟨d, hd, -⟩ := nodeF_of hp
      refine ⟨d, p, Lib.hid hd, Lib.hid hp, Lib.hid ?_⟩
      rw [hR]
      by_cases c2 : plainB n = false
      · rw [if_pos c2]; unfold makeF; rw [if_neg (fun h => h c1), if_pos c2]
      rw [if_neg c2]
      by_cases c3 : (lookF F x s).2 = 0
      · rw [if_pos c3]; unfold makeF; rw [if_neg (fun h => h c1), if_neg c2, if_pos c3]
      rw [if_neg c3]
      have c2' : plainB n = true := by simpa using c2
      by_cases c4 : 16 ≤ d.nodes.length ∨ d.next = 1073741824 ∨ fullF F x = true
      · rw [if_pos c4]; exact make_err hd c1 c2' c3 c4
      · rw [if_neg c4]; exact make_parts hd hO c1 c2' c3 c4
    obtain ⟨j, hxj, HDJ⟩ : ∃ j : Nat, x.dev = (j : Int) ∧ Hid (F[j]? = some d) := by
      obtain ⟨h0, h1, -⟩ := devF_of HD.out
      exact ⟨x.dev.toNat, by omega, Lib.hid h1⟩
    have hjl : (j : Int) < (F.length : Int) := by
      have := (List.getElem?_eq_some_iff.1 HDJ.out).1
      omega
    have HAT : Hid (∃ b o va cva, a = some ⟨b, o, none⟩ ∧ ∀ W, Below w3.heap.size w3 W → W.cell? ⟨b, o + j * 2, none⟩ = some (.int .i64 d.next) ∧ W.cell? ⟨b, o + j * 2 + 1, none⟩ = some (.slice va d.nodes.length cva)) := Lib.hid (by
      obtain ⟨b, o, ha, hda⟩ := (HFW.out w3 (Below.refl _ _)).dev HDJ.out
      obtain ⟨h0, va, cva, h1, -⟩ := hda
      exact ⟨b, o, va, cva, ha, fun W hb => ⟨cell_stays h0 hb, cell_stays h1 hb⟩⟩)
    have HPRE := Lib.hid (HOK.out.dev HD.out).pre
    rw [c1] at CP
    clear hR c1 hO
    obtain ⟨xd, xi⟩ := x
    obtain rfl : xd = (j : Int) := hxj
    generalize lookF F ⟨(j : Int), xi⟩ s = r at *
    obtain ⟨⟨ad, ai⟩, ae⟩ := r
    generalize fullF F ⟨(j : Int), xi⟩ = fl at *
    generalize plainB n = pb at *
    go_enter Try.func26, Try.ntmps26
    go_wp2_with fail
    rw [← HW.out]
    go_wp2_with fail
    refine (CP.out w3 (Below.refl _ _)).mono ?_
    rintro e w4 ⟨rfl, hb4⟩
    clear x0 x1 x2 CP
    obtain ⟨⟨y0, y1, y2, y3, y4, y5, y6, y7⟩, -⟩ := (KEEP.out.2.2.1.stay hb4).blk.c8
    go_wp2_with fail
    refine (CPl.out w4).mono ?_
    rintro e w5 ⟨rfl, hb5'⟩
    have hb5 : Below w3.heap.size w3 w5 := hb4.trans (hb5'.mono hb4.size)
    clear y0 y1 y2 y3 y4 y5 y6 y7 CPl hb4 hb5'
    cases pb with
    | false =>
      have uG := KEEP.out.2.2.2.stay hb5
      obtain ⟨g0, gf⟩ := uG.blk.c1
      have n0 := (TB.blk (cs := [.slice none 0 0]) (uG.set 0 (.slice none 0 0))).c1.1
      have HFN : Hid (EditR w.heap.size R w (.returned (.tuple #[.agg #[.slice none 0 0], .slice none 0 0, .int .i64 22])) ((w5).setCell ⟨w.heap.size + 1 + 1 + 1, 0, none⟩ (.slice none 0 0))) := Lib.hid (by rw [show R = errR 22 from HR.out.trans (if_pos rfl)]; exact ERR.out 22 _ hb5)
      clear uG CL CF
      go_wp2_with fail
      exact bodyPost_ret (v := .tuple #[.agg #[.slice none 0 0], .slice none 0 0, .int .i64 22]) (by simp [results, Try.f26, go_sem, n0]) rfl HFN.out
    | true =>
      have HR1 := Lib.hid (HR.out.trans (if_neg (by decide)))
      clear HR
      obtain ⟨x0, -⟩ := (KEEP.out.1.stay hb5).blk.c1
      obtain ⟨x1, x2, -⟩ := (KEEP.out.2.1.stay hb5).blk.c2
      go_wp2_with fail
      refine (CL.out w5 hb5).mono ?_
      rintro e w65 ⟨h5, hb65'⟩
      obtain rfl : e = .returned (.tuple #[.agg #[.int .i64 ad, .int .i64 ai], .int .i64 ae]) := h5
      have hb65 : Below w3.heap.size w3 w65 := hb5.trans (hb65'.mono hb5.size)
      have hb66 := hb65.alloc hb65.size (.cells #[.int .i64 ad, .int .i64 ai] 36)
      clear x0 x1 x2 hb65 hb65' hb5 CL
      by_cases c2 : ae = 0
      · subst c2
        have uG := KEEP.out.2.2.2.stay hb66
        obtain ⟨g0, gf⟩ := uG.blk.c1
        have n0 := (TB.blk (cs := [.slice none 0 0]) (uG.set 0 (.slice none 0 0))).c1.1
        have HFN : Hid (EditR w.heap.size R w (.returned (.tuple #[.agg #[.slice none 0 0], .slice none 0 0, .int .i64 17])) ((w65.alloc (.cells #[.int .i64 ad, .int .i64 ai] 36)).setCell ⟨w.heap.size + 1 + 1 + 1, 0, none⟩ (.slice none 0 0))) := Lib.hid (by rw [show R = errR 17 from HR1.out.trans (if_pos rfl)]; exact ERR.out 17 _ hb66)
        clear uG
        go_wp2_with fail
        exact bodyPost_ret (v := .tuple #[.agg #[.slice none 0 0], .slice none 0 0, .int .i64 17]) (by simp [results, Try.f26, go_sem, n0]) rfl HFN.out
      · have e3 : (ae == 0) = false := by simpa using c2
        have HR3 := Lib.hid (HR1.out.trans (if_neg c2))
        clear HR1 c2
        obtain ⟨w66, hw66⟩ : ∃ w66, w66 = w65.alloc (.cells #[.int .i64 ad, .int .i64 ai] 36) := ⟨_, rfl⟩
        rw [← hw66] at hb66
        have HW66 := Lib.hid hw66
        clear hw66
        obtain ⟨x0, -⟩ := (KEEP.out.1.stay hb66).blk.c1
        obtain ⟨x1, x2, -⟩ := (KEEP.out.2.1.stay hb66).blk.c2
        obtain ⟨b, o, va, cva, rfl, hcel⟩ := HAT.out
        have HCEL := Lib.hid hcel
        obtain ⟨z0, z1⟩ := hcel w66 hb66
        clear hcel HAT
        go_upto_region 9 with fail
        rw [← HW66.out]
        have hb67 := hb66.alloc hb66.size (.cells #[.int .i64 d.next, .slice va d.nodes.length cva] 72)
        obtain ⟨w67, hw67⟩ : ∃ w67, w67 = w66.alloc (.cells #[.int .i64 d.next, .slice va d.nodes.length cva] 72) := ⟨_, rfl⟩
        have tV : TB 72 w67 w66.heap.size [.int .i64 d.next, .slice va d.nodes.length cva] := by rw [hw67]; exact TB.new1 w66 [.int .i64 d.next, .slice va d.nodes.length cva] _ _ rfl
        rw [← hw67] at hb67
        have HW67 := Lib.hid hw67
        have hs66 := hb66.size
        clear hw67
        go_upto_region 10 with fail
        rw [← HW67.out]
        clear x0 x1 x2 z0 z1 HW66 HW67 hb66
        obtain ⟨x0, -⟩ := (KEEP.out.1.stay hb67).blk.c1
        obtain ⟨x1, x2, -⟩ := (KEEP.out.2.1.stay hb67).blk.c2
        obtain ⟨v0, v1, -⟩ := tV.blk.c2
        have hfew := HPRE.out.few
        by_cases h16 : 16 ≤ d.nodes.length
        · have e1 : (d.nodes.length : Int) ≥ 16 := by omega
          have e1' : decide ((d.nodes.length : Int) ≥ 16) = true := decide_eq_true e1
          have HR4 := Lib.hid (HR3.out.trans (if_pos (.inl h16)))
          clear h16 HR3
          have uG := KEEP.out.2.2.2.stay hb67
          obtain ⟨g0, gf⟩ := uG.blk.c1
          have n0 := (TB.blk (cs := [.slice none 0 0]) (uG.set 0 (.slice none 0 0))).c1.1
          have HFN : Hid (EditR w.heap.size R w (.returned (.tuple #[.agg #[.slice none 0 0], .slice none 0 0, .int .i64 28])) ((w67).setCell ⟨w.heap.size + 1 + 1 + 1, 0, none⟩ (.slice none 0 0))) := Lib.hid (by rw [show R = errR 28 from HR4.out]; exact ERR.out 28 _ hb67)
          clear uG
          go_wp2_with fail
          exact bodyPost_ret (v := .tuple #[.agg #[.slice none 0 0], .slice none 0 0, .int .i64 28]) (by simp [results, Try.f26, go_sem, n0]) rfl HFN.out
        · have e1 : ¬ (d.nodes.length : Int) ≥ 16 := by omega
          have e1' : decide ((d.nodes.length : Int) ≥ 16) = false := decide_eq_false e1
          by_cases hnx : d.next = 1073741824
          · have e2 : (d.next == 1073741824) = true := by simpa using hnx
            have HR4 := Lib.hid (HR3.out.trans (if_pos (.inr (.inl hnx))))
            clear h16 hnx HR3
            have uG := KEEP.out.2.2.2.stay hb67
            obtain ⟨g0, gf⟩ := uG.blk.c1
            have n0 := (TB.blk (cs := [.slice none 0 0]) (uG.set 0 (.slice none 0 0))).c1.1
            have HFN : Hid (EditR w.heap.size R w (.returned (.tuple #[.agg #[.slice none 0 0], .slice none 0 0, .int .i64 28])) ((w67).setCell ⟨w.heap.size + 1 + 1 + 1, 0, none⟩ (.slice none 0 0))) := Lib.hid (by rw [show R = errR 28 from HR4.out]; exact ERR.out 28 _ hb67)
            clear uG
            go_wp2_with fail
            exact bodyPost_ret (v := .tuple #[.agg #[.slice none 0 0], .slice none 0 0, .int .i64 28]) (by simp [results, Try.f26, go_sem, n0]) rfl HFN.out
          · have e2 : (d.next == 1073741824) = false := by simpa using hnx
            go_wp2_with fail
            refine (CF.out w67 hb67).mono ?_
            rintro e w7 ⟨rfl, hb7'⟩
            have hb7 : Below w3.heap.size w3 w7 := hb67.trans (hb7'.mono hb67.size)
            replace tV := tV.stay hb7'
            clear x0 x1 x2 v0 v1 hb67 hb7' CF
            cases fl with
            | true =>
              have HR4 := Lib.hid (HR3.out.trans (if_pos (.inr (.inr rfl))))
              clear h16 hnx HR3
              have uG := KEEP.out.2.2.2.stay hb7
              obtain ⟨g0, gf⟩ := uG.blk.c1
              have n0 := (TB.blk (cs := [.slice none 0 0]) (uG.set 0 (.slice none 0 0))).c1.1
              have HFN : Hid (EditR w.heap.size R w (.returned (.tuple #[.agg #[.slice none 0 0], .slice none 0 0, .int .i64 28])) ((w7).setCell ⟨w.heap.size + 1 + 1 + 1, 0, none⟩ (.slice none 0 0))) := Lib.hid (by rw [show R = errR 28 from HR4.out]; exact ERR.out 28 _ hb7)
              clear uG
              go_wp2_with fail
              exact bodyPost_ret (v := .tuple #[.agg #[.slice none 0 0], .slice none 0 0, .int .i64 28]) (by simp [results, Try.f26, go_sem, n0]) rfl HFN.out
            | false =>
              have HR4 := Lib.hid (HR3.out.trans (if_neg (fun h => by rcases h with h | h | h; exact h16 h; exact hnx h; cases h)))
              clear HR3 hnx
              have CC := Lib.hid (rCopy_any (some ⟨b, o, none⟩) cap F w7 (HFW.out w7 hb7) HOK.out.sml)
              obtain ⟨x0, -⟩ := (KEEP.out.1.stay hb7).blk.c1
              go_wp2_with fail
              refine CC.out.mono ?_
              rintro e w8 ⟨v, rfl, ho8, hb8'⟩
              obtain ⟨vn, ev, hf8⟩ := ho8
              obtain ⟨gd, fc, rfl, -, -⟩ := hf8.gD HDJ.out
              have hb8 : Below w3.heap.size w3 w8 := hb7.trans (hb8'.mono hb7.size)
              have hs8 := hb8.size
              have hb9 := hb8.alloc hb8.size (.cells #[.slice (some ⟨gd, 0, none⟩) F.length fc] 24)
              have hbx : Below w8.heap.size w8 (w8.alloc (.cells #[.slice (some ⟨gd, 0, none⟩) F.length fc] 24)) := (Below.refl w8.heap.size w8).alloc (Nat.le_refl _) _
              have tO := TB.new1 w8 [.slice (some ⟨gd, 0, none⟩) F.length fc] 24 w8.heap.size rfl
              have hf9 := hf8.stay hbx
              have tV9 := (tV.stay hb8').stay hbx
              have hs9 : w7.heap.size ≤ (w8.alloc (.cells #[.slice (some ⟨gd, 0, none⟩) F.length fc] 24)).heap.size := by rw [size_alloc]; have := hb8'.size; omega
              obtain ⟨w9, hw9⟩ : ∃ w9, w9 = w8.alloc (.cells #[.slice (some ⟨gd, 0, none⟩) F.length fc] 24) := ⟨_, rfl⟩
              replace tO : TB 24 w9 w8.heap.size [.slice (some ⟨gd, 0, none⟩) F.length fc] := by rw [hw9]; exact tO
              rw [← hw9] at hb9 hf9 tV9 hs9
              have HW9 := Lib.hid hw9
              clear hw9 x0 CC hf8 hb8' hb8 hbx tV
              have tY9 := KEEP.out.2.2.1.stay hb9
              obtain ⟨v0, v1, -⟩ := tV9.blk.c2
              obtain ⟨⟨y0, y1, y2, y3, y4, y5, y6, y7⟩, -⟩ := tY9.blk.c8
              go_upto_region 13 with fail
              rw [← HW9.out]
              obtain ⟨w10, hw10⟩ : ∃ w10, w10 = w9.alloc (.cells #[.int .i64 d.next, .int .i64 n.kind, .int .i64 n.mode, .int .i64 n.uid, .int .i64 n.gid, .int .i64 0, .string n.target, .slice none 0 0] 43) := ⟨_, rfl⟩
              have hb910 : Below w9.heap.size w9 w10 := by rw [hw10]; exact (Below.refl _ _).alloc (Nat.le_refl _) _
              have tM10 : TB 43 w10 w9.heap.size [.int .i64 d.next, .int .i64 n.kind, .int .i64 n.mode, .int .i64 n.uid, .int .i64 n.gid, .int .i64 0, .string n.target, .slice none 0 0] := by rw [hw10]; exact TB.new1 w9 [.int .i64 d.next, .int .i64 n.kind, .int .i64 n.mode, .int .i64 n.uid, .int .i64 n.gid, .int .i64 0, .string n.target, .slice none 0 0] _ _ rfl
              have HW10 := Lib.hid hw10
              clear hw10
              go_upto_region 14 with fail
              rw [← HW10.out]
              clear v0 v1 y0 y1 y2 y3 y4 y5 y6 y7 HW9 HW10 tV9
              have hb10 : Below w3.heap.size w3 w10 := hb9.trans (hb910.mono hb9.size)
              have y1 := (tY9.stay hb910).blk.c8.1.2.1
              have x2 := (KEEP.out.2.1.stay hb10).blk.c2.2.1
              obtain ⟨⟨-, -, -, -, -, m5, -⟩, -, -, -, -, -, mf5, -⟩ := tM10.blk.c8
              obtain ⟨mN, hmN⟩ : ∃ m, m = newN d xi n := ⟨_, rfl⟩
              have K10 : Hid (FilesO w7.heap.size w10 (.slice (some ⟨gd, 0, none⟩) F.length fc) F vn ev ∧ TB 24 w10 w8.heap.size [.slice (some ⟨gd, 0, none⟩) F.length fc]) := Lib.hid ⟨hf9.stay hb910, tO.stay hb910⟩
              have HF9 := Lib.hid hf9
              have hgl : ∀ i g, (vn i).ownBlock = some g → g < w9.heap.size := fun i g h => hf9.ltN i g h
              have HGL := Lib.hid hgl
              have HGD : Hid (gd < w9.heap.size) := Lib.hid (own_lt hf9.row rfl).2
              have HGD7 : Hid (w7.heap.size ≤ gd) := Lib.hid (own_lt hf9.row rfl).1
              have HGD8 : Hid (gd ≠ w8.heap.size) := Lib.hid (fun e => tO.ne hf9.row (by decide) (e ▸ rfl))
              have h39 : w3.heap.size ≤ w9.heap.size := hb9.size
              have h3k : w.heap.size + 1 + 1 + 1 < w3.heap.size := KEEP.out.2.2.2.lt
              have h89 : w8.heap.size < w9.heap.size := tO.lt
              have hne9 : w9.heap.size < w10.heap.size := tM10.lt
              clear tY9 tO hf9 hb9 hb910 hgl
              go_upto_if 80 with fail
              go_cut [] (fun W => FilesO w7.heap.size W (.slice (some ⟨gd, 0, none⟩) F.length fc) F vn ev ∧ TB 24 W w8.heap.size [.slice (some ⟨gd, 0, none⟩) F.length fc] ∧ TB 43 W w9.heap.size (ncs mN (.slice none 0 0)) ∧ Below w3.heap.size w3 W)
              case first =>
                by_cases hk2 : n.kind = 2
                · have e3 : (n.kind == 2) = true := by simpa using hk2
                  have KF : Hid (FilesO w7.heap.size (w10.setCell ⟨w9.heap.size, 5, none⟩ (.int .i64 xi)) (.slice (some ⟨gd, 0, none⟩) F.length fc) F vn ev ∧ TB 24 (w10.setCell ⟨w9.heap.size, 5, none⟩ (.int .i64 xi)) w8.heap.size [.slice (some ⟨gd, 0, none⟩) F.length fc] ∧ TB 43 (w10.setCell ⟨w9.heap.size, 5, none⟩ (.int .i64 xi)) w9.heap.size (ncs mN (.slice none 0 0)) ∧ Below w3.heap.size w3 (w10.setCell ⟨w9.heap.size, 5, none⟩ (.int .i64 xi))) := Lib.hid (by
                    refine ⟨HF9.out.setFar K10.out.1 (Nat.le_refl _) 5 _, K10.out.2.other (by omega) _ _, ?_, below_set hb10 h39 _ _⟩
                    rw [hmN]
                    unfold newN
                    rw [if_pos hk2]
                    exact tM10.set 5 (.int .i64 xi))
                  clear hk2 hmN tM10 K10 HF9 HGL HGD HGD7 HGD8 hb10
                  go_wp2_with fail
                  go_meet
                  exact KF.out
                · have e3 : (n.kind == 2) = false := by simpa using hk2
                  have KF : Hid (FilesO w7.heap.size w10 (.slice (some ⟨gd, 0, none⟩) F.length fc) F vn ev ∧ TB 24 w10 w8.heap.size [.slice (some ⟨gd, 0, none⟩) F.length fc] ∧ TB 43 w10 w9.heap.size (ncs mN (.slice none 0 0)) ∧ Below w3.heap.size w3 w10) := Lib.hid (by
                    refine ⟨K10.out.1, K10.out.2, ?_, hb10⟩
                    rw [hmN]
                    unfold newN
                    rw [if_neg hk2]
                    exact tM10)
                  clear hk2 hmN tM10 K10 HF9 HGL HGD HGD7 HGD8 hb10
                  go_wp2_with fail
                  go_meet
                  exact KF.out
              case rest =>
                have HMN := Lib.hid hmN
                clear y1 x2 m5 mf5 tM10 K10 HF9 hb10 hmN
                rename World => w11
                obtain ⟨hf11, tO, tM, hb11⟩ := hcut
                obtain ⟨j', k, d', hj', hd', hi, hk⟩ := node_where HPN.out
                obtain rfl : j = j' := by
                  have : (j : Int) = (j' : Int) := hj'
                  omega
                obtain rfl : d = d' := by
                  have := HDJ.out
                  rw [this] at hd'
                  injection hd'
                obtain ⟨gn, cn, hgv, hgn, -, -⟩ := hf11.gN HDJ.out hk
                obtain ⟨i0, hi0, hz0, hz1, hz2⟩ := info_parts infoN
                have hB11 : w7.heap.size ≤ w11.heap.size := by have := tM.lt; omega
                have HROW : Hid (w11.ownsRow w7.heap.size 43 8 (.slice (some ⟨gn, 0, none⟩) d.nodes.length cn) d.nodes.length (nrow (ev j) 0 d.nodes)) := Lib.hid (by have := hf11.nodes j d HDJ.out; rw [hgv] at this; exact this)
                have HGV := Lib.hid hgv
                have hb12 : Below w11.heap.size w11 (w11.alloc (.cells #[.int .i64 mN.ino, .int .i64 mN.kind, .int .i64 mN.mode, .int .i64 mN.uid, .int .i64 mN.gid, .int .i64 mN.parent, .string mN.target, .slice none 0 0] 43)).drew := ((Below.refl _ _).alloc (Nat.le_refl _) _).drew
                have hb12a : Below w11.heap.size w11 (w11.alloc (.cells #[.int .i64 mN.ino, .int .i64 mN.kind, .int .i64 mN.mode, .int .i64 mN.uid, .int .i64 mN.gid, .int .i64 mN.parent, .string mN.target, .slice none 0 0] 43)) := (Below.refl _ _).alloc (Nat.le_refl _) _
                have F12 := Lib.hid (hf11.stay hb12)
                have T12 := Lib.hid (And.intro (tM.stay hb12) (And.intro (tO.stay hb12) (And.intro ((KEEP.out.2.1.stay hb11).stay hb12) ((KEEP.out.2.2.2.stay hb11).stay hb12))))
                have HNW := Lib.hid (World.news_of_block (w := (w11.alloc (.cells #[.int .i64 mN.ino, .int .i64 mN.kind, .int .i64 mN.mode, .int .i64 mN.uid, .int .i64 mN.gid, .int .i64 mN.parent, .string mN.target, .slice none 0 0] 43)).drew) (cs := #[.int .i64 mN.ino, .int .i64 mN.kind, .int .i64 mN.mode, .int .i64 mN.uid, .int .i64 mN.gid, .int .i64 mN.parent, .string mN.target, .slice none 0 0]) (t := 43) (fr := (0, 0)) (heap_alloc_new w11 _))
                have H5 : Hid (∀ u ∈ ncs mN (.slice none 0 0), u.oneCell' = true) := Lib.hid (by simp [Value.oneCell', ncs])
                have H6 : Hid (d.nodes.length + 1 ≤ maxLen) := Lib.hid (by unfold maxLen; omega)
                have H7 : Hid ((d.nodes.length + 1) * 88 ≤ 140737488355328) := Lib.hid (by omega)
                have H8 : Hid (w7.heap.size ≤ (w11.alloc (.cells #[.int .i64 mN.ino, .int .i64 mN.kind, .int .i64 mN.mode, .int .i64 mN.uid, .int .i64 mN.gid, .int .i64 mN.parent, .string mN.target, .slice none 0 0] 43)).drew.heap.size) := Lib.hid (by show w7.heap.size ≤ (w11.alloc _).heap.size; rw [size_alloc]; omega)
                have HFZ : Hid (∀ wA, ((w11.alloc (.cells #[.int .i64 mN.ino, .int .i64 mN.kind, .int .i64 mN.mode, .int .i64 mN.uid, .int .i64 mN.gid, .int .i64 mN.parent, .string mN.target, .slice none 0 0] 43)).drew).grownBy wA (Value.slice (some ⟨gn, 0, none⟩) d.nodes.length cn).ownBlock → (wA.cell? ⟨w8.heap.size, 0, none⟩ = some (.slice (some ⟨gd, 0, none⟩) F.length fc) ∧ wA.cell? ⟨w.heap.size + 1, 0, none⟩ = some (.int .i64 (j : Int)) ∧ wA.cell? ⟨w9.heap.size, 0, none⟩ = some (.int .i64 mN.ino) ∧ wA.cell? ⟨w9.heap.size, 1, none⟩ = some (.int .i64 mN.kind) ∧ wA.cell? ⟨w9.heap.size, 2, none⟩ = some (.int .i64 mN.mode) ∧ wA.cell? ⟨w9.heap.size, 3, none⟩ = some (.int .i64 mN.uid) ∧ wA.cell? ⟨w9.heap.size, 4, none⟩ = some (.int .i64 mN.gid) ∧ wA.cell? ⟨w9.heap.size, 5, none⟩ = some (.int .i64 mN.parent) ∧ wA.cell? ⟨w9.heap.size, 6, none⟩ = some (.string mN.target) ∧ wA.cell? ⟨w9.heap.size, 7, none⟩ = some (.slice none 0 0)) ∧ wA.cell? ⟨gd, j * 2 + 1, none⟩ = some (.slice (some ⟨gn, 0, none⟩) d.nodes.length cn) ∧ wA.cell? ⟨gd, j * 2, none⟩ = some (.int .i64 d.next) ∧ wA.frozen? ⟨gd, j * 2 + 1, none⟩ = false ∧ wA.frozen? ⟨gd, j * 2, none⟩ = false) := Lib.hid (fun wA hg => by
                  have hN := F12.out.nodes j d HDJ.out
                  rw [← HGV.out] at hg
                  have kd : wA.ownsRow w7.heap.size 72 2 (.slice (some ⟨gd, 0, none⟩) F.length fc) F.length (drow vn 0 F) := own_keep F12.out.row fun g' hg' => hg.block g' (own_lt F12.out.row hg').2 (fun e => own_types F12.out.row hN (by decide) hg' (by exact e.symm))
                  have hjl' : j < F.length := (List.getElem?_eq_some_iff.1 HDJ.out).1
                  have tMA := T12.out.1.keep (w' := wA) (hg.block _ T12.out.1.lt (fun e => by have := HGL.out j _ e.symm; omega))
                  obtain ⟨⟨k0, k1, k2, k3, k4, k5, k6, k7⟩, -⟩ := tMA.blk.c8
                  refine ⟨⟨(T12.out.2.1.grown hN (by decide) hg).blk.c1.1, (T12.out.2.2.1.grown hN (by decide) hg).blk.c2.1, k0, k1, k2, k3, k4, k5, k6, k7⟩, ?_, ?_, kd.frozenAt _, kd.frozenAt _⟩
                  · rw [own_cell kd rfl (by omega), drow_at vn 0 F j d HDJ.out 1 (by omega), Nat.zero_add]
                    show some (vn j) = _
                    rw [HGV.out]
                  · have := own_cell kd rfl (j := j * 2 + 0) (by omega)
                    rw [drow_at vn 0 F j d HDJ.out 0 (by omega)] at this
                    exact this)
                have hgd8 : gd ≠ w8.heap.size := HGD8.out
                have hgd1 : gd ≠ w.heap.size + 1 := by have := HGD7.out; have := hb7.size; omega
                have HS : Hid (∀ (W : World) (v : Value), (W.cell? ⟨w8.heap.size, 0, none⟩ = some (.slice (some ⟨gd, 0, none⟩) F.length fc) ∧ W.cell? ⟨w.heap.size + 1, 0, none⟩ = some (.int .i64 (j : Int)) ∧ W.cell? ⟨w9.heap.size, 0, none⟩ = some (.int .i64 mN.ino) ∧ W.cell? ⟨w9.heap.size, 1, none⟩ = some (.int .i64 mN.kind) ∧ W.cell? ⟨w9.heap.size, 2, none⟩ = some (.int .i64 mN.mode) ∧ W.cell? ⟨w9.heap.size, 3, none⟩ = some (.int .i64 mN.uid) ∧ W.cell? ⟨w9.heap.size, 4, none⟩ = some (.int .i64 mN.gid) ∧ W.cell? ⟨w9.heap.size, 5, none⟩ = some (.int .i64 mN.parent) ∧ W.cell? ⟨w9.heap.size, 6, none⟩ = some (.string mN.target) ∧ W.cell? ⟨w9.heap.size, 7, none⟩ = some (.slice none 0 0)) → ((W.setCell ⟨gd, j * 2 + 1, none⟩ v).cell? ⟨w8.heap.size, 0, none⟩ = some (.slice (some ⟨gd, 0, none⟩) F.length fc) ∧ (W.setCell ⟨gd, j * 2 + 1, none⟩ v).cell? ⟨w.heap.size + 1, 0, none⟩ = some (.int .i64 (j : Int)) ∧ (W.setCell ⟨gd, j * 2 + 1, none⟩ v).cell? ⟨w9.heap.size, 0, none⟩ = some (.int .i64 mN.ino) ∧ (W.setCell ⟨gd, j * 2 + 1, none⟩ v).cell? ⟨w9.heap.size, 1, none⟩ = some (.int .i64 mN.kind) ∧ (W.setCell ⟨gd, j * 2 + 1, none⟩ v).cell? ⟨w9.heap.size, 2, none⟩ = some (.int .i64 mN.mode) ∧ (W.setCell ⟨gd, j * 2 + 1, none⟩ v).cell? ⟨w9.heap.size, 3, none⟩ = some (.int .i64 mN.uid) ∧ (W.setCell ⟨gd, j * 2 + 1, none⟩ v).cell? ⟨w9.heap.size, 4, none⟩ = some (.int .i64 mN.gid) ∧ (W.setCell ⟨gd, j * 2 + 1, none⟩ v).cell? ⟨w9.heap.size, 5, none⟩ = some (.int .i64 mN.parent) ∧ (W.setCell ⟨gd, j * 2 + 1, none⟩ v).cell? ⟨w9.heap.size, 6, none⟩ = some (.string mN.target) ∧ (W.setCell ⟨gd, j * 2 + 1, none⟩ v).cell? ⟨w9.heap.size, 7, none⟩ = some (.slice none 0 0))) := Lib.hid (fun W v h => by
                  have hk : ∀ g, g ≠ gd → (W.setCell ⟨gd, j * 2 + 1, none⟩ v).heap[g]? = W.heap[g]? := fun g hg => Below.heap_setCell W ⟨gd, j * 2 + 1, none⟩ v g hg
                  have hc : ∀ g c, g ≠ gd → (W.setCell ⟨gd, j * 2 + 1, none⟩ v).cell? ⟨g, c, none⟩ = W.cell? ⟨g, c, none⟩ := fun g c hg => World.cell?_of_block (a := ⟨g, c, none⟩) (hk g hg)
                  have h9 : w9.heap.size ≠ gd := by have := HGD.out; omega
                  obtain ⟨a0, a1, a2, a3, a4, a5, a6, a7, a8, a9⟩ := h
                  exact ⟨(hc _ 0 hgd8.symm).trans a0, (hc _ 0 hgd1.symm).trans a1, (hc _ 0 h9).trans a2, (hc _ 1 h9).trans a3, (hc _ 2 h9).trans a4, (hc _ 3 h9).trans a5, (hc _ 4 h9).trans a6, (hc _ 5 h9).trans a7, (hc _ 6 h9).trans a8, (hc _ 7 h9).trans a9⟩)
                obtain ⟨o0, -⟩ := tO.blk.c1
                have x1 : w11.cell? ⟨w.heap.size + 1, 0, none⟩ = some (.int .i64 (j : Int)) := (KEEP.out.2.1.stay hb11).blk.c2.1
                have z1 : w11.cell? ⟨gd, j * 2 + 1, none⟩ = some (.slice (some ⟨gn, 0, none⟩) d.nodes.length cn) := by rw [← hgv]; exact hf11.cellY HDJ.out rfl
                obtain ⟨⟨m0, m1, m2, m3, m4, m5, m6, m7⟩, -⟩ := tM.blk.c8
                have o0' := cell_stays o0 hb12a
                have x1' := cell_stays x1 hb12a
                have z1' := cell_stays z1 hb12a
                have m0' := cell_stays m0 hb12a
                have m1' := cell_stays m1 hb12a
                have m2' := cell_stays m2 hb12a
                have m3' := cell_stays m3 hb12a
                have m4' := cell_stays m4 hb12a
                have m5' := cell_stays m5 hb12a
                have m6' := cell_stays m6 hb12a
                have m7' := cell_stays m7 hb12a
                have HGN := Lib.hid (fun i g (h : (vn i).ownBlock = some g) => (show g < w9.heap.size from HGL.out i g h))
                have hlM : w9.heap.size < (w11.alloc (.cells #[.int .i64 mN.ino, .int .i64 mN.kind, .int .i64 mN.mode, .int .i64 mN.uid, .int .i64 mN.gid, .int .i64 mN.parent, .string mN.target, .slice none 0 0] 43)).drew.heap.size := T12.out.1.lt
                have hgdl : gd < w9.heap.size := HGD.out
                have HB12 := Lib.hid (hb11.trans (hb12.mono hb11.size))
                have h12z : w9.heap.size < w11.heap.size := tM.lt
                clear hj' hd' hi hk hf11 tO tM hb12 hgv
                go_upto_region 16 with fail
                have K4 : w11.drew.cell? ⟨w8.heap.size, 0, none⟩ = some (.slice (some ⟨gd, 0, none⟩) F.length fc) ∧ w11.drew.cell? ⟨w.heap.size + 1, 0, none⟩ = some (.int .i64 (j : Int)) ∧ w11.drew.cell? ⟨w9.heap.size, 0, none⟩ = some (.int .i64 mN.ino) ∧ w11.drew.cell? ⟨w9.heap.size, 1, none⟩ = some (.int .i64 mN.kind) ∧ w11.drew.cell? ⟨w9.heap.size, 2, none⟩ = some (.int .i64 mN.mode) ∧ w11.drew.cell? ⟨w9.heap.size, 3, none⟩ = some (.int .i64 mN.uid) ∧ w11.drew.cell? ⟨w9.heap.size, 4, none⟩ = some (.int .i64 mN.gid) ∧ w11.drew.cell? ⟨w9.heap.size, 5, none⟩ = some (.int .i64 mN.parent) ∧ w11.drew.cell? ⟨w9.heap.size, 6, none⟩ = some (.string mN.target) ∧ w11.drew.cell? ⟨w9.heap.size, 7, none⟩ = some (.slice none 0 0) := ⟨o0, x1, m0, m1, m2, m3, m4, m5, m6, m7⟩
                have K4' : (w11.alloc (.cells #[.int .i64 mN.ino, .int .i64 mN.kind, .int .i64 mN.mode, .int .i64 mN.uid, .int .i64 mN.gid, .int .i64 mN.parent, .string mN.target, .slice none 0 0] 43)).drew.cell? ⟨w8.heap.size, 0, none⟩ = some (.slice (some ⟨gd, 0, none⟩) F.length fc) ∧ (w11.alloc (.cells #[.int .i64 mN.ino, .int .i64 mN.kind, .int .i64 mN.mode, .int .i64 mN.uid, .int .i64 mN.gid, .int .i64 mN.parent, .string mN.target, .slice none 0 0] 43)).drew.cell? ⟨w.heap.size + 1, 0, none⟩ = some (.int .i64 (j : Int)) ∧ (w11.alloc (.cells #[.int .i64 mN.ino, .int .i64 mN.kind, .int .i64 mN.mode, .int .i64 mN.uid, .int .i64 mN.gid, .int .i64 mN.parent, .string mN.target, .slice none 0 0] 43)).drew.cell? ⟨w9.heap.size, 0, none⟩ = some (.int .i64 mN.ino) ∧ (w11.alloc (.cells #[.int .i64 mN.ino, .int .i64 mN.kind, .int .i64 mN.mode, .int .i64 mN.uid, .int .i64 mN.gid, .int .i64 mN.parent, .string mN.target, .slice none 0 0] 43)).drew.cell? ⟨w9.heap.size, 1, none⟩ = some (.int .i64 mN.kind) ∧ (w11.alloc (.cells #[.int .i64 mN.ino, .int .i64 mN.kind, .int .i64 mN.mode, .int .i64 mN.uid, .int .i64 mN.gid, .int .i64 mN.parent, .string mN.target, .slice none 0 0] 43)).drew.cell? ⟨w9.heap.size, 2, none⟩ = some (.int .i64 mN.mode) ∧ (w11.alloc (.cells #[.int .i64 mN.ino, .int .i64 mN.kind, .int .i64 mN.mode, .int .i64 mN.uid, .int .i64 mN.gid, .int .i64 mN.parent, .string mN.target, .slice none 0 0] 43)).drew.cell? ⟨w9.heap.size, 3, none⟩ = some (.int .i64 mN.uid) ∧ (w11.alloc (.cells #[.int .i64 mN.ino, .int .i64 mN.kind, .int .i64 mN.mode, .int .i64 mN.uid, .int .i64 mN.gid, .int .i64 mN.parent, .string mN.target, .slice none 0 0] 43)).drew.cell? ⟨w9.heap.size, 4, none⟩ = some (.int .i64 mN.gid) ∧ (w11.alloc (.cells #[.int .i64 mN.ino, .int .i64 mN.kind, .int .i64 mN.mode, .int .i64 mN.uid, .int .i64 mN.gid, .int .i64 mN.parent, .string mN.target, .slice none 0 0] 43)).drew.cell? ⟨w9.heap.size, 5, none⟩ = some (.int .i64 mN.parent) ∧ (w11.alloc (.cells #[.int .i64 mN.ino, .int .i64 mN.kind, .int .i64 mN.mode, .int .i64 mN.uid, .int .i64 mN.gid, .int .i64 mN.parent, .string mN.target, .slice none 0 0] 43)).drew.cell? ⟨w9.heap.size, 6, none⟩ = some (.string mN.target) ∧ (w11.alloc (.cells #[.int .i64 mN.ino, .int .i64 mN.kind, .int .i64 mN.mode, .int .i64 mN.uid, .int .i64 mN.gid, .int .i64 mN.parent, .string mN.target, .slice none 0 0] 43)).drew.cell? ⟨w9.heap.size, 7, none⟩ = some (.slice none 0 0) := ⟨o0', x1', m0', m1', m2', m3', m4', m5', m6', m7'⟩
                clear hb12a
                refine wp_region_held_drew (S := fun (W : World) => W.cell? ⟨w8.heap.size, 0, none⟩ = some (.slice (some ⟨gd, 0, none⟩) F.length fc) ∧ W.cell? ⟨w.heap.size + 1, 0, none⟩ = some (.int .i64 (j : Int)) ∧ W.cell? ⟨w9.heap.size, 0, none⟩ = some (.int .i64 mN.ino) ∧ W.cell? ⟨w9.heap.size, 1, none⟩ = some (.int .i64 mN.kind) ∧ W.cell? ⟨w9.heap.size, 2, none⟩ = some (.int .i64 mN.mode) ∧ W.cell? ⟨w9.heap.size, 3, none⟩ = some (.int .i64 mN.uid) ∧ W.cell? ⟨w9.heap.size, 4, none⟩ = some (.int .i64 mN.gid) ∧ W.cell? ⟨w9.heap.size, 5, none⟩ = some (.int .i64 mN.parent) ∧ W.cell? ⟨w9.heap.size, 6, none⟩ = some (.string mN.target) ∧ W.cell? ⟨w9.heap.size, 7, none⟩ = some (.slice none 0 0)) (by kernel_rfl) K4 (fun hHeld => ?_)
                refine wpAnyH_take (i := 0) (v := ?_) rfl (by kernel_rfl) (by kernel_rfl) (by kernel_rfl) (fun _ _ _ h => h) (Or.inl ⟨by rfl, ?_⟩) (by assumption) ?_
                rotate_left
                · (intro w hSw; (try dsimp only at hSw); first | (go_simp; done) | (go_simp; with_reducible rfl))
                try simp only [Act.put, List.setIfInBounds_toArray, List.set_cons_zero, List.set_cons_succ]
                refine wpAnyH_take (i := 1) (v := ?_) rfl (by kernel_rfl) (by kernel_rfl) (by kernel_rfl) (fun _ _ _ h => h) (Or.inl ⟨by rfl, ?_⟩) (by assumption) ?_
                rotate_left
                · (intro w hSw; (try dsimp only at hSw); first | (go_simp; done) | (go_simp; with_reducible rfl))
                try simp only [Act.put, List.setIfInBounds_toArray, List.set_cons_zero, List.set_cons_succ]
                refine wpAnyH_take (i := 2) (v := ?_) rfl (by kernel_rfl) (by kernel_rfl) (by kernel_rfl) (fun _ _ _ h => h) (Or.inl ⟨by rfl, ?_⟩) (by assumption) ?_
                rotate_left
                · (intro w hSw; (try dsimp only at hSw); first | (go_simp; done) | (go_simp; with_reducible rfl))
                try simp only [Act.put, List.setIfInBounds_toArray, List.set_cons_zero, List.set_cons_succ]
                refine wpAnyH_take (i := 3) (v := ?_) rfl (by kernel_rfl) (by kernel_rfl) (by kernel_rfl) (fun _ _ _ h => h) (Or.inl ⟨by rfl, ?_⟩) (by assumption) ?_
                rotate_left
                · (intro w hSw; (try dsimp only at hSw); first | (go_simp; done) | (go_simp; with_reducible rfl))
                try simp only [Act.put, List.setIfInBounds_toArray, List.set_cons_zero, List.set_cons_succ]
                refine wpAnyH_take (i := 4) (v := ?_) rfl (by kernel_rfl) (by kernel_rfl) (by kernel_rfl) (fun _ _ _ h => h) (Or.inl ⟨by rfl, ?_⟩) (by assumption) ?_
                rotate_left
                · (intro w hSw; (try dsimp only at hSw); first | (go_simp; done) | (go_simp; with_reducible rfl))
                try simp only [Act.put, List.setIfInBounds_toArray, List.set_cons_zero, List.set_cons_succ]
                refine wpAnyH_take (i := 5) (v := ?_) rfl (by kernel_rfl) (by kernel_rfl) (by kernel_rfl) (fun _ _ _ h => h) (Or.inl ⟨by rfl, ?_⟩) (by assumption) ?_
                rotate_left
                · (intro w hSw; (try dsimp only at hSw); first | (go_simp; done) | (go_simp; with_reducible rfl))
                try simp only [Act.put, List.setIfInBounds_toArray, List.set_cons_zero, List.set_cons_succ]
                refine wpAnyH_take (i := 6) (v := ?_) rfl (by kernel_rfl) (by kernel_rfl) (by kernel_rfl) (fun _ _ _ h => h) (Or.inl ⟨by rfl, ?_⟩) (by assumption) ?_
                rotate_left
                · (intro w hSw; (try dsimp only at hSw); first | (go_simp; done) | (go_simp; with_reducible rfl))
                try simp only [Act.put, List.setIfInBounds_toArray, List.set_cons_zero, List.set_cons_succ]
                refine wpAnyH_take (i := 7) (v := ?_) rfl (by kernel_rfl) (by kernel_rfl) (by kernel_rfl) (fun _ _ _ h => h) (Or.inl ⟨by rfl, ?_⟩) (by assumption) ?_
                rotate_left
                · (intro w hSw; (try dsimp only at hSw); first | (go_simp; done) | (go_simp; with_reducible rfl))
                try simp only [Act.put, List.setIfInBounds_toArray, List.set_cons_zero, List.set_cons_succ]
                refine wpAnyH_take (i := 8) (v := ?_) rfl (by kernel_rfl) (by kernel_rfl) (by kernel_rfl) (fun _ _ _ h => h) (Or.inl ⟨by rfl, ?_⟩) (by assumption) ?_
                rotate_left
                · (intro w hSw; (try dsimp only at hSw); first | (go_simp; done) | (go_simp; with_reducible rfl))
                try simp only [Act.put, List.setIfInBounds_toArray, List.set_cons_zero, List.set_cons_succ]
                refine wpAnyH_take (i := 9) (v := ?_) rfl (by kernel_rfl) (by kernel_rfl) (by kernel_rfl) (fun _ _ _ h => h) (Or.inl ⟨by rfl, ?_⟩) (by assumption) ?_
                rotate_left
                · (intro w hSw; (try dsimp only at hSw); first | (go_simp; done) | (go_simp; with_reducible rfl))
                try simp only [Act.put, List.setIfInBounds_toArray, List.set_cons_zero, List.set_cons_succ]
                refine wpAnyH_take (i := 11) (v := ?_) rfl (by kernel_rfl) (by kernel_rfl) (by kernel_rfl) (fun _ _ _ h => h) (Or.inl ⟨by rfl, ?_⟩) (by assumption) ?_
                rotate_left
                · (intro w hSw; (try dsimp only at hSw); first | (go_simp; done) | (go_simp; with_reducible rfl))
                try simp only [Act.put, List.setIfInBounds_toArray, List.set_cons_zero, List.set_cons_succ]
                refine wpAnyH_ready (rs := [10, 12]) (by kernel_rfl) (by simp) ?_
                refine AllReadyH.cons rfl (fun K hK => ?_) (AllReadyH.cons rfl (fun K hK => ?_) AllReadyH.nil)
                all_goals go_simp
                focus (
                  refine hK.out _ _ (by assumption) (fun _ => ?_)
                  clear hK K
                  refine wpAnyH_ready (rs := [12]) (by kernel_rfl) (by simp) ?_
                  refine AllReadyH.cons rfl (fun K hK => ?_) AllReadyH.nil
                  go_simp
                  refine hK.out _ _ K4' (fun _ => ?_)
                  clear hK K)
                rotate_left
                focus (
                  refine hK.out _ _ K4' (fun _ => ?_)
                  clear hK K
                  refine wpAnyH_ready (rs := [10]) (by kernel_rfl) (by simp) ?_
                  refine AllReadyH.cons rfl (fun K hK => ?_) AllReadyH.nil
                  go_simp
                  refine hK.out _ _ K4' (fun _ => ?_)
                  clear hK K)
                all_goals
                  refine wpAnyH_ready (rs := [13]) (by kernel_rfl) (by simp) ?_
                  refine AllReadyH.cons rfl (fun K hK => ?_) AllReadyH.nil
                  refine step_append_lies _ (by rfl) _ _ _ (by rfl) w7.heap.size 43 i0 _ 8 88 Try.underlying70 hi0 hz0 hz1 hz2 rfl (by omega) _ d.nodes.length _ (by rfl) ((HROW.out.alloc _).drew) ⟨w11.heap.size, 0, none⟩ 1 1 (ncs mN (.slice none 0 0)) (by rfl) (by rfl) HNW.out H5.out (by omega) H6.out H7.out H8.out (w11.heap.size + 1) (by simp) ?_
                  intro gg capA wA hownA hgrow hatA hltA
                  obtain ⟨K5, qE1, qE0, qf1, qf0⟩ := HFZ.out wA hgrow
                  have K6 := HS.out wA (.slice (some ⟨gg, 0, none⟩) (d.nodes.length + 1) capA) K5
                  refine hK.out _ _ K5 (fun _ => ?_)
                  clear hK K
                  refine wpAnyH_take (i := 14) (v := ?_) rfl (by kernel_rfl) (by kernel_rfl) (by kernel_rfl) (fun _ _ _ h => h) (Or.inl ⟨by rfl, ?_⟩) (by assumption) ?_
                  rotate_left
                  · (intro w hSw; (try dsimp only at hSw); first | (go_simp; done) | (go_simp; with_reducible rfl))
                  try simp only [Act.put, List.setIfInBounds_toArray, List.set_cons_zero, List.set_cons_succ]
                  refine wpAnyH_take (i := 15) (v := ?_) rfl (by kernel_rfl) (by kernel_rfl) (by kernel_rfl) (fun _ _ _ h => h) (Or.inl ⟨by rfl, ?_⟩) (by assumption) ?_
                  rotate_left
                  · (intro w hSw; (try dsimp only at hSw); first | (go_simp; done) | (go_simp; with_reducible rfl))
                  try simp only [Act.put, List.setIfInBounds_toArray, List.set_cons_zero, List.set_cons_succ]
                  refine wpAnyH_ready (rs := [16]) (by kernel_rfl) (by simp) ?_
                  refine AllReadyH.cons rfl (fun K hK => ?_) AllReadyH.nil
                  go_simp
                  refine hK.out _ _ K6 (fun _ => ?_)
                  clear hK K
                  refine wpAnyH_done (by kernel_rfl) ?_ _
                  go_simp
                all_goals
                  obtain ⟨wC, hwC⟩ : ∃ wC, wC = wA.setCell ⟨gd, j * 2 + 1, none⟩ (.slice (some ⟨gg, 0, none⟩) (d.nodes.length + 1) capA) := ⟨_, rfl⟩
                  have HVG : Hid ((vn j).ownBlock = some gn) := Lib.hid (by rw [HGV.out]; rfl)
                  have RES := OutF.add (fv := .slice (some ⟨gd, 0, none⟩) F.length fc) (v' := .slice (some ⟨gg, 0, none⟩) (d.nodes.length + 1) capA) (m := mN) F12.out HDJ.out rfl (by rw [HGV.out]; exact hgrow) hownA (by
                    rcases hatA with h | h
                    · left; rw [HGV.out, h]; rfl
                    · right; rw [h]; show some _ = some (w11.alloc _).heap.size; rw [size_alloc]) (by rw [HMN.out]; rfl) H8.out
                  have hblk : ∀ i, (updN vn j (.slice (some ⟨gg, 0, none⟩) (d.nodes.length + 1) capA) i).ownBlock ≠ some w9.heap.size := fun i e => by
                    unfold updN at e
                    split at e
                    · have e : gg = w9.heap.size := by injection e
                      rcases hatA with h | h
                      · have h : some gn = some gg := h
                        injection h with h
                        have := HGL.out j gn HVG.out
                        omega
                      · omega
                    · have := HGL.out i _ e
                      omega
                  have tMA := T12.out.1.keep (w' := wA) (hgrow.block _ hlM (fun e => by injection e with e; have e : w9.heap.size = gn := e; have := HGL.out j gn HVG.out; omega))
                  have h9gd : w9.heap.size ≠ gd := by omega
                  have e1 : F.set j ⟨d.next + 1, d.nodes ++ [mN]⟩ = mkF F ⟨(j : Int), xi⟩ n := by rw [HMN.out]; exact set_add (x := ⟨(j : Int), xi⟩) rfl HDJ.out n
                  rw [e1] at RES
                  obtain ⟨wB, hwB⟩ : ∃ wB, wB = wC.setCell ⟨gd, j * 2, none⟩ (.int .i64 (d.next + 1)) := ⟨_, rfl⟩
                  have tMB : TB 43 wB w9.heap.size (ncs mN (.slice none 0 0)) := by rw [hwB, hwC]; exact (tMA.other h9gd _ _).other h9gd _ _
                  obtain ⟨⟨ev', R1⟩, R4, R5⟩ := RES
                  change FilesO w7.heap.size ((wA.setCell ⟨gd, j * 2 + 1, none⟩ _).setCell ⟨gd, j * 2, none⟩ _) _ _ _ _ at R1
                  change Below w7.heap.size _ ((wA.setCell ⟨gd, j * 2 + 1, none⟩ _).setCell ⟨gd, j * 2, none⟩ _) at R4
                  change ∀ T D cs, T ≠ 43 → T ≠ 72 → TB T _ D cs → TB T ((wA.setCell ⟨gd, j * 2 + 1, none⟩ _).setCell ⟨gd, j * 2, none⟩ _) D cs at R5
                  rw [← hwC, ← hwB] at R1 R4 R5
                  have tOB := R5 _ _ _ (by decide) (by decide) T12.out.2.1
                  have tDB := R5 _ _ _ (by decide) (by decide) T12.out.2.2.1
                  have tGB := R5 _ _ _ (by decide) (by decide) T12.out.2.2.2
                  have hino : mN.ino = d.next := by rw [HMN.out]; rfl
                  have hlen := mkF_len F ⟨(j : Int), xi⟩ n
                  have hBB : w7.heap.size ≤ wB.heap.size := Nat.le_trans H8.out R4.size
                  have hb3B : Below w3.heap.size w3 wB := HB12.out.trans (R4.mono hb7.size)
                  have hnx2 : 2 ≤ d.next := HPRE.out.nxt.1
                  have hnx3 := HPRE.out.nxt.2
                  have CE : Hid (Calls Try.prog 52 #[.agg #[.slice (some ⟨gd, 0, none⟩) F.length fc], .agg #[.int .i64 (j : Int), .int .i64 xi], .string s, .int .i64 mN.ino] wB (fun e w' => GoR w7.heap.size wB (.slice (some ⟨gd, 0, none⟩) F.length fc) (pointF (mkF F ⟨(j : Int), xi⟩ n) ⟨(j : Int), xi⟩ s ⟨(j : Int), mN.ino⟩) e w' ∧ ∀ T D cs, (∀ i, ((updN vn j (.slice (some ⟨gg, 0, none⟩) (d.nodes.length + 1) capA)) i).ownBlock ≠ some D) → TB T wB D cs → TB T w' D cs)) := Lib.hid (by
                    have hA := AddF.of HOK.out ⟨(j : Int), xi⟩ n
                    have h1 := renter_G w7.heap.size (some ⟨gd, 0, none⟩) fc (mkF F ⟨(j : Int), xi⟩ n) ⟨(j : Int), xi⟩ s ⟨(j : Int), mN.ino⟩ wB _ ev' (by rw [hlen]; exact R1) hA.sml hA.asc hA.srt hA.low (mk_node HDJ.out HPN.out n) hBB ⟨fun e => by
                      have e : (⟨(j : Int), mN.ino⟩ : At) = ⟨0, 0⟩ := e
                      injection e with _ e
                      all_goals omega, fun e => by have e : mN.ino = 0 := e; omega⟩
                    rw [hlen] at h1
                    exact h1)
                  have HBLK := Lib.hid hblk
                  have HWB := Lib.hid hwB
                  have HWC := Lib.hid hwC
                  have HIN := Lib.hid hino
                  have rO : wC.cell? ⟨w8.heap.size, 0, none⟩ = some (.slice (some ⟨gd, 0, none⟩) F.length fc) := by rw [hwC]; exact K6.1
                  have rX : wC.cell? ⟨w.heap.size + 1, 0, none⟩ = some (.int .i64 (j : Int)) := by rw [hwC]; exact K6.2.1
                  have rE0 : wC.cell? ⟨gd, j * 2, none⟩ = some (.int .i64 d.next) := by rw [hwC]; simp [go_sem, qE0]
                  have rf0 : wC.frozen? ⟨gd, j * 2, none⟩ = false := by rw [hwC]; simp [go_sem, qf0]
                  clear hwB hwC hblk hino hlen R1 R4 R5 e1 tMA hownA hgrow hatA hltA K4 K4' K5 K6 qE1 qE0 qf1 qf0 m0 m1 m2 m3 m4 m5 m6 m7 m0' m1' m2' m3' m4' m5' m6' m7' o0 o0' x1 x1' z1 z1' HS HFZ HNW H5 H6 H7 H8 HROW
                  rw [← HWC.out]
                  go_upto_region 18 with fail
                  rw [← HWB.out]
                  clear rO rX rE0 rf0 HWB HWC
                  have o0 := tOB.blk.c1.1
                  obtain ⟨x1, x2, -⟩ := tDB.blk.c2
                  have m0 := tMB.blk.c8.1.1
                  go_wp2_with fail
                  refine CE.out.mono ?_
                  rintro e w13 ⟨⟨rfl, hb13', ho13, hk13⟩, hk13'⟩
                  have tM13 := hk13' _ _ _ HBLK.out tMB
                  have tD13 := hk13 _ _ _ (by decide) (by decide) tDB
                  have tG13 := hk13 _ _ _ (by decide) (by decide) tGB
                  have tO13 := hk13 _ _ _ (by decide) (by decide) tOB
                  have hb13 : Below w3.heap.size w3 w13 := hb3B.trans (hb13'.mono hb7.size)
                  have hs13 := hb13.size
                  clear o0 x1 x2 m0 tMB tDB tGB tOB hk13 hk13' hb13' hb3B hBB CE HBLK
                  have hbd : Below w13.heap.size w13 w13.drew := (Below.refl w13.heap.size w13).drew
                  have CO : Hid (∀ W, Calls Try.prog 53 #[.agg #[.int .i64 (j : Int), .int .i64 xi], .string s, .agg #[.int .i64 0, .int .i64 0], .agg #[.int .i64 (j : Int), .int .i64 mN.ino]] W fun e w' => ∃ v, e = .returned v ∧ OwnC W.heap.size w' v [⟨⟨(j : Int), xi⟩, s, zA, ⟨(j : Int), mN.ino⟩⟩] ∧ Below W.heap.size W w') := Lib.hid (fun W => rone_any ⟨(j : Int), xi⟩ s zA ⟨(j : Int), mN.ino⟩ W)
                  have HR5 : Hid (R = ⟨pointF (mkF F ⟨(j : Int), xi⟩ n) ⟨(j : Int), xi⟩ s ⟨(j : Int), mN.ino⟩, [⟨⟨(j : Int), xi⟩, s, zA, ⟨(j : Int), mN.ino⟩⟩], 0⟩) := Lib.hid (by rw [HIN.out]; exact HR4.out)
                  have K0 : Hid (∀ W : World, Below w13.heap.size w13 W → W.cell? ⟨w8.heap.size, 0, none⟩ = some (.slice (some ⟨gd, 0, none⟩) F.length fc) ∧ W.cell? ⟨w.heap.size + 1, 0, none⟩ = some (.int .i64 (j : Int)) ∧ W.cell? ⟨w.heap.size + 1, 1, none⟩ = some (.int .i64 xi) ∧ W.cell? ⟨w9.heap.size, 0, none⟩ = some (.int .i64 mN.ino)) := Lib.hid (fun W hb => ⟨(tO13.stay hb).blk.c1.1, (tD13.stay hb).blk.c2.1, (tD13.stay hb).blk.c2.2.1, (tM13.stay hb).blk.c8.1.1⟩)
                  have hne1 : w8.heap.size ≠ w.heap.size + 1 + 1 + 1 := by omega
                  have hne2 : w9.heap.size ≠ w.heap.size + 1 + 1 + 1 := by omega
                  have FIN : Hid (∀ W v, Below w13.heap.size w13 W → OwnC w13.heap.size W v [⟨⟨(j : Int), xi⟩, s, zA, ⟨(j : Int), mN.ino⟩⟩] → W.cell? ⟨w.heap.size + 1 + 1 + 1, 0, none⟩ = some (.slice none 0 0) ∧ W.frozen? ⟨w.heap.size + 1 + 1 + 1, 0, none⟩ = false ∧ (W.setCell ⟨w.heap.size + 1 + 1 + 1, 0, none⟩ (.slice (some ⟨gd, 0, none⟩) F.length fc)).cell? ⟨w.heap.size + 1 + 1 + 1, 0, none⟩ = some (.slice (some ⟨gd, 0, none⟩) F.length fc) ∧ EditR w.heap.size R w (.returned (.tuple #[.agg #[.slice (some ⟨gd, 0, none⟩) F.length fc], v, .int .i64 0])) (W.setCell ⟨w.heap.size + 1 + 1 + 1, 0, none⟩ (.slice (some ⟨gd, 0, none⟩) F.length fc))) := Lib.hid (fun W v hb hv =>
                    ⟨(tG13.stay hb).blk.c1.1, (tG13.stay hb).blk.c1.2, (TB.blk (cs := [.slice (some ⟨gd, 0, none⟩) F.length fc]) ((tG13.stay hb).set 0 (.slice (some ⟨gd, 0, none⟩) F.length fc))).c1.1,
                      by rw [HR5.out]; exact EditR.own (r := ⟨pointF (mkF F ⟨(j : Int), xi⟩ n) ⟨(j : Int), xi⟩ s ⟨(j : Int), mN.ino⟩, [⟨⟨(j : Int), xi⟩, s, zA, ⟨(j : Int), mN.ino⟩⟩], 0⟩) (Nat.le_trans HB3.out.size hb7.size) (Nat.le_trans HB3.out.size hs13) (HB3.out.trans ((hb13.trans (hb.mono hs13)).mono HB3.out.size)) (ho13.stay hb) hv (tG13.stay hb) (by omega)⟩)
                  have HS := Lib.hid (fun (W : World) (h : (W.cell? ⟨w8.heap.size, 0, none⟩ = some (.slice (some ⟨gd, 0, none⟩) F.length fc) ∧ W.cell? ⟨w.heap.size + 1, 0, none⟩ = some (.int .i64 (j : Int)) ∧ W.cell? ⟨w.heap.size + 1, 1, none⟩ = some (.int .i64 xi) ∧ W.cell? ⟨w9.heap.size, 0, none⟩ = some (.int .i64 mN.ino))) =>
                    (show (W.setCell ⟨w.heap.size + 1 + 1 + 1, 0, none⟩ (.slice (some ⟨gd, 0, none⟩) F.length fc)).cell? ⟨w8.heap.size, 0, none⟩ = some (.slice (some ⟨gd, 0, none⟩) F.length fc) ∧ (W.setCell ⟨w.heap.size + 1 + 1 + 1, 0, none⟩ (.slice (some ⟨gd, 0, none⟩) F.length fc)).cell? ⟨w.heap.size + 1, 0, none⟩ = some (.int .i64 (j : Int)) ∧ (W.setCell ⟨w.heap.size + 1 + 1 + 1, 0, none⟩ (.slice (some ⟨gd, 0, none⟩) F.length fc)).cell? ⟨w.heap.size + 1, 1, none⟩ = some (.int .i64 xi) ∧ (W.setCell ⟨w.heap.size + 1 + 1 + 1, 0, none⟩ (.slice (some ⟨gd, 0, none⟩) F.length fc)).cell? ⟨w9.heap.size, 0, none⟩ = some (.int .i64 mN.ino) from by
                      have hk : ∀ g, g ≠ w.heap.size + 1 + 1 + 1 → (W.setCell ⟨w.heap.size + 1 + 1 + 1, 0, none⟩ (.slice (some ⟨gd, 0, none⟩) F.length fc)).heap[g]? = W.heap[g]? := fun g hg => Below.heap_setCell W ⟨w.heap.size + 1 + 1 + 1, 0, none⟩ _ g hg
                      obtain ⟨h1, h2, h3, h4⟩ := h
                      exact ⟨(World.cell?_of_block (a := ⟨w8.heap.size, 0, none⟩) (hk _ hne1)).trans h1, (World.cell?_of_block (a := ⟨w.heap.size + 1, 0, none⟩) (hk _ (by show w.heap.size + 1 ≠ _; omega))).trans h2, (World.cell?_of_block (a := ⟨w.heap.size + 1, 1, none⟩) (hk _ (by show w.heap.size + 1 ≠ _; omega))).trans h3, (World.cell?_of_block (a := ⟨w9.heap.size, 0, none⟩) (hk _ hne2)).trans h4⟩))
                  obtain ⟨o0, x1, x2, m0⟩ := K0.out w13 (Below.refl _ _)
                  clear tD13 tG13 tM13 tO13 ho13 hb13 hb7 HR4 hs13 hne1 hne2 HFW HOK ERR HGL HGD HGD7 HGD8
                  go_upto_region 19 with fail
                  go_region_held3 (fun (W : World) => W.cell? ⟨w8.heap.size, 0, none⟩ = some (.slice (some ⟨gd, 0, none⟩) F.length fc) ∧ W.cell? ⟨w.heap.size + 1, 0, none⟩ = some (.int .i64 (j : Int)) ∧ W.cell? ⟨w.heap.size + 1, 1, none⟩ = some (.int .i64 xi) ∧ W.cell? ⟨w9.heap.size, 0, none⟩ = some (.int .i64 mN.ino))
                    (first
                      | go_keep
                      | (with_reducible exact K5)
                      | (with_reducible exact K6))
                    ((go_at_call 53; (with_reducible refine (CO.out _).mono ?_); rintro e w14 ⟨cv, rfl, hc14, hb14⟩; have hb15 : Below w13.heap.size w13 w14 := hbd.trans hb14; have K5 := K0.out w14 hb15; have F5 := FIN.out w14 cv hb15 hc14; have s7 := F5.1; have f7 := F5.2.1; have n0 := F5.2.2.1; have HFN := Lib.hid F5.2.2.2; have K6 := HS.out w14 K5; clear F5))
                  all_goals
                    clear K5 K6 o0 x1 x2 m0 s7 f7
                    go_wp2_with fail
                    exact bodyPost_ret (v := .tuple #[.agg #[.slice (some ⟨gd, 0, none⟩) F.length fc], cv, .int .i64 0]) (by simp [results, Try.f26, go_sem, n0]) rfl HFN.out
  · have HR : Hid (R = errR (placeF F x s)) := Lib.hid (by rw [hR]; unfold makeF; rw [if_pos c1])
    have e1 : (placeF F x s == 0) = false := by simpa using c1
    have e2 : (placeF F x s != 0) = true := by simpa using c1
    generalize placeF F x s = P at *
    clear c1 CL CF CPl HOK HFW hR hO
    go_enter Try.func26, Try.ntmps26
    go_wp2_with fail
    rw [← HW.out]
    go_wp2_with fail
    refine (CP.out w3 (Below.refl _ _)).mono ?_
    rintro e w4 ⟨rfl, hb4⟩
    clear CP x0 x1 x2
    have uG := KEEP.out.2.2.2.stay hb4
    obtain ⟨g0, gf⟩ := uG.blk.c1
    have n0 := (TB.blk (cs := [.slice none 0 0]) (uG.set 0 (.slice none 0 0))).c1.1
    have HFN : Hid (EditR w.heap.size R w (.returned (.tuple #[.agg #[.slice none 0 0], .slice none 0 0, .int .i64 P])) ((w4).setCell ⟨w.heap.size + 1 + 1 + 1, 0, none⟩ (.slice none 0 0))) := Lib.hid (by rw [show R = errR P from HR.out]; exact ERR.out P _ hb4)
    clear uG
    go_wp2_with fail
    exact bodyPost_ret (v := .tuple #[.agg #[.slice none 0 0], .slice none 0 0, .int .i64 P]) (by simp [results, Try.f26, go_sem, n0]) rfl HFN.out
end Go.Proofs.Ytafnbpkdenjipaa.fl
