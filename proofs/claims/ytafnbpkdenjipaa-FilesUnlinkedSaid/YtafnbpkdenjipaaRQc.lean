/-
  The reference of files: Unlink.
  The reference of files: RemoveDir.
  The reference of files: Link.
-/
import Derived.Test.YtafnbpkdenjipaaRQb
import Derived.Deep.RegionHeld3
namespace Go.Proofs.Ytafnbpkdenjipaa.fl
open Go.RowKit Go.Proofs.Ytafnbpkdenjipaa.cm

theorem gone_parts {F : FilP} (hO : OKF F) {x : At} {s : ByteArray} (h : placeF F x s = 0) (h2 : (lookF F x s).2 = 0) : (∃ n, nodeF F x = some n) ∧ (∃ m, nodeF (pointF F x s zA) (lookF F x s).1 = some m) ∧ goneF F x s = ⟨dropF1 (pointF F x s zA) ⟨x, s, (lookF F x s).1, zA⟩, [⟨x, s, (lookF F x s).1, zA⟩], 0⟩ := by
  obtain ⟨g1, g2⟩ := gone_eq h h2
  have hl := (at_look h).2
  have hc : pointC F x s zA = ⟨x, s, (lookF F x s).1, zA⟩ := by unfold pointC; rw [hl]
  rw [hc] at g1 g2
  obtain ⟨n, hn, hk, -⟩ := place_zero h
  obtain ⟨d, hd, hnd⟩ := nodeF_of hn
  obtain ⟨i, hi, hl1⟩ := look_zero_of hn hk h2
  obtain ⟨-, ⟨m, hm⟩, -⟩ := (hO.dev hd).pre.look hnd hi
  refine ⟨⟨n, hn⟩, ?_, ?_⟩
  · have e1 : pointF F x s zA = onF F x.dev fun d => modD d x.ino (remF s) := by unfold pointF; rw [if_pos rfl]
    have e2 : devF (pointF F x s zA) x.dev = some (modD d x.ino (remF s)) := by rw [e1, devF_on hd, if_pos rfl]
    have e3 : nodeL (modL d.nodes x.ino (remF s)) i = some (if i = x.ino then remF s m else m) := by
      rw [node_mod d.nodes x.ino (remF s) (fun _ => rfl) i, show nodeL d.nodes i = some m from hm]; rfl
    rw [hl1, nodeF_dev e2 i]
    exact ⟨_, e3⟩
  · show (⟨(goneF F x s).files, (goneF F x s).chg, 0⟩ : ResP) = _
    rw [g1, g2]
    rfl

/-- the end of a call that edits its own copy -/
theorem EditR.own {B Bc Bd : Nat} {r : ResP} {w0 w : World} {G : Nat} {fv cv gv : Value} (hB : B ≤ Bc) (hD : B ≤ Bd) (hb : Below B w0 w) (h1 : OutF Bc w fv r.files) (h2 : OwnC Bd w cv r.chg) (hG : TB 24 w G [gv]) (hBG : B ≤ G) :
    EditR B r w0 (.returned (.tuple #[.agg #[fv], cv, .int .i64 r.err])) (w.setCell ⟨G, 0, none⟩ fv) :=
  ⟨fv, cv, rfl, (h1.mono hB).same (hG.same (by decide) 0 fv), own_other (own_mono h2 hD) (fun e => hG.ne h2 (by decide) e) 0 fv, below_set hb hBG 0 fv⟩

set_option maxRecDepth 100000 in
set_option maxHeartbeats 2000000 in
theorem rUnlink_any (a : Option Addr) (cap : Nat) (F : FilP) (x : At) (s : ByteArray) (w : World) (hF : FilesAt w a F) (hO : OKF F) :
    Calls Try.prog 61 #[.agg #[.slice a F.length cap], .agg #[.int .i64 x.dev, .int .i64 x.ino], .string s] w (EditR w.heap.size (unlinkF F x s) w) := by
  have hb1 : Below w.heap.size w (w.alloc (.cells #[.slice a F.length cap] 24)) := (Below.refl _ _).alloc (Nat.le_refl _) _
  have hb2 := hb1.alloc hb1.size (.cells #[.int .i64 x.dev, .int .i64 x.ino] 36)
  have hb3 := hb2.alloc hb2.size (.cells #[.slice none 0 0] 24)
  obtain ⟨w3, hw3⟩ : ∃ w3, w3 = ((w.alloc (.cells #[.slice a F.length cap] 24)).alloc (.cells #[.int .i64 x.dev, .int .i64 x.ino] 36)).alloc (.cells #[.slice none 0 0] 24) := ⟨_, rfl⟩
  have tF : TB 24 w3 w.heap.size [.slice a F.length cap] := by rw [hw3]; exact ((TB.new1 w [.slice a F.length cap] _ _ rfl).alloc _).alloc _
  have tD : TB 36 w3 (w.heap.size + 1) [.int .i64 x.dev, .int .i64 x.ino] := by rw [hw3]; exact (TB.new1 _ [.int .i64 x.dev, .int .i64 x.ino] _ _ (size_alloc _ _)).alloc _
  have tG : TB 24 w3 (w.heap.size + 1 + 1) [.slice none 0 0] := by rw [hw3]; exact TB.new1 _ [.slice none 0 0] _ _ (by rw [size_alloc, size_alloc])
  rw [← hw3] at hb3
  have hFW : ∀ W, Below w3.heap.size w3 W → FilesAt W a F := fun W hb => hF.below (hb3.trans (hb.mono hb3.size))
  have CP := Lib.hid (fun W (hb : Below w3.heap.size w3 W) => rplace_any a cap F x s W (hFW W hb) hO.sml)
  have CL := Lib.hid (fun W (hb : Below w3.heap.size w3 W) => rLook_any a cap F x s W (hFW W hb) hO.sml)
  have HFW := Lib.hid hFW
  have HOK := Lib.hid hO
  have ERR : Hid (∀ (e : Int) W, Below w3.heap.size w3 W → EditR w.heap.size (errR e) w (.returned (.tuple #[.agg #[.slice none 0 0], .slice none 0 0, .int .i64 e])) (W.setCell ⟨w.heap.size + 1 + 1, 0, none⟩ (.slice none 0 0))) := Lib.hid (fun e W hb => EditR.out (r := errR e) hb3.size hb3 (OutF.nil _ _) (OwnC.nil _ _) hb (tG.stay hb) (by omega))
  have KEEP := Lib.hid (And.intro tF (And.intro tD tG))
  obtain ⟨x0, -⟩ := tF.blk.c1
  obtain ⟨x1, x2, -⟩ := tD.blk.c2
  have HB3 := Lib.hid hb3
  have HW := Lib.hid hw3
  clear hw3 hb1 hb2 hb3 hF hO hFW tF tD tG
  by_cases c1 : placeF F x s = 0
  · have HU : Hid (unlinkF F x s = if (lookF F x s).2 ≠ 0 then errR (lookF F x s).2 else if dirF F (lookF F x s).1 = true then errR 21 else goneF F x s) := Lib.hid (by unfold unlinkF; rw [if_neg (fun h => h c1)])
    have HG := Lib.hid (gone_parts HOK.out c1)
    rw [c1] at CP
    generalize lookF F x s = r at *
    obtain ⟨⟨ad, ai⟩, ae⟩ := r
    have CD := Lib.hid (fun W (hb : Below w3.heap.size w3 W) => rDir_any a cap F ⟨ad, ai⟩ W (HFW.out W hb) HOK.out.sml)
    have CO : Hid (∀ W, Calls Try.prog 53 #[.agg #[.int .i64 x.dev, .int .i64 x.ino], .string s, .agg #[.int .i64 ad, .int .i64 ai], .agg #[.int .i64 0, .int .i64 0]] W fun e w' => ∃ v, e = .returned v ∧ OwnC W.heap.size w' v [⟨x, s, ⟨ad, ai⟩, zA⟩] ∧ Below W.heap.size W w') := Lib.hid (fun W => rone_any x s ⟨ad, ai⟩ zA W)
    by_cases c2 : ae = 0
    · subst c2
      obtain ⟨⟨n, hn⟩, ⟨m, hm⟩, hgone⟩ := HG.out rfl
      have HN := Lib.hid hn
      have HM := Lib.hid hm
      have HU2 : unlinkF F x s = if dirF F ⟨ad, ai⟩ = true then errR 21 else goneF F x s := HU.out.trans (if_neg (fun h => h rfl))
      rw [HU2, hgone]
      obtain ⟨R, hR⟩ : ∃ R, R = if dirF F ⟨ad, ai⟩ = true then errR 21 else (⟨dropF1 (pointF F x s zA) ⟨x, s, ⟨ad, ai⟩, zA⟩, [⟨x, s, ⟨ad, ai⟩, zA⟩], 0⟩ : ResP) := ⟨_, rfl⟩
      rw [← hR]
      have HR := Lib.hid hR
      clear hR
      clear HU HU2 hgone hn hm HG c1
      generalize dirF F ⟨ad, ai⟩ = bd at *
      go_enter Try.func61, Try.ntmps61
      go_wp2_with fail
      rw [← HW.out]
      go_wp2_with fail
      refine (CP.out w3 (Below.refl _ _)).mono ?_
      rintro e w4 ⟨rfl, hb4⟩
      clear x0 x1 x2 CP
      obtain ⟨x0, -⟩ := (KEEP.out.1.stay hb4).blk.c1
      obtain ⟨x1, x2, -⟩ := (KEEP.out.2.1.stay hb4).blk.c2
      go_wp2_with fail
      refine (CL.out w4 hb4).mono ?_
      rintro e w5 ⟨h5, hb5'⟩
      obtain rfl : e = .returned (.tuple #[.agg #[.int .i64 ad, .int .i64 ai], .int .i64 0]) := h5
      have hb5 : Below w3.heap.size w3 w5 := hb4.trans (hb5'.mono hb4.size)
      have hs5 := hb5.size
      have tA := TB.new1 w5 [.int .i64 ad, .int .i64 ai] 36 w5.heap.size rfl
      have hb6 := hb5.alloc hb5.size (.cells #[.int .i64 ad, .int .i64 ai] 36)
      obtain ⟨w6, hw6⟩ : ∃ w6, w6 = w5.alloc (.cells #[.int .i64 ad, .int .i64 ai] 36) := ⟨_, rfl⟩
      replace tA : TB 36 w6 w5.heap.size [.int .i64 ad, .int .i64 ai] := by rw [hw6]; exact tA
      rw [← hw6] at hb6
      have HW6 := Lib.hid hw6
      clear hw6 x0 x1 x2 hb4 hb5 hb5' CL
      obtain ⟨x0, -⟩ := (KEEP.out.1.stay hb6).blk.c1
      obtain ⟨y0, y1, -⟩ := tA.blk.c2
      go_upto_region 7 with fail
      rw [← HW6.out]
      go_wp2_with fail
      refine (CD.out w6 hb6).mono ?_
      rintro e w7 ⟨rfl, hb7'⟩
      have hb7 : Below w3.heap.size w3 w7 := hb6.trans (hb7'.mono hb6.size)
      replace tA := tA.stay hb7'
      clear x0 y0 y1 hb6 hb7' CD
      cases bd with
      | true =>
        have uG := KEEP.out.2.2.stay hb7
        obtain ⟨g0, gf⟩ := uG.blk.c1
        have n0 := (TB.blk (cs := [.slice none 0 0]) (uG.set 0 (.slice none 0 0))).c1.1
        have HFN : Hid (EditR w.heap.size R w (.returned (.tuple #[.agg #[.slice none 0 0], .slice none 0 0, .int .i64 21])) (w7.setCell ⟨w.heap.size + 1 + 1, 0, none⟩ (.slice none 0 0))) := Lib.hid (by rw [show R = errR 21 from HR.out.trans (if_pos rfl)]; exact ERR.out 21 w7 hb7)
        clear uG
        go_wp2_with fail
        exact bodyPost_ret (v := .tuple #[.agg #[.slice none 0 0], .slice none 0 0, .int .i64 21]) (by simp [results, Try.f61, go_sem, n0]) rfl HFN.out
      | false =>
        have HR2 : Hid (R = ⟨dropF1 (pointF F x s zA) ⟨x, s, ⟨ad, ai⟩, zA⟩, [⟨x, s, ⟨ad, ai⟩, zA⟩], 0⟩) := Lib.hid (HR.out.trans (if_neg (by decide)))
        clear HR
        have CC := Lib.hid (rCopy_any a cap F w7 (HFW.out w7 hb7) HOK.out.sml)
        obtain ⟨x0, -⟩ := (KEEP.out.1.stay hb7).blk.c1
        go_wp2_with fail
        refine CC.out.mono ?_
        rintro e w8 ⟨v, rfl, ho8, hb8'⟩
        obtain ⟨fa, fc, rfl⟩ : ∃ fa fc, v = .slice fa F.length fc := by
          obtain ⟨a, c, h, -⟩ := ho8.at_
          exact ⟨a, c, h⟩
        have hb8 : Below w3.heap.size w3 w8 := hb7.trans (hb8'.mono hb7.size)
        have hs8 := hb8.size
        have hb9 := hb8.alloc hb8.size (.cells #[.slice fa F.length fc] 24)
        have tO := TB.new1 w8 [.slice fa F.length fc] 24 w8.heap.size rfl
        have ho9 := ho8.stay ((Below.refl w8.heap.size w8).alloc (Nat.le_refl _) (.cells #[.slice fa F.length fc] 24))
        have tA9 := (tA.stay hb8').alloc (.cells #[.slice fa F.length fc] 24)
        have hs9 : w7.heap.size ≤ (w8.alloc (.cells #[.slice fa F.length fc] 24)).heap.size := by rw [size_alloc]; have := hb8'.size; omega
        obtain ⟨w9, hw9⟩ : ∃ w9, w9 = w8.alloc (.cells #[.slice fa F.length fc] 24) := ⟨_, rfl⟩
        replace tO : TB 24 w9 w8.heap.size [.slice fa F.length fc] := by rw [hw9]; exact tO
        rw [← hw9] at hb9 ho9 tA9 hs9
        have HW9 := Lib.hid hw9
        clear hw9 x0 tA CC ho8 hb8' hb8
        have tF9 := KEEP.out.1.stay hb9
        have tD9 := KEEP.out.2.1.stay hb9
        have tG9 := KEEP.out.2.2.stay hb9
        have CE : Hid (Calls Try.prog 52 #[.agg #[.slice fa F.length fc], .agg #[.int .i64 x.dev, .int .i64 x.ino], .string s, .int .i64 0] w9 (GoR w7.heap.size w9 (.slice fa F.length fc) (pointF F x s zA))) := Lib.hid (renter_F w7.heap.size fa fc F x s zA w9 ho9 HOK.out.sml HOK.out.asc HOK.out.srt HOK.out.low HN.out hs9 ⟨fun _ => rfl, fun _ => rfl⟩)
        obtain ⟨x1, x2, -⟩ := tD9.blk.c2
        obtain ⟨o0, -⟩ := tO.blk.c1
        clear ho9
        go_upto_region 10 with fail
        rw [← HW9.out]
        go_wp2_with fail
        refine CE.out.mono ?_
        rintro e w10 ⟨rfl, hb10', ho10, hk10⟩
        have hb10 : Below w3.heap.size w3 w10 := hb9.trans (hb10'.mono hb7.size)
        have tD10 := hk10 _ _ _ (by decide) (by decide) tD9
        have tG10 := hk10 _ _ _ (by decide) (by decide) tG9
        have tA10 := hk10 _ _ _ (by decide) (by decide) tA9
        have tO10 := hk10 _ _ _ (by decide) (by decide) tO
        have hs10 := Nat.le_trans hs9 hb10'.size
        have CR : Hid (Calls Try.prog 79 #[.agg #[.slice fa F.length fc], .agg #[.int .i64 ad, .int .i64 ai]] w10 (GoR w7.heap.size w10 (.slice fa F.length fc) (dropF1 (pointF F x s zA) ⟨x, s, ⟨ad, ai⟩, zA⟩))) := Lib.hid (by
          have h1 := rdrop_F w7.heap.size fa fc (pointF F x s zA) ⟨x, s, ⟨ad, ai⟩, zA⟩ w10 (by rw [pointF_len]; exact ho10) (HOK.out.sml.point HOK.out.low x s zA) (HOK.out.asc.point x s zA) HM.out hs10
          rw [pointF_len] at h1
          exact h1)
        clear x1 x2 o0 tD9 tG9 tA9 tO tF9 hb10' hk10 ho10 hb9 CE
        obtain ⟨o0, -⟩ := tO10.blk.c1
        obtain ⟨y0, y1, -⟩ := tA10.blk.c2
        go_wp2_with fail
        refine CR.out.mono ?_
        rintro e w11 ⟨rfl, hb11', ho11, hk11⟩
        have hb11 : Below w3.heap.size w3 w11 := hb10.trans (hb11'.mono hb7.size)
        have tD11 := hk11 _ _ _ (by decide) (by decide) tD10
        have tG11 := hk11 _ _ _ (by decide) (by decide) tG10
        have tA11 := hk11 _ _ _ (by decide) (by decide) tA10
        have tO11 := hk11 _ _ _ (by decide) (by decide) tO10
        clear o0 y0 y1 tD10 tG10 tA10 tO10 CR
        have hs11 := hb11.size
        have hbd : Below w11.heap.size w11 w11.drew := (Below.refl w11.heap.size w11).drew
        have K0 : Hid (∀ W, Below w11.heap.size w11 W → W.cell? ⟨w8.heap.size, 0, none⟩ = some (.slice fa F.length fc) ∧ W.cell? ⟨w.heap.size + 1, 0, none⟩ = some (.int .i64 x.dev) ∧ W.cell? ⟨w.heap.size + 1, 1, none⟩ = some (.int .i64 x.ino) ∧ W.cell? ⟨w5.heap.size, 0, none⟩ = some (.int .i64 ad) ∧ W.cell? ⟨w5.heap.size, 1, none⟩ = some (.int .i64 ai)) := Lib.hid (fun W hb => ⟨(tO11.stay hb).blk.c1.1, (tD11.stay hb).blk.c2.1, (tD11.stay hb).blk.c2.2.1, (tA11.stay hb).blk.c2.1, (tA11.stay hb).blk.c2.2.1⟩)
        have hne1 : w8.heap.size ≠ w.heap.size + 1 + 1 := by
          have h2 := (KEEP.out.2.2).lt
          omega
        have hne2 : w5.heap.size ≠ w.heap.size + 1 + 1 := by
          have h2 := (KEEP.out.2.2).lt
          omega
        have FIN : Hid (∀ W v, Below w11.heap.size w11 W → OwnC w11.heap.size W v [⟨x, s, ⟨ad, ai⟩, zA⟩] → W.cell? ⟨w.heap.size + 1 + 1, 0, none⟩ = some (.slice none 0 0) ∧ W.frozen? ⟨w.heap.size + 1 + 1, 0, none⟩ = false ∧ (W.setCell ⟨w.heap.size + 1 + 1, 0, none⟩ (.slice fa F.length fc)).cell? ⟨w.heap.size + 1 + 1, 0, none⟩ = some (.slice fa F.length fc) ∧ EditR w.heap.size R w (.returned (.tuple #[.agg #[.slice fa F.length fc], v, .int .i64 0])) (W.setCell ⟨w.heap.size + 1 + 1, 0, none⟩ (.slice fa F.length fc))) := Lib.hid (fun W v hb hv =>
          ⟨(tG11.stay hb).blk.c1.1, (tG11.stay hb).blk.c1.2, (TB.blk (cs := [.slice fa F.length fc]) ((tG11.stay hb).set 0 (.slice fa F.length fc))).c1.1,
            by rw [HR2.out]; exact EditR.own (r := ⟨dropF1 (pointF F x s zA) ⟨x, s, ⟨ad, ai⟩, zA⟩, [⟨x, s, ⟨ad, ai⟩, zA⟩], 0⟩) (Nat.le_trans HB3.out.size hb7.size) (Nat.le_trans HB3.out.size hs11) (HB3.out.trans ((hb11.trans (hb.mono hs11)).mono HB3.out.size)) (ho11.stay hb) hv (tG11.stay hb) (by omega)⟩)
        obtain ⟨o0, x1, x2, y0, y1⟩ := K0.out w11 (Below.refl _ _)
        clear tD11 tG11 tA11 tO11 hb11' ho11 hk11 hb11 hb10 hb7
        have HS := Lib.hid (fun (W : World) (h : (W.cell? ⟨w8.heap.size, 0, none⟩ = some (.slice fa F.length fc) ∧ W.cell? ⟨w.heap.size + 1, 0, none⟩ = some (.int .i64 x.dev) ∧ W.cell? ⟨w.heap.size + 1, 1, none⟩ = some (.int .i64 x.ino) ∧ W.cell? ⟨w5.heap.size, 0, none⟩ = some (.int .i64 ad) ∧ W.cell? ⟨w5.heap.size, 1, none⟩ = some (.int .i64 ai))) =>
          (show (W.setCell ⟨w.heap.size + 1 + 1, 0, none⟩ (.slice fa F.length fc)).cell? ⟨w8.heap.size, 0, none⟩ = some (.slice fa F.length fc) ∧ (W.setCell ⟨w.heap.size + 1 + 1, 0, none⟩ (.slice fa F.length fc)).cell? ⟨w.heap.size + 1, 0, none⟩ = some (.int .i64 x.dev) ∧ (W.setCell ⟨w.heap.size + 1 + 1, 0, none⟩ (.slice fa F.length fc)).cell? ⟨w.heap.size + 1, 1, none⟩ = some (.int .i64 x.ino) ∧ (W.setCell ⟨w.heap.size + 1 + 1, 0, none⟩ (.slice fa F.length fc)).cell? ⟨w5.heap.size, 0, none⟩ = some (.int .i64 ad) ∧ (W.setCell ⟨w.heap.size + 1 + 1, 0, none⟩ (.slice fa F.length fc)).cell? ⟨w5.heap.size, 1, none⟩ = some (.int .i64 ai) from by
            have hk : ∀ g, g ≠ w.heap.size + 1 + 1 → (W.setCell ⟨w.heap.size + 1 + 1, 0, none⟩ (.slice fa F.length fc)).heap[g]? = W.heap[g]? := fun g hg => Below.heap_setCell W ⟨w.heap.size + 1 + 1, 0, none⟩ _ g hg
            obtain ⟨h1, h2, h3, h4, h5⟩ := h
            exact ⟨(World.cell?_of_block (a := ⟨w8.heap.size, 0, none⟩) (hk _ hne1)).trans h1, (World.cell?_of_block (a := ⟨w.heap.size + 1, 0, none⟩) (hk _ (by show w.heap.size + 1 ≠ _; omega))).trans h2, (World.cell?_of_block (a := ⟨w.heap.size + 1, 1, none⟩) (hk _ (by show w.heap.size + 1 ≠ _; omega))).trans h3, (World.cell?_of_block (a := ⟨w5.heap.size, 0, none⟩) (hk _ hne2)).trans h4, (World.cell?_of_block (a := ⟨w5.heap.size, 1, none⟩) (hk _ hne2)).trans h5⟩))
        clear HN HM HR2 hs5 hs8 hs9 hs10 hs11 hne1 hne2 HFW HOK ERR
        go_upto_region 12 with fail
        go_region_held3 (fun (W : World) => W.cell? ⟨w8.heap.size, 0, none⟩ = some (.slice fa F.length fc) ∧ W.cell? ⟨w.heap.size + 1, 0, none⟩ = some (.int .i64 x.dev) ∧ W.cell? ⟨w.heap.size + 1, 1, none⟩ = some (.int .i64 x.ino) ∧ W.cell? ⟨w5.heap.size, 0, none⟩ = some (.int .i64 ad) ∧ W.cell? ⟨w5.heap.size, 1, none⟩ = some (.int .i64 ai))
          (first
            | go_keep
            | (with_reducible exact K5)
            | (with_reducible exact K6))
          ((go_at_call 53; (with_reducible refine (CO.out _).mono ?_); rintro e w12 ⟨cv, rfl, hc12, hb12⟩; have hb13 : Below w11.heap.size w11 w12 := hbd.trans hb12; have K5 := K0.out w12 hb13; have F5 := FIN.out w12 cv hb13 hc12; have s7 := F5.1; have f7 := F5.2.1; have n0 := F5.2.2.1; have HFN := Lib.hid F5.2.2.2; have K6 := HS.out w12 K5; clear F5))
        all_goals
          clear K5 K6 o0 x1 x2 y0 y1 s7 f7
          go_wp2_with fail
          exact bodyPost_ret (v := .tuple #[.agg #[.slice fa F.length fc], cv, .int .i64 0]) (by simp [results, Try.f61, go_sem, n0]) rfl HFN.out
    · have HU2 : unlinkF F x s = errR ae := HU.out.trans (if_pos c2)
      rw [HU2]
      have e1 : (ae == 0) = false := by simpa using c2
      clear c1 c2 HU HU2 HG CD CO HOK HFW
      go_enter Try.func61, Try.ntmps61
      go_wp2_with fail
      rw [← HW.out]
      go_wp2_with fail
      refine (CP.out w3 (Below.refl _ _)).mono ?_
      rintro e w4 ⟨rfl, hb4⟩
      clear x0 x1 x2 CP
      obtain ⟨x0, -⟩ := (KEEP.out.1.stay hb4).blk.c1
      obtain ⟨x1, x2, -⟩ := (KEEP.out.2.1.stay hb4).blk.c2
      go_wp2_with fail
      refine (CL.out w4 hb4).mono ?_
      rintro e w5 ⟨h5, hb5'⟩
      obtain rfl : e = .returned (.tuple #[.agg #[.int .i64 ad, .int .i64 ai], .int .i64 ae]) := h5
      have hb5 : Below w3.heap.size w3 w5 := hb4.trans (hb5'.mono hb4.size)
      have hb6 := hb5.alloc hb5.size (.cells #[.int .i64 ad, .int .i64 ai] 36)
      have uG := KEEP.out.2.2.stay hb6
      obtain ⟨g0, gf⟩ := uG.blk.c1
      have n0 := (TB.blk (cs := [.slice none 0 0]) (uG.set 0 (.slice none 0 0))).c1.1
      have HFN := Lib.hid (ERR.out ae _ hb6)
      clear CL uG hb4 hb5 hb5' hb6 x0 x1 x2
      go_wp2_with fail
      exact bodyPost_ret (v := .tuple #[.agg #[.slice none 0 0], .slice none 0 0, .int .i64 ae]) (by simp [results, Try.f61, go_sem, n0]) rfl HFN.out
  · have HU : unlinkF F x s = errR (placeF F x s) := by unfold unlinkF; rw [if_pos c1]
    rw [HU]
    have e1 : (placeF F x s == 0) = false := by simpa using c1
    generalize placeF F x s = P at *
    clear c1 CL HOK HFW
    go_enter Try.func61, Try.ntmps61
    go_wp2_with fail
    rw [← HW.out]
    go_wp2_with fail
    refine (CP.out w3 (Below.refl _ _)).mono ?_
    rintro e w4 ⟨rfl, hb4⟩
    have uG := KEEP.out.2.2.stay hb4
    obtain ⟨g0, gf⟩ := uG.blk.c1
    have n0 := (TB.blk (cs := [.slice none 0 0]) (uG.set 0 (.slice none 0 0))).c1.1
    have HFN := Lib.hid (ERR.out P w4 hb4)
    clear CP uG
    go_wp2_with fail
    exact bodyPost_ret (v := .tuple #[.agg #[.slice none 0 0], .slice none 0 0, .int .i64 P]) (by simp [results, Try.f61, go_sem, n0]) rfl HFN.out
end Go.Proofs.Ytafnbpkdenjipaa.fl
namespace Go.Proofs.Ytafnbpkdenjipaa.fl
open Go.RowKit Go.Proofs.Ytafnbpkdenjipaa.cm

set_option maxRecDepth 100000 in
set_option maxHeartbeats 2000000 in
theorem rRemoveDir_any (a : Option Addr) (cap : Nat) (F : FilP) (x : At) (s : ByteArray) (w : World) (hF : FilesAt w a F) (hO : OKF F) :
    Calls Try.prog 62 #[.agg #[.slice a F.length cap], .agg #[.int .i64 x.dev, .int .i64 x.ino], .string s] w (EditR w.heap.size (rmdirF F x s) w) := by
  have hb1 : Below w.heap.size w (w.alloc (.cells #[.slice a F.length cap] 24)) := (Below.refl _ _).alloc (Nat.le_refl _) _
  have hb2 := hb1.alloc hb1.size (.cells #[.int .i64 x.dev, .int .i64 x.ino] 36)
  have hb3 := hb2.alloc hb2.size (.cells #[.slice none 0 0] 24)
  obtain ⟨w3, hw3⟩ : ∃ w3, w3 = ((w.alloc (.cells #[.slice a F.length cap] 24)).alloc (.cells #[.int .i64 x.dev, .int .i64 x.ino] 36)).alloc (.cells #[.slice none 0 0] 24) := ⟨_, rfl⟩
  have tF : TB 24 w3 w.heap.size [.slice a F.length cap] := by rw [hw3]; exact ((TB.new1 w [.slice a F.length cap] _ _ rfl).alloc _).alloc _
  have tD : TB 36 w3 (w.heap.size + 1) [.int .i64 x.dev, .int .i64 x.ino] := by rw [hw3]; exact (TB.new1 _ [.int .i64 x.dev, .int .i64 x.ino] _ _ (size_alloc _ _)).alloc _
  have tG : TB 24 w3 (w.heap.size + 1 + 1) [.slice none 0 0] := by rw [hw3]; exact TB.new1 _ [.slice none 0 0] _ _ (by rw [size_alloc, size_alloc])
  rw [← hw3] at hb3
  have hFW : ∀ W, Below w3.heap.size w3 W → FilesAt W a F := fun W hb => hF.below (hb3.trans (hb.mono hb3.size))
  have CP := Lib.hid (fun W (hb : Below w3.heap.size w3 W) => rplace_any a cap F x s W (hFW W hb) hO.sml)
  have CL := Lib.hid (fun W (hb : Below w3.heap.size w3 W) => rLook_any a cap F x s W (hFW W hb) hO.sml)
  have HFW := Lib.hid hFW
  have HOK := Lib.hid hO
  have ERR : Hid (∀ (e : Int) W, Below w3.heap.size w3 W → EditR w.heap.size (errR e) w (.returned (.tuple #[.agg #[.slice none 0 0], .slice none 0 0, .int .i64 e])) (W.setCell ⟨w.heap.size + 1 + 1, 0, none⟩ (.slice none 0 0))) := Lib.hid (fun e W hb => EditR.out (r := errR e) hb3.size hb3 (OutF.nil _ _) (OwnC.nil _ _) hb (tG.stay hb) (by omega))
  have KEEP := Lib.hid (And.intro tF (And.intro tD tG))
  obtain ⟨x0, -⟩ := tF.blk.c1
  obtain ⟨x1, x2, -⟩ := tD.blk.c2
  have HB3 := Lib.hid hb3
  have HW := Lib.hid hw3
  clear hw3 hb1 hb2 hb3 hF hO hFW tF tD tG
  by_cases c1 : placeF F x s = 0
  · have HU : Hid (rmdirF F x s = if (lookF F x s).2 ≠ 0 then errR (lookF F x s).2 else if dirF F (lookF F x s).1 = false then errR 20 else if emptyF F (lookF F x s).1 = false then errR 39 else goneF F x s) := Lib.hid (by unfold rmdirF; rw [if_neg (fun h => h c1)])
    have HG := Lib.hid (gone_parts HOK.out c1)
    rw [c1] at CP
    generalize lookF F x s = r at *
    obtain ⟨⟨ad, ai⟩, ae⟩ := r
    have CD := Lib.hid (fun W (hb : Below w3.heap.size w3 W) => rDir_any a cap F ⟨ad, ai⟩ W (HFW.out W hb) HOK.out.sml)
    have CM := Lib.hid (fun W (hb : Below w3.heap.size w3 W) => rEmpty_any a cap F ⟨ad, ai⟩ W (HFW.out W hb) HOK.out.sml)
    have CO : Hid (∀ W, Calls Try.prog 53 #[.agg #[.int .i64 x.dev, .int .i64 x.ino], .string s, .agg #[.int .i64 ad, .int .i64 ai], .agg #[.int .i64 0, .int .i64 0]] W fun e w' => ∃ v, e = .returned v ∧ OwnC W.heap.size w' v [⟨x, s, ⟨ad, ai⟩, zA⟩] ∧ Below W.heap.size W w') := Lib.hid (fun W => rone_any x s ⟨ad, ai⟩ zA W)
    by_cases c2 : ae = 0
    · subst c2
      obtain ⟨⟨n, hn⟩, ⟨m, hm⟩, hgone⟩ := HG.out rfl
      have HN := Lib.hid hn
      have HM := Lib.hid hm
      have HU2 : rmdirF F x s = if dirF F ⟨ad, ai⟩ = false then errR 20 else if emptyF F ⟨ad, ai⟩ = false then errR 39 else goneF F x s := HU.out.trans (if_neg (fun h => h rfl))
      rw [HU2, hgone]
      obtain ⟨R, hR⟩ : ∃ R, R = if dirF F ⟨ad, ai⟩ = false then errR 20 else if emptyF F ⟨ad, ai⟩ = false then errR 39 else (⟨dropF1 (pointF F x s zA) ⟨x, s, ⟨ad, ai⟩, zA⟩, [⟨x, s, ⟨ad, ai⟩, zA⟩], 0⟩ : ResP) := ⟨_, rfl⟩
      rw [← hR]
      have HR := Lib.hid hR
      clear hR
      clear HU HU2 hgone hn hm HG c1
      generalize dirF F ⟨ad, ai⟩ = bd at *
      generalize emptyF F ⟨ad, ai⟩ = em at *
      go_enter Try.func62, Try.ntmps62
      go_wp2_with fail
      rw [← HW.out]
      go_wp2_with fail
      refine (CP.out w3 (Below.refl _ _)).mono ?_
      rintro e w4 ⟨rfl, hb4⟩
      clear x0 x1 x2 CP
      obtain ⟨x0, -⟩ := (KEEP.out.1.stay hb4).blk.c1
      obtain ⟨x1, x2, -⟩ := (KEEP.out.2.1.stay hb4).blk.c2
      go_wp2_with fail
      refine (CL.out w4 hb4).mono ?_
      rintro e w5 ⟨h5, hb5'⟩
      obtain rfl : e = .returned (.tuple #[.agg #[.int .i64 ad, .int .i64 ai], .int .i64 0]) := h5
      have hb5 : Below w3.heap.size w3 w5 := hb4.trans (hb5'.mono hb4.size)
      have hs5 := hb5.size
      have tA := TB.new1 w5 [.int .i64 ad, .int .i64 ai] 36 w5.heap.size rfl
      have hb6 := hb5.alloc hb5.size (.cells #[.int .i64 ad, .int .i64 ai] 36)
      obtain ⟨w6, hw6⟩ : ∃ w6, w6 = w5.alloc (.cells #[.int .i64 ad, .int .i64 ai] 36) := ⟨_, rfl⟩
      replace tA : TB 36 w6 w5.heap.size [.int .i64 ad, .int .i64 ai] := by rw [hw6]; exact tA
      rw [← hw6] at hb6
      have HW6 := Lib.hid hw6
      clear hw6 x0 x1 x2 hb4 hb5 hb5' CL
      obtain ⟨x0, -⟩ := (KEEP.out.1.stay hb6).blk.c1
      obtain ⟨y0, y1, -⟩ := tA.blk.c2
      go_upto_region 7 with fail
      rw [← HW6.out]
      go_wp2_with fail
      refine (CD.out w6 hb6).mono ?_
      rintro e wd ⟨rfl, hbd'⟩
      have hbD : Below w3.heap.size w3 wd := hb6.trans (hbd'.mono hb6.size)
      replace tA := tA.stay hbd'
      clear x0 y0 y1 hb6 hbd' CD
      cases bd with
      | false =>
        have uG := KEEP.out.2.2.stay hbD
        obtain ⟨g0, gf⟩ := uG.blk.c1
        have n0 := (TB.blk (cs := [.slice none 0 0]) (uG.set 0 (.slice none 0 0))).c1.1
        have HFN : Hid (EditR w.heap.size R w (.returned (.tuple #[.agg #[.slice none 0 0], .slice none 0 0, .int .i64 20])) (wd.setCell ⟨w.heap.size + 1 + 1, 0, none⟩ (.slice none 0 0))) := Lib.hid (by rw [show R = errR 20 from HR.out.trans (if_pos rfl)]; exact ERR.out 20 wd hbD)
        clear uG
        go_wp2_with fail
        exact bodyPost_ret (v := .tuple #[.agg #[.slice none 0 0], .slice none 0 0, .int .i64 20]) (by simp [results, Try.f62, go_sem, n0]) rfl HFN.out
      | true =>
       obtain ⟨x0, -⟩ := (KEEP.out.1.stay hbD).blk.c1
       obtain ⟨y0, y1, -⟩ := tA.blk.c2
       go_wp2_with fail
       refine (CM.out wd hbD).mono ?_
       rintro e w7 ⟨rfl, hb7'⟩
       have hb7 : Below w3.heap.size w3 w7 := hbD.trans (hb7'.mono hbD.size)
       replace tA := tA.stay hb7'
       clear x0 y0 y1 hbD hb7' CM
       cases em with
       | false =>
        have uG := KEEP.out.2.2.stay hb7
        obtain ⟨g0, gf⟩ := uG.blk.c1
        have n0 := (TB.blk (cs := [.slice none 0 0]) (uG.set 0 (.slice none 0 0))).c1.1
        have HFN : Hid (EditR w.heap.size R w (.returned (.tuple #[.agg #[.slice none 0 0], .slice none 0 0, .int .i64 39])) (w7.setCell ⟨w.heap.size + 1 + 1, 0, none⟩ (.slice none 0 0))) := Lib.hid (by rw [show R = errR 39 from (HR.out.trans (if_neg (by decide))).trans (if_pos rfl)]; exact ERR.out 39 w7 hb7)
        clear uG
        go_wp2_with fail
        exact bodyPost_ret (v := .tuple #[.agg #[.slice none 0 0], .slice none 0 0, .int .i64 39]) (by simp [results, Try.f62, go_sem, n0]) rfl HFN.out
       | true =>
        have HR2 : Hid (R = ⟨dropF1 (pointF F x s zA) ⟨x, s, ⟨ad, ai⟩, zA⟩, [⟨x, s, ⟨ad, ai⟩, zA⟩], 0⟩) := Lib.hid ((HR.out.trans (if_neg (by decide))).trans (if_neg (by decide)))
        clear HR
        have CC := Lib.hid (rCopy_any a cap F w7 (HFW.out w7 hb7) HOK.out.sml)
        obtain ⟨x0, -⟩ := (KEEP.out.1.stay hb7).blk.c1
        go_wp2_with fail
        refine CC.out.mono ?_
        rintro e w8 ⟨v, rfl, ho8, hb8'⟩
        obtain ⟨fa, fc, rfl⟩ : ∃ fa fc, v = .slice fa F.length fc := by
          obtain ⟨a, c, h, -⟩ := ho8.at_
          exact ⟨a, c, h⟩
        have hb8 : Below w3.heap.size w3 w8 := hb7.trans (hb8'.mono hb7.size)
        have hs8 := hb8.size
        have hb9 := hb8.alloc hb8.size (.cells #[.slice fa F.length fc] 24)
        have tO := TB.new1 w8 [.slice fa F.length fc] 24 w8.heap.size rfl
        have ho9 := ho8.stay ((Below.refl w8.heap.size w8).alloc (Nat.le_refl _) (.cells #[.slice fa F.length fc] 24))
        have tA9 := (tA.stay hb8').alloc (.cells #[.slice fa F.length fc] 24)
        have hs9 : w7.heap.size ≤ (w8.alloc (.cells #[.slice fa F.length fc] 24)).heap.size := by rw [size_alloc]; have := hb8'.size; omega
        obtain ⟨w9, hw9⟩ : ∃ w9, w9 = w8.alloc (.cells #[.slice fa F.length fc] 24) := ⟨_, rfl⟩
        replace tO : TB 24 w9 w8.heap.size [.slice fa F.length fc] := by rw [hw9]; exact tO
        rw [← hw9] at hb9 ho9 tA9 hs9
        have HW9 := Lib.hid hw9
        clear hw9 x0 tA CC ho8 hb8' hb8
        have tF9 := KEEP.out.1.stay hb9
        have tD9 := KEEP.out.2.1.stay hb9
        have tG9 := KEEP.out.2.2.stay hb9
        have CE : Hid (Calls Try.prog 52 #[.agg #[.slice fa F.length fc], .agg #[.int .i64 x.dev, .int .i64 x.ino], .string s, .int .i64 0] w9 (GoR w7.heap.size w9 (.slice fa F.length fc) (pointF F x s zA))) := Lib.hid (renter_F w7.heap.size fa fc F x s zA w9 ho9 HOK.out.sml HOK.out.asc HOK.out.srt HOK.out.low HN.out hs9 ⟨fun _ => rfl, fun _ => rfl⟩)
        obtain ⟨x1, x2, -⟩ := tD9.blk.c2
        obtain ⟨o0, -⟩ := tO.blk.c1
        clear ho9
        go_upto_region 12 with fail
        rw [← HW9.out]
        go_wp2_with fail
        refine CE.out.mono ?_
        rintro e w10 ⟨rfl, hb10', ho10, hk10⟩
        have hb10 : Below w3.heap.size w3 w10 := hb9.trans (hb10'.mono hb7.size)
        have tD10 := hk10 _ _ _ (by decide) (by decide) tD9
        have tG10 := hk10 _ _ _ (by decide) (by decide) tG9
        have tA10 := hk10 _ _ _ (by decide) (by decide) tA9
        have tO10 := hk10 _ _ _ (by decide) (by decide) tO
        have hs10 := Nat.le_trans hs9 hb10'.size
        have CR : Hid (Calls Try.prog 79 #[.agg #[.slice fa F.length fc], .agg #[.int .i64 ad, .int .i64 ai]] w10 (GoR w7.heap.size w10 (.slice fa F.length fc) (dropF1 (pointF F x s zA) ⟨x, s, ⟨ad, ai⟩, zA⟩))) := Lib.hid (by
          have h1 := rdrop_F w7.heap.size fa fc (pointF F x s zA) ⟨x, s, ⟨ad, ai⟩, zA⟩ w10 (by rw [pointF_len]; exact ho10) (HOK.out.sml.point HOK.out.low x s zA) (HOK.out.asc.point x s zA) HM.out hs10
          rw [pointF_len] at h1
          exact h1)
        clear x1 x2 o0 tD9 tG9 tA9 tO tF9 hb10' hk10 ho10 hb9 CE
        obtain ⟨o0, -⟩ := tO10.blk.c1
        obtain ⟨y0, y1, -⟩ := tA10.blk.c2
        go_wp2_with fail
        refine CR.out.mono ?_
        rintro e w11 ⟨rfl, hb11', ho11, hk11⟩
        have hb11 : Below w3.heap.size w3 w11 := hb10.trans (hb11'.mono hb7.size)
        have tD11 := hk11 _ _ _ (by decide) (by decide) tD10
        have tG11 := hk11 _ _ _ (by decide) (by decide) tG10
        have tA11 := hk11 _ _ _ (by decide) (by decide) tA10
        have tO11 := hk11 _ _ _ (by decide) (by decide) tO10
        clear o0 y0 y1 tD10 tG10 tA10 tO10 CR
        have hs11 := hb11.size
        have hbd : Below w11.heap.size w11 w11.drew := (Below.refl w11.heap.size w11).drew
        have K0 : Hid (∀ W, Below w11.heap.size w11 W → W.cell? ⟨w8.heap.size, 0, none⟩ = some (.slice fa F.length fc) ∧ W.cell? ⟨w.heap.size + 1, 0, none⟩ = some (.int .i64 x.dev) ∧ W.cell? ⟨w.heap.size + 1, 1, none⟩ = some (.int .i64 x.ino) ∧ W.cell? ⟨w5.heap.size, 0, none⟩ = some (.int .i64 ad) ∧ W.cell? ⟨w5.heap.size, 1, none⟩ = some (.int .i64 ai)) := Lib.hid (fun W hb => ⟨(tO11.stay hb).blk.c1.1, (tD11.stay hb).blk.c2.1, (tD11.stay hb).blk.c2.2.1, (tA11.stay hb).blk.c2.1, (tA11.stay hb).blk.c2.2.1⟩)
        have hne1 : w8.heap.size ≠ w.heap.size + 1 + 1 := by
          have h2 := (KEEP.out.2.2).lt
          omega
        have hne2 : w5.heap.size ≠ w.heap.size + 1 + 1 := by
          have h2 := (KEEP.out.2.2).lt
          omega
        have FIN : Hid (∀ W v, Below w11.heap.size w11 W → OwnC w11.heap.size W v [⟨x, s, ⟨ad, ai⟩, zA⟩] → W.cell? ⟨w.heap.size + 1 + 1, 0, none⟩ = some (.slice none 0 0) ∧ W.frozen? ⟨w.heap.size + 1 + 1, 0, none⟩ = false ∧ (W.setCell ⟨w.heap.size + 1 + 1, 0, none⟩ (.slice fa F.length fc)).cell? ⟨w.heap.size + 1 + 1, 0, none⟩ = some (.slice fa F.length fc) ∧ EditR w.heap.size R w (.returned (.tuple #[.agg #[.slice fa F.length fc], v, .int .i64 0])) (W.setCell ⟨w.heap.size + 1 + 1, 0, none⟩ (.slice fa F.length fc))) := Lib.hid (fun W v hb hv =>
          ⟨(tG11.stay hb).blk.c1.1, (tG11.stay hb).blk.c1.2, (TB.blk (cs := [.slice fa F.length fc]) ((tG11.stay hb).set 0 (.slice fa F.length fc))).c1.1,
            by rw [HR2.out]; exact EditR.own (r := ⟨dropF1 (pointF F x s zA) ⟨x, s, ⟨ad, ai⟩, zA⟩, [⟨x, s, ⟨ad, ai⟩, zA⟩], 0⟩) (Nat.le_trans HB3.out.size hb7.size) (Nat.le_trans HB3.out.size hs11) (HB3.out.trans ((hb11.trans (hb.mono hs11)).mono HB3.out.size)) (ho11.stay hb) hv (tG11.stay hb) (by omega)⟩)
        obtain ⟨o0, x1, x2, y0, y1⟩ := K0.out w11 (Below.refl _ _)
        clear tD11 tG11 tA11 tO11 hb11' ho11 hk11 hb11 hb10 hb7
        have HS := Lib.hid (fun (W : World) (h : (W.cell? ⟨w8.heap.size, 0, none⟩ = some (.slice fa F.length fc) ∧ W.cell? ⟨w.heap.size + 1, 0, none⟩ = some (.int .i64 x.dev) ∧ W.cell? ⟨w.heap.size + 1, 1, none⟩ = some (.int .i64 x.ino) ∧ W.cell? ⟨w5.heap.size, 0, none⟩ = some (.int .i64 ad) ∧ W.cell? ⟨w5.heap.size, 1, none⟩ = some (.int .i64 ai))) =>
          (show (W.setCell ⟨w.heap.size + 1 + 1, 0, none⟩ (.slice fa F.length fc)).cell? ⟨w8.heap.size, 0, none⟩ = some (.slice fa F.length fc) ∧ (W.setCell ⟨w.heap.size + 1 + 1, 0, none⟩ (.slice fa F.length fc)).cell? ⟨w.heap.size + 1, 0, none⟩ = some (.int .i64 x.dev) ∧ (W.setCell ⟨w.heap.size + 1 + 1, 0, none⟩ (.slice fa F.length fc)).cell? ⟨w.heap.size + 1, 1, none⟩ = some (.int .i64 x.ino) ∧ (W.setCell ⟨w.heap.size + 1 + 1, 0, none⟩ (.slice fa F.length fc)).cell? ⟨w5.heap.size, 0, none⟩ = some (.int .i64 ad) ∧ (W.setCell ⟨w.heap.size + 1 + 1, 0, none⟩ (.slice fa F.length fc)).cell? ⟨w5.heap.size, 1, none⟩ = some (.int .i64 ai) from by
            have hk : ∀ g, g ≠ w.heap.size + 1 + 1 → (W.setCell ⟨w.heap.size + 1 + 1, 0, none⟩ (.slice fa F.length fc)).heap[g]? = W.heap[g]? := fun g hg => Below.heap_setCell W ⟨w.heap.size + 1 + 1, 0, none⟩ _ g hg
            obtain ⟨h1, h2, h3, h4, h5⟩ := h
            exact ⟨(World.cell?_of_block (a := ⟨w8.heap.size, 0, none⟩) (hk _ hne1)).trans h1, (World.cell?_of_block (a := ⟨w.heap.size + 1, 0, none⟩) (hk _ (by show w.heap.size + 1 ≠ _; omega))).trans h2, (World.cell?_of_block (a := ⟨w.heap.size + 1, 1, none⟩) (hk _ (by show w.heap.size + 1 ≠ _; omega))).trans h3, (World.cell?_of_block (a := ⟨w5.heap.size, 0, none⟩) (hk _ hne2)).trans h4, (World.cell?_of_block (a := ⟨w5.heap.size, 1, none⟩) (hk _ hne2)).trans h5⟩))
        clear HN HM HR2 hs5 hs8 hs9 hs10 hs11 hne1 hne2 HFW HOK ERR
        go_upto_region 14 with fail
        go_region_held3 (fun (W : World) => W.cell? ⟨w8.heap.size, 0, none⟩ = some (.slice fa F.length fc) ∧ W.cell? ⟨w.heap.size + 1, 0, none⟩ = some (.int .i64 x.dev) ∧ W.cell? ⟨w.heap.size + 1, 1, none⟩ = some (.int .i64 x.ino) ∧ W.cell? ⟨w5.heap.size, 0, none⟩ = some (.int .i64 ad) ∧ W.cell? ⟨w5.heap.size, 1, none⟩ = some (.int .i64 ai))
          (first
            | go_keep
            | (with_reducible exact K5)
            | (with_reducible exact K6))
          ((go_at_call 53; (with_reducible refine (CO.out _).mono ?_); rintro e w12 ⟨cv, rfl, hc12, hb12⟩; have hb13 : Below w11.heap.size w11 w12 := hbd.trans hb12; have K5 := K0.out w12 hb13; have F5 := FIN.out w12 cv hb13 hc12; have s7 := F5.1; have f7 := F5.2.1; have n0 := F5.2.2.1; have HFN := Lib.hid F5.2.2.2; have K6 := HS.out w12 K5; clear F5))
        all_goals
          clear K5 K6 o0 x1 x2 y0 y1 s7 f7
          go_wp2_with fail
          exact bodyPost_ret (v := .tuple #[.agg #[.slice fa F.length fc], cv, .int .i64 0]) (by simp [results, Try.f62, go_sem, n0]) rfl HFN.out
    · have HU2 : rmdirF F x s = errR ae := HU.out.trans (if_pos c2)
      rw [HU2]
      have e1 : (ae == 0) = false := by simpa using c2
      clear c1 c2 HU HU2 HG CD CM CO HOK HFW
      go_enter Try.func62, Try.ntmps62
      go_wp2_with fail
      rw [← HW.out]
      go_wp2_with fail
      refine (CP.out w3 (Below.refl _ _)).mono ?_
      rintro e w4 ⟨rfl, hb4⟩
      clear x0 x1 x2 CP
      obtain ⟨x0, -⟩ := (KEEP.out.1.stay hb4).blk.c1
      obtain ⟨x1, x2, -⟩ := (KEEP.out.2.1.stay hb4).blk.c2
      go_wp2_with fail
      refine (CL.out w4 hb4).mono ?_
      rintro e w5 ⟨h5, hb5'⟩
      obtain rfl : e = .returned (.tuple #[.agg #[.int .i64 ad, .int .i64 ai], .int .i64 ae]) := h5
      have hb5 : Below w3.heap.size w3 w5 := hb4.trans (hb5'.mono hb4.size)
      have hb6 := hb5.alloc hb5.size (.cells #[.int .i64 ad, .int .i64 ai] 36)
      have uG := KEEP.out.2.2.stay hb6
      obtain ⟨g0, gf⟩ := uG.blk.c1
      have n0 := (TB.blk (cs := [.slice none 0 0]) (uG.set 0 (.slice none 0 0))).c1.1
      have HFN := Lib.hid (ERR.out ae _ hb6)
      clear CL uG hb4 hb5 hb5' hb6 x0 x1 x2
      go_wp2_with fail
      exact bodyPost_ret (v := .tuple #[.agg #[.slice none 0 0], .slice none 0 0, .int .i64 ae]) (by simp [results, Try.f62, go_sem, n0]) rfl HFN.out
  · have HU : rmdirF F x s = errR (placeF F x s) := by unfold rmdirF; rw [if_pos c1]
    rw [HU]
    have e1 : (placeF F x s == 0) = false := by simpa using c1
    generalize placeF F x s = P at *
    clear c1 CL HOK HFW
    go_enter Try.func62, Try.ntmps62
    go_wp2_with fail
    rw [← HW.out]
    go_wp2_with fail
    refine (CP.out w3 (Below.refl _ _)).mono ?_
    rintro e w4 ⟨rfl, hb4⟩
    have uG := KEEP.out.2.2.stay hb4
    obtain ⟨g0, gf⟩ := uG.blk.c1
    have n0 := (TB.blk (cs := [.slice none 0 0]) (uG.set 0 (.slice none 0 0))).c1.1
    have HFN := Lib.hid (ERR.out P w4 hb4)
    clear CP uG
    go_wp2_with fail
    exact bodyPost_ret (v := .tuple #[.agg #[.slice none 0 0], .slice none 0 0, .int .i64 P]) (by simp [results, Try.f62, go_sem, n0]) rfl HFN.out
end Go.Proofs.Ytafnbpkdenjipaa.fl
namespace Go.Proofs.Ytafnbpkdenjipaa.fl
open Go.RowKit Go.Proofs.Ytafnbpkdenjipaa.cm

set_option maxRecDepth 100000 in
set_option maxHeartbeats 4000000 in
theorem rLink_any (a : Option Addr) (cap : Nat) (F : FilP) (x : At) (s : ByteArray) (y : At) (w : World) (hF : FilesAt w a F) (hO : OKF F) :
    Calls Try.prog 29 #[.agg #[.slice a F.length cap], .agg #[.int .i64 x.dev, .int .i64 x.ino], .string s, .agg #[.int .i64 y.dev, .int .i64 y.ino]] w (EditR w.heap.size (linkF F x s y) w) := by
  have hb1 : Below w.heap.size w (w.alloc (.cells #[.slice a F.length cap] 24)) := (Below.refl _ _).alloc (Nat.le_refl _) _
  have hb2 := hb1.alloc hb1.size (.cells #[.int .i64 x.dev, .int .i64 x.ino] 36)
  have hb2y := hb2.alloc hb2.size (.cells #[.int .i64 y.dev, .int .i64 y.ino] 36)
  have hb3 := hb2y.alloc hb2y.size (.cells #[.slice none 0 0] 24)
  obtain ⟨w3, hw3⟩ : ∃ w3, w3 = (((w.alloc (.cells #[.slice a F.length cap] 24)).alloc (.cells #[.int .i64 x.dev, .int .i64 x.ino] 36)).alloc (.cells #[.int .i64 y.dev, .int .i64 y.ino] 36)).alloc (.cells #[.slice none 0 0] 24) := ⟨_, rfl⟩
  have tF : TB 24 w3 w.heap.size [.slice a F.length cap] := by rw [hw3]; exact (((TB.new1 w [.slice a F.length cap] _ _ rfl).alloc _).alloc _).alloc _
  have tD : TB 36 w3 (w.heap.size + 1) [.int .i64 x.dev, .int .i64 x.ino] := by rw [hw3]; exact ((TB.new1 _ [.int .i64 x.dev, .int .i64 x.ino] _ _ (size_alloc _ _)).alloc _).alloc _
  have tY : TB 36 w3 (w.heap.size + 1 + 1) [.int .i64 y.dev, .int .i64 y.ino] := by rw [hw3]; exact (TB.new1 _ [.int .i64 y.dev, .int .i64 y.ino] _ _ (by rw [size_alloc, size_alloc])).alloc _
  have tG : TB 24 w3 (w.heap.size + 1 + 1 + 1) [.slice none 0 0] := by rw [hw3]; exact TB.new1 _ [.slice none 0 0] _ _ (by rw [size_alloc, size_alloc, size_alloc])
  rw [← hw3] at hb3
  have hFW : ∀ W, Below w3.heap.size w3 W → FilesAt W a F := fun W hb => hF.below (hb3.trans (hb.mono hb3.size))
  have CP := Lib.hid (fun W (hb : Below w3.heap.size w3 W) => rplace_any a cap F x s W (hFW W hb) hO.sml)
  have CL := Lib.hid (fun W (hb : Below w3.heap.size w3 W) => rLook_any a cap F x s W (hFW W hb) hO.sml)
  have CF := Lib.hid (fun W (hb : Below w3.heap.size w3 W) => rfull_any a cap F x W (hFW W hb) hO.sml)
  have HFW := Lib.hid hFW
  have HOK := Lib.hid hO
  have ERR : Hid (∀ (e : Int) W, Below w3.heap.size w3 W → EditR w.heap.size (errR e) w (.returned (.tuple #[.agg #[.slice none 0 0], .slice none 0 0, .int .i64 e])) (W.setCell ⟨w.heap.size + 1 + 1 + 1, 0, none⟩ (.slice none 0 0))) := Lib.hid (fun e W hb => EditR.out (r := errR e) hb3.size hb3 (OutF.nil _ _) (OwnC.nil _ _) hb (tG.stay hb) (by omega))
  have KEEP := Lib.hid (And.intro tF (And.intro tD (And.intro tY tG)))
  obtain ⟨x0, -⟩ := tF.blk.c1
  obtain ⟨x1, x2, -⟩ := tD.blk.c2
  have HB3 := Lib.hid hb3
  have HW := Lib.hid hw3
  obtain ⟨R, hR⟩ : ∃ R, R = linkF F x s y := ⟨_, rfl⟩
  rw [← hR]
  unfold linkF at hR
  clear hw3 hb1 hb2 hb2y hb3 hF hO hFW tF tD tY tG
  by_cases c1 : placeF F x s = 0
  · rw [if_neg (fun h => h c1)] at hR
    have HN : Hid (∃ p, nodeF F x = some p) := Lib.hid (by obtain ⟨p, hp, -⟩ := place_zero c1; exact ⟨p, hp⟩)
    rw [c1] at CP
    cases hn : nodeF F y with
    | none =>
      rw [hn] at hR
      have HR := Lib.hid hR
      have CN := Lib.hid (fun W (hb : Below w3.heap.size w3 W) => rNode_none a cap F y W (HFW.out W hb) HOK.out.sml hn)
      clear hR hn c1 CL CF HN HOK
      go_enter Try.func29, Try.ntmps29
      go_wp2_with fail
      rw [← HW.out]
      go_wp2_with fail
      refine (CP.out w3 (Below.refl _ _)).mono ?_
      rintro e w4 ⟨rfl, hb4⟩
      clear x0 x1 x2 CP
      obtain ⟨x0, -⟩ := (KEEP.out.1.stay hb4).blk.c1
      obtain ⟨x1, x2, -⟩ := (KEEP.out.2.2.1.stay hb4).blk.c2
      go_wp2_with fail
      refine (CN.out w4 hb4).mono ?_
      rintro e w5 ⟨va, vc, rfl, hb5'⟩
      have hb5 : Below w3.heap.size w3 w5 := hb4.trans (hb5'.mono hb4.size)
      have hb6 := hb5.alloc hb5.size (.cells #[.int .i64 0, .int .i64 0, .int .i64 0, .int .i64 0, .int .i64 0, .int .i64 0, .string ⟨#[]⟩, .slice va 0 vc] 43)
      clear x0 x1 x2 CN hb4 hb5 hb5'
      have uG := KEEP.out.2.2.2.stay hb6
      obtain ⟨g0, gf⟩ := uG.blk.c1
      have n0 := (TB.blk (cs := [.slice none 0 0]) (uG.set 0 (.slice none 0 0))).c1.1
      have HFN : Hid (EditR w.heap.size R w (.returned (.tuple #[.agg #[.slice none 0 0], .slice none 0 0, .int .i64 2])) ((w5.alloc (.cells #[.int .i64 0, .int .i64 0, .int .i64 0, .int .i64 0, .int .i64 0, .int .i64 0, .string ⟨#[]⟩, .slice va 0 vc] 43)).setCell ⟨w.heap.size + 1 + 1 + 1, 0, none⟩ (.slice none 0 0))) := Lib.hid (by rw [show R = errR 2 from HR.out]; exact ERR.out 2 _ hb6)
      clear uG  hb6
      go_wp2_with fail
      exact bodyPost_ret (v := .tuple #[.agg #[.slice none 0 0], .slice none 0 0, .int .i64 2]) (by simp [results, Try.f29, go_sem, n0]) rfl HFN.out
    | some n =>
      rw [hn] at hR
      have HR : Hid (R = if y.dev ≠ x.dev then errR 18 else if n.kind = 2 then errR 1 else if (lookF F x s).2 = 0 then errR 17 else if fullF F x = true then errR 28 else ⟨pointF F x s y, [⟨x, s, zA, y⟩], 0⟩) := Lib.hid (by
        have hz : y ≠ zA := fun h => by rw [h] at hn; rw [HOK.out.zero] at hn; cases hn
        unfold pointF
        rw [if_neg hz]
        exact hR)
      have HZ : Hid (y = zA ↔ y.ino = 0) := Lib.hid (by
        obtain ⟨j, k, d, hj, hd, hi, hk⟩ := node_where hn
        obtain ⟨n', h1, h2, -⟩ := idxL_node hi
        have h3 := (HOK.out.2 d (List.mem_of_getElem? hd)).pre.low n' (List.mem_of_getElem? h1)
        exact ⟨fun h => by rw [h]; rfl, fun h => by omega⟩)
      have CN := Lib.hid (fun W (hb : Below w3.heap.size w3 W) => rNode_some a cap F y W (HFW.out W hb) HOK.out.sml hn)
      have CO : Hid (∀ W, Calls Try.prog 53 #[.agg #[.int .i64 x.dev, .int .i64 x.ino], .string s, .agg #[.int .i64 0, .int .i64 0], .agg #[.int .i64 y.dev, .int .i64 y.ino]] W fun e w' => ∃ v, e = .returned v ∧ OwnC W.heap.size w' v [⟨x, s, zA, y⟩] ∧ Below W.heap.size W w') := Lib.hid (fun W => rone_any x s zA y W)
      clear hR hn c1
      generalize lookF F x s = r at *
      obtain ⟨⟨ad, ai⟩, ae⟩ := r
      generalize fullF F x = fl at *
      go_enter Try.func29, Try.ntmps29
      go_wp2_with fail
      rw [← HW.out]
      go_wp2_with fail
      refine (CP.out w3 (Below.refl _ _)).mono ?_
      rintro e w4 ⟨rfl, hb4⟩
      clear x0 x1 x2 CP
      obtain ⟨x0, -⟩ := (KEEP.out.1.stay hb4).blk.c1
      obtain ⟨x1, x2, -⟩ := (KEEP.out.2.2.1.stay hb4).blk.c2
      go_wp2_with fail
      refine (CN.out w4 hb4).mono ?_
      rintro e w5 ⟨va, vc, rfl, -, hb5'⟩
      have hb5 : Below w3.heap.size w3 w5 := hb4.trans (hb5'.mono hb4.size)
      have hb6 := hb5.alloc hb5.size (.cells #[.int .i64 n.ino, .int .i64 n.kind, .int .i64 n.mode, .int .i64 n.uid, .int .i64 n.gid, .int .i64 n.parent, .string n.target, .slice va n.ents.length vc] 43)
      have hs5 := hb5.size
      obtain ⟨w6, hw6⟩ : ∃ w6, w6 = w5.alloc (.cells #[.int .i64 n.ino, .int .i64 n.kind, .int .i64 n.mode, .int .i64 n.uid, .int .i64 n.gid, .int .i64 n.parent, .string n.target, .slice va n.ents.length vc] 43) := ⟨_, rfl⟩
      have tN : TB 43 w6 w5.heap.size [.int .i64 n.ino, .int .i64 n.kind, .int .i64 n.mode, .int .i64 n.uid, .int .i64 n.gid, .int .i64 n.parent, .string n.target, .slice va n.ents.length vc] := by rw [hw6]; exact TB.new1 w5 [.int .i64 n.ino, .int .i64 n.kind, .int .i64 n.mode, .int .i64 n.uid, .int .i64 n.gid, .int .i64 n.parent, .string n.target, .slice va n.ents.length vc] 43 w5.heap.size rfl
      rw [← hw6] at hb6
      have HW6 := Lib.hid hw6
      clear hw6 x0 x1 x2 hb4 hb5 hb5' CN
      obtain ⟨x0, -⟩ := (KEEP.out.1.stay hb6).blk.c1
      obtain ⟨x1, x2, -⟩ := (KEEP.out.2.1.stay hb6).blk.c2
      obtain ⟨y0, y1, -⟩ := (KEEP.out.2.2.1.stay hb6).blk.c2
      obtain ⟨⟨-, m1, -⟩, -⟩ := tN.blk.c8
      go_upto_region 7 with fail
      rw [← HW6.out]
      by_cases hdv : y.dev = x.dev
      · have e1 : (y.dev == x.dev) = true := by simpa using hdv
        have HR1 := Lib.hid (HR.out.trans (if_neg (fun h => h hdv)))
        clear HR hdv
        by_cases hk : n.kind = 2
        · have e2 : (n.kind == 2) = true := by simpa using hk
          have uG := KEEP.out.2.2.2.stay hb6
          obtain ⟨g0, gf⟩ := uG.blk.c1
          have n0 := (TB.blk (cs := [.slice none 0 0]) (uG.set 0 (.slice none 0 0))).c1.1
          have HFN : Hid (EditR w.heap.size R w (.returned (.tuple #[.agg #[.slice none 0 0], .slice none 0 0, .int .i64 1])) ((w6).setCell ⟨w.heap.size + 1 + 1 + 1, 0, none⟩ (.slice none 0 0))) := Lib.hid (by rw [show R = errR 1 from HR1.out.trans (if_pos hk)]; exact ERR.out 1 _ hb6)
          clear uG
          go_wp2_with fail
          exact bodyPost_ret (v := .tuple #[.agg #[.slice none 0 0], .slice none 0 0, .int .i64 1]) (by simp [results, Try.f29, go_sem, n0]) rfl HFN.out
        · have e2 : (n.kind == 2) = false := by simpa using hk
          have HR2 := Lib.hid (HR1.out.trans (if_neg hk))
          clear HR1 hk
          go_wp2_with fail
          refine (CL.out w6 hb6).mono ?_
          rintro e w65 ⟨h5, hb65'⟩
          obtain rfl : e = .returned (.tuple #[.agg #[.int .i64 ad, .int .i64 ai], .int .i64 ae]) := h5
          have hb65 : Below w3.heap.size w3 w65 := hb6.trans (hb65'.mono hb6.size)
          have hb66 := hb65.alloc hb65.size (.cells #[.int .i64 ad, .int .i64 ai] 36)
          clear x0 x1 x2 y0 y1 m1 tN hb65 hb65' hb6 CL
          by_cases c2 : ae = 0
          · subst c2
            have uG := KEEP.out.2.2.2.stay hb66
            obtain ⟨g0, gf⟩ := uG.blk.c1
            have n0 := (TB.blk (cs := [.slice none 0 0]) (uG.set 0 (.slice none 0 0))).c1.1
            have HFN : Hid (EditR w.heap.size R w (.returned (.tuple #[.agg #[.slice none 0 0], .slice none 0 0, .int .i64 17])) ((w65.alloc (.cells #[.int .i64 ad, .int .i64 ai] 36)).setCell ⟨w.heap.size + 1 + 1 + 1, 0, none⟩ (.slice none 0 0))) := Lib.hid (by rw [show R = errR 17 from HR2.out.trans (if_pos rfl)]; exact ERR.out 17 _ hb66)
            clear uG
            go_wp2_with fail
            exact bodyPost_ret (v := .tuple #[.agg #[.slice none 0 0], .slice none 0 0, .int .i64 17]) (by simp [results, Try.f29, go_sem, n0]) rfl HFN.out
          · have e3 : (ae == 0) = false := by simpa using c2
            have HR3 := Lib.hid (HR2.out.trans (if_neg c2))
            clear HR2 c2
            obtain ⟨w66, hw66⟩ : ∃ w66, w66 = w65.alloc (.cells #[.int .i64 ad, .int .i64 ai] 36) := ⟨_, rfl⟩
            rw [← hw66] at hb66
            have HW66 := Lib.hid hw66
            clear hw66
            obtain ⟨x0, -⟩ := (KEEP.out.1.stay hb66).blk.c1
            obtain ⟨x1, x2, -⟩ := (KEEP.out.2.1.stay hb66).blk.c2
            go_upto_region 14 with fail
            rw [← HW66.out]
            go_wp2_with fail
            refine (CF.out w66 hb66).mono ?_
            rintro e w7 ⟨rfl, hb7'⟩
            have hb7 : Below w3.heap.size w3 w7 := hb66.trans (hb7'.mono hb66.size)
            clear x0 x1 x2 hb66 hb7' CF
            cases fl with
            | true =>
              have uG := KEEP.out.2.2.2.stay hb7
              obtain ⟨g0, gf⟩ := uG.blk.c1
              have n0 := (TB.blk (cs := [.slice none 0 0]) (uG.set 0 (.slice none 0 0))).c1.1
              have HFN : Hid (EditR w.heap.size R w (.returned (.tuple #[.agg #[.slice none 0 0], .slice none 0 0, .int .i64 28])) ((w7).setCell ⟨w.heap.size + 1 + 1 + 1, 0, none⟩ (.slice none 0 0))) := Lib.hid (by rw [show R = errR 28 from HR3.out.trans (if_pos rfl)]; exact ERR.out 28 _ hb7)
              clear uG
              go_wp2_with fail
              exact bodyPost_ret (v := .tuple #[.agg #[.slice none 0 0], .slice none 0 0, .int .i64 28]) (by simp [results, Try.f29, go_sem, n0]) rfl HFN.out
            | false =>
              have HR4 := Lib.hid (HR3.out.trans (if_neg (by decide)))
              clear HR3
              have CC := Lib.hid (rCopy_any a cap F w7 (HFW.out w7 hb7) HOK.out.sml)
              obtain ⟨x0, -⟩ := (KEEP.out.1.stay hb7).blk.c1
              go_wp2_with fail
              refine CC.out.mono ?_
              rintro e w8 ⟨v, rfl, ho8, hb8'⟩
              obtain ⟨fa, fc, rfl⟩ : ∃ fa fc, v = .slice fa F.length fc := by
                obtain ⟨a, c, h, -⟩ := ho8.at_
                exact ⟨a, c, h⟩
              have hb8 : Below w3.heap.size w3 w8 := hb7.trans (hb8'.mono hb7.size)
              have hs8 := hb8.size
              have hb9 := hb8.alloc hb8.size (.cells #[.slice fa F.length fc] 24)
              have tO := TB.new1 w8 [.slice fa F.length fc] 24 w8.heap.size rfl
              have ho9 := ho8.stay ((Below.refl w8.heap.size w8).alloc (Nat.le_refl _) (.cells #[.slice fa F.length fc] 24))
              have hs9 : w7.heap.size ≤ (w8.alloc (.cells #[.slice fa F.length fc] 24)).heap.size := by rw [size_alloc]; have := hb8'.size; omega
              obtain ⟨w9, hw9⟩ : ∃ w9, w9 = w8.alloc (.cells #[.slice fa F.length fc] 24) := ⟨_, rfl⟩
              replace tO : TB 24 w9 w8.heap.size [.slice fa F.length fc] := by rw [hw9]; exact tO
              rw [← hw9] at hb9 ho9 hs9
              have HW9 := Lib.hid hw9
              clear hw9 x0 CC ho8 hb8' hb8
              have tD9 := KEEP.out.2.1.stay hb9
              have tY9 := KEEP.out.2.2.1.stay hb9
              have tG9 := KEEP.out.2.2.2.stay hb9
              have CE : Hid (Calls Try.prog 52 #[.agg #[.slice fa F.length fc], .agg #[.int .i64 x.dev, .int .i64 x.ino], .string s, .int .i64 y.ino] w9 (GoR w7.heap.size w9 (.slice fa F.length fc) (pointF F x s y))) := Lib.hid (by
                obtain ⟨p, hp⟩ := HN.out
                exact renter_F w7.heap.size fa fc F x s y w9 ho9 HOK.out.sml HOK.out.asc HOK.out.srt HOK.out.low hp hs9 HZ.out)
              obtain ⟨x1, x2, -⟩ := tD9.blk.c2
              obtain ⟨y0, y1, -⟩ := tY9.blk.c2
              obtain ⟨o0, -⟩ := tO.blk.c1
              clear ho9
              go_upto_region 17 with fail
              rw [← HW9.out]
              go_wp2_with fail
              refine CE.out.mono ?_
              rintro e w11 ⟨rfl, hb10', ho11, hk10⟩
              have hb11 : Below w3.heap.size w3 w11 := hb9.trans (hb10'.mono hb7.size)
              have tD11 := hk10 _ _ _ (by decide) (by decide) tD9
              have tY11 := hk10 _ _ _ (by decide) (by decide) tY9
              have tG11 := hk10 _ _ _ (by decide) (by decide) tG9
              have tO11 := hk10 _ _ _ (by decide) (by decide) tO
              have hs11 := hb11.size
              clear x1 x2 y0 y1 o0 tD9 tY9 tG9 tO hb10' hk10 hb9 CE
              have hbd : Below w11.heap.size w11 w11.drew := (Below.refl w11.heap.size w11).drew
              have K0 : Hid (∀ W : World, Below w11.heap.size w11 W → W.cell? ⟨w8.heap.size, 0, none⟩ = some (.slice fa F.length fc) ∧ W.cell? ⟨w.heap.size + 1, 0, none⟩ = some (.int .i64 x.dev) ∧ W.cell? ⟨w.heap.size + 1, 1, none⟩ = some (.int .i64 x.ino) ∧ W.cell? ⟨w.heap.size + 1 + 1, 0, none⟩ = some (.int .i64 y.dev) ∧ W.cell? ⟨w.heap.size + 1 + 1, 1, none⟩ = some (.int .i64 y.ino)) := Lib.hid (fun W hb => ⟨(tO11.stay hb).blk.c1.1, (tD11.stay hb).blk.c2.1, (tD11.stay hb).blk.c2.2.1, (tY11.stay hb).blk.c2.1, (tY11.stay hb).blk.c2.2.1⟩)
              have hne1 : w8.heap.size ≠ w.heap.size + 1 + 1 + 1 := by
                have h2 := (KEEP.out.2.2.2).lt
                omega
              have FIN : Hid (∀ W v, Below w11.heap.size w11 W → OwnC w11.heap.size W v [⟨x, s, zA, y⟩] → W.cell? ⟨w.heap.size + 1 + 1 + 1, 0, none⟩ = some (.slice none 0 0) ∧ W.frozen? ⟨w.heap.size + 1 + 1 + 1, 0, none⟩ = false ∧ (W.setCell ⟨w.heap.size + 1 + 1 + 1, 0, none⟩ (.slice fa F.length fc)).cell? ⟨w.heap.size + 1 + 1 + 1, 0, none⟩ = some (.slice fa F.length fc) ∧ EditR w.heap.size R w (.returned (.tuple #[.agg #[.slice fa F.length fc], v, .int .i64 0])) (W.setCell ⟨w.heap.size + 1 + 1 + 1, 0, none⟩ (.slice fa F.length fc))) := Lib.hid (fun W v hb hv =>
                ⟨(tG11.stay hb).blk.c1.1, (tG11.stay hb).blk.c1.2, (TB.blk (cs := [.slice fa F.length fc]) ((tG11.stay hb).set 0 (.slice fa F.length fc))).c1.1,
                  by rw [HR4.out]; exact EditR.own (r := ⟨pointF F x s y, [⟨x, s, zA, y⟩], 0⟩) (Nat.le_trans HB3.out.size hb7.size) (Nat.le_trans HB3.out.size hs11) (HB3.out.trans ((hb11.trans (hb.mono hs11)).mono HB3.out.size)) (ho11.stay hb) hv (tG11.stay hb) (by omega)⟩)
              obtain ⟨o0, x1, x2, y0, y1⟩ := K0.out w11 (Below.refl _ _)
              clear tD11 tY11 tG11 tO11 ho11 hb11 hb7
              have HS := Lib.hid (fun (W : World) (h : (W.cell? ⟨w8.heap.size, 0, none⟩ = some (.slice fa F.length fc) ∧ W.cell? ⟨w.heap.size + 1, 0, none⟩ = some (.int .i64 x.dev) ∧ W.cell? ⟨w.heap.size + 1, 1, none⟩ = some (.int .i64 x.ino) ∧ W.cell? ⟨w.heap.size + 1 + 1, 0, none⟩ = some (.int .i64 y.dev) ∧ W.cell? ⟨w.heap.size + 1 + 1, 1, none⟩ = some (.int .i64 y.ino))) =>
                (show (W.setCell ⟨w.heap.size + 1 + 1 + 1, 0, none⟩ (.slice fa F.length fc)).cell? ⟨w8.heap.size, 0, none⟩ = some (.slice fa F.length fc) ∧ (W.setCell ⟨w.heap.size + 1 + 1 + 1, 0, none⟩ (.slice fa F.length fc)).cell? ⟨w.heap.size + 1, 0, none⟩ = some (.int .i64 x.dev) ∧ (W.setCell ⟨w.heap.size + 1 + 1 + 1, 0, none⟩ (.slice fa F.length fc)).cell? ⟨w.heap.size + 1, 1, none⟩ = some (.int .i64 x.ino) ∧ (W.setCell ⟨w.heap.size + 1 + 1 + 1, 0, none⟩ (.slice fa F.length fc)).cell? ⟨w.heap.size + 1 + 1, 0, none⟩ = some (.int .i64 y.dev) ∧ (W.setCell ⟨w.heap.size + 1 + 1 + 1, 0, none⟩ (.slice fa F.length fc)).cell? ⟨w.heap.size + 1 + 1, 1, none⟩ = some (.int .i64 y.ino) from by
                  have hk : ∀ g, g ≠ w.heap.size + 1 + 1 + 1 → (W.setCell ⟨w.heap.size + 1 + 1 + 1, 0, none⟩ (.slice fa F.length fc)).heap[g]? = W.heap[g]? := fun g hg => Below.heap_setCell W ⟨w.heap.size + 1 + 1 + 1, 0, none⟩ _ g hg
                  obtain ⟨h1, h2, h3, h4, h5⟩ := h
                  exact ⟨(World.cell?_of_block (a := ⟨w8.heap.size, 0, none⟩) (hk _ hne1)).trans h1, (World.cell?_of_block (a := ⟨w.heap.size + 1, 0, none⟩) (hk _ (by show w.heap.size + 1 ≠ _; omega))).trans h2, (World.cell?_of_block (a := ⟨w.heap.size + 1, 1, none⟩) (hk _ (by show w.heap.size + 1 ≠ _; omega))).trans h3, (World.cell?_of_block (a := ⟨w.heap.size + 1 + 1, 0, none⟩) (hk _ (by show w.heap.size + 1 + 1 ≠ _; omega))).trans h4, (World.cell?_of_block (a := ⟨w.heap.size + 1 + 1, 1, none⟩) (hk _ (by show w.heap.size + 1 + 1 ≠ _; omega))).trans h5⟩))
              clear HN HR4 hs5 hs8 hs9 hs11 hne1 HFW HOK ERR HZ
              go_upto_region 18 with fail
              go_region_held3 (fun (W : World) => W.cell? ⟨w8.heap.size, 0, none⟩ = some (.slice fa F.length fc) ∧ W.cell? ⟨w.heap.size + 1, 0, none⟩ = some (.int .i64 x.dev) ∧ W.cell? ⟨w.heap.size + 1, 1, none⟩ = some (.int .i64 x.ino) ∧ W.cell? ⟨w.heap.size + 1 + 1, 0, none⟩ = some (.int .i64 y.dev) ∧ W.cell? ⟨w.heap.size + 1 + 1, 1, none⟩ = some (.int .i64 y.ino))
                (first
                  | go_keep
                  | (with_reducible exact K5)
                  | (with_reducible exact K6))
                ((go_at_call 53; (with_reducible refine (CO.out _).mono ?_); rintro e w12 ⟨cv, rfl, hc12, hb12⟩; have hb13 : Below w11.heap.size w11 w12 := hbd.trans hb12; have K5 := K0.out w12 hb13; have F5 := FIN.out w12 cv hb13 hc12; have s7 := F5.1; have f7 := F5.2.1; have n0 := F5.2.2.1; have HFN := Lib.hid F5.2.2.2; have K6 := HS.out w12 K5; clear F5))
              all_goals
                clear K5 K6 o0 x1 x2 y0 y1 s7 f7
                go_wp2_with fail
                exact bodyPost_ret (v := .tuple #[.agg #[.slice fa F.length fc], cv, .int .i64 0]) (by simp [results, Try.f29, go_sem, n0]) rfl HFN.out
      · have e1 : (y.dev == x.dev) = false := by simpa using hdv
        have HR1 := Lib.hid (HR.out.trans (if_pos hdv))
        clear HR hdv
        have uG := KEEP.out.2.2.2.stay hb6
        obtain ⟨g0, gf⟩ := uG.blk.c1
        have n0 := (TB.blk (cs := [.slice none 0 0]) (uG.set 0 (.slice none 0 0))).c1.1
        have HFN : Hid (EditR w.heap.size R w (.returned (.tuple #[.agg #[.slice none 0 0], .slice none 0 0, .int .i64 18])) ((w6).setCell ⟨w.heap.size + 1 + 1 + 1, 0, none⟩ (.slice none 0 0))) := Lib.hid (by rw [show R = errR 18 from HR1.out]; exact ERR.out 18 _ hb6)
        clear uG
        go_wp2_with fail
        exact bodyPost_ret (v := .tuple #[.agg #[.slice none 0 0], .slice none 0 0, .int .i64 18]) (by simp [results, Try.f29, go_sem, n0]) rfl HFN.out
  · rw [if_pos c1] at hR
    have HR := Lib.hid hR
    have e1 : (placeF F x s == 0) = false := by simpa using c1
    generalize placeF F x s = P at *
    clear c1 CL CF HOK HFW hR
    go_enter Try.func29, Try.ntmps29
    go_wp2_with fail
    rw [← HW.out]
    go_wp2_with fail
    refine (CP.out w3 (Below.refl _ _)).mono ?_
    rintro e w4 ⟨rfl, hb4⟩
    clear CP x0 x1 x2
    have uG := KEEP.out.2.2.2.stay hb4
    obtain ⟨g0, gf⟩ := uG.blk.c1
    have n0 := (TB.blk (cs := [.slice none 0 0]) (uG.set 0 (.slice none 0 0))).c1.1
    have HFN : Hid (EditR w.heap.size R w (.returned (.tuple #[.agg #[.slice none 0 0], .slice none 0 0, .int .i64 P])) ((w4).setCell ⟨w.heap.size + 1 + 1 + 1, 0, none⟩ (.slice none 0 0))) := Lib.hid (by rw [show R = errR P from HR.out]; exact ERR.out P _ hb4)
    clear uG
    go_wp2_with fail
    exact bodyPost_ret (v := .tuple #[.agg #[.slice none 0 0], .slice none 0 0, .int .i64 P]) (by simp [results, Try.f29, go_sem, n0]) rfl HFN.out
end Go.Proofs.Ytafnbpkdenjipaa.fl
