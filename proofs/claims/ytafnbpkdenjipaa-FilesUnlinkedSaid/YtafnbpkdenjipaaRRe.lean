/-
  The reference of files: Rename.
-/
import Derived.Test.YtafnbpkdenjipaaRQc
import Derived.Test.YtafnbpkdenjipaaRQd
import Derived.Test.YtafnbpkdenjipaaFWk
namespace Go.Proofs.Ytafnbpkdenjipaa.fl
open Go.RowKit Go.Proofs.Ytafnbpkdenjipaa.cm

/-- the cells of a list of one change -/
theorem two_news {B : Nat} {w : World} {g cap : Nat} {c : ChgP} (h : OwnC B w (.slice (some ⟨g, 0, none⟩) 1 cap) [c]) : ∀ j u, (ccs c)[j]? = some u → w.cell? ((⟨g, 0, none⟩ : Addr).add j) = some u := fun j u hu => by
  have hadd : (⟨g, 0, none⟩ : Addr).add j = ⟨g, j, none⟩ := by unfold Addr.add; split <;> simp_all
  have hj : j < 7 := (List.getElem?_eq_some_iff.1 hu).1
  rw [hadd, own_cell h rfl (by show j < 1 * 7; omega)]
  show (ccs c ++ [])[j]? = some u
  rw [List.append_nil]
  exact hu

set_option maxRecDepth 100000 in
set_option maxHeartbeats 8000000 in
theorem rRename_any (a : Option Addr) (cap : Nat) (F : FilP) (x : At) (s : ByteArray) (y : At) (t : ByteArray) (w : World) (hF : FilesAt w a F) (hO : OKF F) :
    Calls Try.prog 63 #[.agg #[.slice a F.length cap], .agg #[.int .i64 x.dev, .int .i64 x.ino], .string s, .agg #[.int .i64 y.dev, .int .i64 y.ino], .string t] w (EditR w.heap.size (renameF F x s y t) w) := by
  have hb1 : Below w.heap.size w (w.alloc (.cells #[.slice a F.length cap] 24)) := (Below.refl _ _).alloc (Nat.le_refl _) _
  have hb2 := hb1.alloc hb1.size (.cells #[.int .i64 x.dev, .int .i64 x.ino] 36)
  have hb2y := hb2.alloc hb2.size (.cells #[.int .i64 y.dev, .int .i64 y.ino] 36)
  have hb3 := hb2y.alloc hb2y.size (.cells #[.slice none 0 0] 24)
  obtain ⟨w3, hw3⟩ : ∃ w3, w3 = (((w.alloc (.cells #[.slice a F.length cap] 24)).alloc (.cells #[.int .i64 x.dev, .int .i64 x.ino] 36)).alloc (.cells #[.int .i64 y.dev, .int .i64 y.ino] 36)).alloc (.cells #[.slice none 0 0] 24) := ⟨_, rfl⟩
  have tF : TB 24 w3 w.heap.size [.slice a F.length cap] := by rw [hw3]; exact (((TB.new1 w [.slice a F.length cap] _ _ rfl).alloc _).alloc _).alloc _
  have tD : TB 36 w3 (w.heap.size + 1) [.int .i64 x.dev, .int .i64 x.ino] := by rw [hw3]; exact ((TB.new1 _ [.int .i64 x.dev, .int .i64 x.ino] _ _ (size_alloc _ _)).alloc _).alloc _
  have tY : TB 36 w3 (w.heap.size + 1 + 1) [.int .i64 y.dev, .int .i64 y.ino] := by rw [hw3]; exact (TB.new1 _ [.int .i64 y.dev, .int .i64 y.ino] _ _ (by rw [size_alloc, size_alloc])).alloc _
  have tG : TB 24 w3 (w.heap.size + 1 + 1 + 1) [.slice none 0 0] := by rw [hw3]; exact TB.new1 _ [.slice none 0 0] _ _ (by rw [size_alloc, size_alloc, size_alloc])
  rw [← hw3] at hb3
  have hFW : ∀ W, Below w3.heap.size w3 W → FilesAt W a F := fun W hb => hF.below (hb3.trans (hb.mono hb3.size))
  have CP1 := Lib.hid (fun W (hb : Below w3.heap.size w3 W) => rplace_any a cap F x s W (hFW W hb) hO.sml)
  have CP2 := Lib.hid (fun W (hb : Below w3.heap.size w3 W) => rplace_any a cap F y t W (hFW W hb) hO.sml)
  have HFW := Lib.hid hFW
  have HOK := Lib.hid hO
  have ERR : Hid (∀ (e : Int) W, Below w3.heap.size w3 W → EditR w.heap.size (errR e) w (.returned (.tuple #[.agg #[.slice none 0 0], .slice none 0 0, .int .i64 e])) (W.setCell ⟨w.heap.size + 1 + 1 + 1, 0, none⟩ (.slice none 0 0))) := Lib.hid (fun e W hb => EditR.out (r := errR e) hb3.size hb3 (OutF.nil _ _) (OwnC.nil _ _) hb (tG.stay hb) (by omega))
  have KEEP := Lib.hid (And.intro tF (And.intro tD (And.intro tY tG)))
  have KS : Hid (∀ W, Below w3.heap.size w3 W → W.cell? ⟨w.heap.size, 0, none⟩ = some (.slice a F.length cap) ∧ W.cell? ⟨w.heap.size + 1, 0, none⟩ = some (.int .i64 x.dev) ∧ W.cell? ⟨w.heap.size + 1, 1, none⟩ = some (.int .i64 x.ino) ∧ W.cell? ⟨w.heap.size + 1 + 1, 0, none⟩ = some (.int .i64 y.dev) ∧ W.cell? ⟨w.heap.size + 1 + 1, 1, none⟩ = some (.int .i64 y.ino)) := Lib.hid (fun W hb => ⟨(tF.stay hb).blk.c1.1, (tD.stay hb).blk.c2.1, (tD.stay hb).blk.c2.2.1, (tY.stay hb).blk.c2.1, (tY.stay hb).blk.c2.2.1⟩)
  obtain ⟨x0, -⟩ := tF.blk.c1
  obtain ⟨x1, x2, -⟩ := tD.blk.c2
  obtain ⟨y1, y2, -⟩ := tY.blk.c2
  have K4 := KS.out w3 (Below.refl _ _)
  have HB3 := Lib.hid hb3
  have HW := Lib.hid hw3
  have HLG : Hid (w.heap.size + 1 + 1 + 1 < w3.heap.size) := Lib.hid tG.lt
  obtain ⟨R, hR⟩ : ∃ R, R = renameF F x s y t := ⟨_, rfl⟩
  rw [← hR]
  obtain ⟨P1, hP1⟩ : ∃ P, P = placeF F x s := ⟨_, rfl⟩
  obtain ⟨P2, hP2⟩ : ∃ P, P = placeF F y t := ⟨_, rfl⟩
  have HE : Hid (∀ e, firstE P1 P2 [2, 20, 22] = some e → R = errR e) := Lib.hid (fun e he => by
    rw [hR]; unfold renameF; rw [hP1, hP2] at he; rw [he])
  have HN : Hid (firstE P1 P2 [2, 20, 22] = none → (placeF F x s = 0 ∧ placeF F y t = 0) ∧ R = if (lookF F x s).2 ≠ 0 then errR (lookF F x s).2 else
    if x.dev ≠ y.dev then errR 18 else
    if dirF F (lookF F x s).1 = true ∧ belowF F y (lookF F x s).1 = true then errR 22 else
    if (lookF F y t).2 = 0 ∧ (lookF F y t).1 = (lookF F x s).1 then ⟨F, [], 0⟩ else
    if (lookF F y t).2 = 0 then
      if dirF F (lookF F y t).1 = true ∧ dirF F (lookF F x s).1 = false then errR 21 else if dirF F (lookF F y t).1 = false ∧ dirF F (lookF F x s).1 = true then errR 20 else if dirF F (lookF F y t).1 = true ∧ emptyF F (lookF F y t).1 = false then errR 39 else
      ⟨onF F y.dev fun d => replD d x.ino s y.ino t (lookF F x s).1.ino (dirF F (lookF F x s).1) (lookF F y t).1.ino, [⟨x, s, (lookF F x s).1, zA⟩, ⟨y, t, (lookF F y t).1, (lookF F x s).1⟩], 0⟩
    else if fullF F y = true ∧ x ≠ y then errR 28 else
      ⟨onF F y.dev fun d => moveD d x.ino s y.ino t (lookF F x s).1.ino (dirF F (lookF F x s).1), [⟨x, s, (lookF F x s).1, zA⟩, ⟨y, t, (lookF F y t).1, (lookF F x s).1⟩], 0⟩) := Lib.hid (fun he => by
    rw [hP1, hP2] at he
    refine ⟨place_first he, ?_⟩
    rw [hR]; unfold renameF; rw [he])
  rw [← hP1] at CP1
  rw [← hP2] at CP2
  clear hw3 hb1 hb2 hb2y hb3 hF hO hFW tF tD tY tG hR hP1 hP2
  have hbd : Below w3.heap.size w3 w3.drew := (Below.refl _ _).drew
  go_enter Try.func63, Try.ntmps63
  go_wp2_with fail
  rw [← HW.out]
  go_region_held3 (fun (W : World) => W.cell? ⟨w.heap.size, 0, none⟩ = some (.slice a F.length cap) ∧ W.cell? ⟨w.heap.size + 1, 0, none⟩ = some (.int .i64 x.dev) ∧ W.cell? ⟨w.heap.size + 1, 1, none⟩ = some (.int .i64 x.ino) ∧ W.cell? ⟨w.heap.size + 1 + 1, 0, none⟩ = some (.int .i64 y.dev) ∧ W.cell? ⟨w.heap.size + 1 + 1, 1, none⟩ = some (.int .i64 y.ino))
    (first
      | (with_reducible exact K4)
      | (with_reducible exact K5)
      | (with_reducible exact K6)
      | go_keep)
    (first
      | (go_at_call 48; (with_reducible refine (CP1.out _ hbd).mono ?_); rintro e w4 ⟨rfl, hb4'⟩; have hb4 : Below w3.heap.size w3 w4 := hbd.trans hb4'; have K5 := KS.out w4 hb4)
      | (go_at_call 48; (with_reducible refine (CP2.out _ hb4).mono ?_); rintro e w5 ⟨rfl, hb5'⟩; have hb5 : Below w3.heap.size w3 w5 := hb4.trans (hb5'.mono hb4.size); have K6 := KS.out w5 hb5))
  clear K4 K5 K6 x0 x1 x2 y1 y2 hb4 hb4' hb5' CP1 CP2
  have hb6 := hb5.alloc hb5.size (.cells #[.int .i64 2, .int .i64 20, .int .i64 22] 46)
  obtain ⟨w6, hw6⟩ : ∃ w6, w6 = w5.alloc (.cells #[.int .i64 2, .int .i64 20, .int .i64 22] 46) := ⟨_, rfl⟩
  have tQ : TB 46 w6 w5.heap.size [.int .i64 2, .int .i64 20, .int .i64 22] := by rw [hw6]; exact TB.new1 w5 [.int .i64 2, .int .i64 20, .int .i64 22] _ _ rfl
  rw [← hw6] at hb6
  have HW6 := Lib.hid hw6
  have hs5 := hb5.size
  clear hw6
  go_upto_region 3 with fail
  rw [← HW6.out]
  have HQ := Lib.hid tQ
  have HB6 := Lib.hid hb6
  have hlG := HLG.out
  clear tQ hb6 hb5 HW6
  go_wp2_with fail
  go_loopw [16] (fun i wr => ∃ q : Nat, q ≤ 3 ∧ i = .int .i64 q ∧ Hid (firstE P1 P2 (([2, 20, 22] : List Int).drop q) = firstE P1 P2 [2, 20, 22]) ∧ wr = w6) (fun i _ => 3 - (intOf i).toNat)
  case atStart => exact ⟨0, by omega, rfl, Lib.hid rfl, rfl⟩
  case round =>
    obtain ⟨q, hq, rfl, HI, rfl⟩ := hrel
    rename World => w6
    by_cases hlt : q < 3
    · have hqq : (q : Int) < 3 := by omega
      obtain ⟨v, hv, c1⟩ : ∃ v : Int, ([2, 20, 22] : List Int).drop q = v :: ([2, 20, 22] : List Int).drop (q + 1) ∧ w6.cell? ⟨w5.heap.size, q, none⟩ = some (.int .i64 v) := by
        obtain ⟨c0, c1, c2, -⟩ := HQ.out.blk.c3
        match q, hlt with
        | 0, _ => exact ⟨2, rfl, c0⟩
        | 1, _ => exact ⟨20, rfl, c1⟩
        | 2, _ => exact ⟨22, rfl, c2⟩
      by_cases hm : P1 = v ∨ P2 = v
      · have HR : Hid (R = errR v) := Lib.hid (HE.out v (by rw [← HI.out, hv]; show (if _ then _ else _) = _; rw [if_pos hm]))
        have uG := KEEP.out.2.2.2.stay HB6.out
        obtain ⟨g0, gf⟩ := uG.blk.c1
        have n0 := (TB.blk (cs := [.slice none 0 0]) (uG.set 0 (.slice none 0 0))).c1.1
        have c2 : (w6.setCell ⟨w.heap.size + 1 + 1 + 1, 0, none⟩ (.slice none 0 0)).cell? ⟨w5.heap.size, q, none⟩ = some (.int .i64 v) := (World.cell?_of_block (a := ⟨w5.heap.size, q, none⟩) (Below.heap_setCell w6 ⟨w.heap.size + 1 + 1 + 1, 0, none⟩ _ w5.heap.size (by show w5.heap.size ≠ w.heap.size + 1 + 1 + 1; omega))).trans c1
        have HFN : Hid (EditR w.heap.size R w (.returned (.tuple #[.agg #[.slice none 0 0], .slice none 0 0, .int .i64 v])) (w6.setCell ⟨w.heap.size + 1 + 1 + 1, 0, none⟩ (.slice none 0 0)).drew) := Lib.hid (by rw [HR.out]; exact ERR.out v _ HB6.out.drew)
        clear uG HI hv HE HN HR HQ
        by_cases h1 : P1 = v
        · have e1 : (P1 == v) = true := by simpa using h1
          clear hm h1
          go_upto_region 7 with fail
          go_region_held3 (fun (W : World) => W.cell? ⟨w5.heap.size, q, none⟩ = some (.int .i64 v)) (first | (with_reducible exact c1) | (with_reducible exact c2) | go_keep) (fail)
          all_goals
            clear c1 c2
            go_wp2_with fail
            exact bodyPost_ret (v := .tuple #[.agg #[.slice none 0 0], .slice none 0 0, .int .i64 v]) (by simp [results, Try.f63, go_sem, n0]) rfl HFN.out
        · have e1 : (P1 == v) = false := by simpa using h1
          have e2 : (P2 == v) = true := by rcases hm with h | h; exact (h1 h).elim; simpa using h
          clear hm h1
          go_upto_region 7 with fail
          go_region_held3 (fun (W : World) => W.cell? ⟨w5.heap.size, q, none⟩ = some (.int .i64 v)) (first | (with_reducible exact c1) | (with_reducible exact c2) | go_keep) (fail)
          all_goals
            clear c1 c2
            go_wp2_with fail
            exact bodyPost_ret (v := .tuple #[.agg #[.slice none 0 0], .slice none 0 0, .int .i64 v]) (by simp [results, Try.f63, go_sem, n0]) rfl HFN.out
      · have e1 : (P1 == v) = false := by simpa using fun h => hm (.inl h)
        have e2 : (P2 == v) = false := by simpa using fun h => hm (.inr h)
        have HI2 : Hid (firstE P1 P2 (([2, 20, 22] : List Int).drop (q + 1)) = firstE P1 P2 [2, 20, 22]) := Lib.hid (by
          rw [← HI.out, hv]
          show _ = (if _ then _ else _)
          rw [if_neg hm])
        clear HI hv hm
        go_wp2_with fail
        exact ⟨⟨q + 1, by omega, by go_num, HI2, by first | rfl | trivial⟩, by simp [intOf]; omega⟩
    · have hqq : ¬ (q : Int) < 3 := by omega
      obtain rfl : q = 3 := by omega
      obtain ⟨⟨c1, c2⟩, hR⟩ := HN.out HI.out.symm
      have HC1 := Lib.hid c1
      have HC2 := Lib.hid c2
      have HR := Lib.hid hR
      have hb6 := HB6.out
      have CL1 := Lib.hid (fun W (hb : Below w3.heap.size w3 W) => rLook_any a cap F x s W (HFW.out W hb) HOK.out.sml)
      have CL2 := Lib.hid (fun W (hb : Below w3.heap.size w3 W) => rLook_any a cap F y t W (HFW.out W hb) HOK.out.sml)
      have HRP := Lib.hid (fun c3 c4 => ren_parts (x := x) (s := s) (y := y) (t := t) HOK.out c1 c2 c3 c4)
      have HRF := Lib.hid (fun hP => ren_free (F := F) (x := x) (s := s) (y := y) (t := t) hP)
      have HRR := Lib.hid (fun hP c6 => ren_repl (F := F) (x := x) (s := s) (y := y) (t := t) HOK.out hP c2 c6)
      have HLD : Hid ((lookF F y t).2 ≠ 0 → (lookF F y t).1 = zA) := Lib.hid (fun h => by
        rw [(at_look c2).2]
        rw [(at_look c2).1] at h
        cases hz : atF F y t with
        | none => rfl
        | some i => rw [hz] at h; exact (h rfl).elim)
      clear HI HE HN hR c1 c2 HQ hlt hqq
      generalize lookF F x s = r at *
      obtain ⟨⟨ad, ai⟩, ae⟩ := r
      generalize lookF F y t = r2 at *
      obtain ⟨⟨od, oi⟩, oe⟩ := r2
      dsimp only at HRP HRF HRR HR HLD
      obtain ⟨x0, -⟩ := (KEEP.out.1.stay hb6).blk.c1
      obtain ⟨x1, x2, -⟩ := (KEEP.out.2.1.stay hb6).blk.c2
      go_wp2_with fail
      refine (CL1.out w6 hb6).mono ?_
      rintro e w65 ⟨h5, hb65'⟩
      obtain rfl : e = .returned (.tuple #[.agg #[.int .i64 ad, .int .i64 ai], .int .i64 ae]) := h5
      have hb65 : Below w3.heap.size w3 w65 := hb6.trans (hb65'.mono hb6.size)
      have hb7 := hb65.alloc hb65.size (.cells #[.int .i64 ad, .int .i64 ai] 36)
      clear x0 x1 x2 hb65' CL1
      by_cases c3 : ae = 0
      · subst c3
        have HR1 := Lib.hid (HR.out.trans (if_neg (fun h => h rfl)))
        clear HR
        obtain ⟨w7, hw7⟩ : ∃ w7, w7 = w65.alloc (.cells #[.int .i64 ad, .int .i64 ai] 36) := ⟨_, rfl⟩
        have tA : TB 36 w7 w65.heap.size [.int .i64 ad, .int .i64 ai] := by rw [hw7]; exact TB.new1 w65 [.int .i64 ad, .int .i64 ai] _ _ rfl
        have hs65 := hb65.size
        rw [← hw7] at hb7
        have HW7 := Lib.hid hw7
        clear hw7 hb65
        obtain ⟨x0, -⟩ := (KEEP.out.1.stay hb7).blk.c1
        obtain ⟨x1, x2, -⟩ := (KEEP.out.2.1.stay hb7).blk.c2
        obtain ⟨y1, y2, -⟩ := (KEEP.out.2.2.1.stay hb7).blk.c2
        obtain ⟨a1, a2, -⟩ := tA.blk.c2
        go_upto_region 11 with fail
        rw [← HW7.out]
        clear HW7
        by_cases c4 : x.dev = y.dev
        · have e1 : (x.dev != y.dev) = false := by simpa using c4
          have HR2 := Lib.hid (HR1.out.trans (if_neg (fun h => h c4)))
          have HP := Lib.hid (HRP.out (by first | rfl | trivial) c4)
          have CD := Lib.hid (fun W (hb : Below w3.heap.size w3 W) => rDir_any a cap F ⟨ad, ai⟩ W (HFW.out W hb) HOK.out.sml)
          have CB := Lib.hid (fun W (hb : Below w3.heap.size w3 W) => rbelow_any a cap F y ⟨ad, ai⟩ W (HFW.out W hb) HOK.out.sml)
          have HRF2 := Lib.hid (HRF.out HP.out)
          have HRR2 := Lib.hid (HRR.out HP.out)
          clear HR1 HRP c4 HRF HRR
          generalize dirF F ⟨ad, ai⟩ = bd at *
          generalize belowF F y ⟨ad, ai⟩ = bw at *
          go_wp2_with fail
          refine (CD.out w7 hb7).mono ?_
          rintro e w8 ⟨rfl, hb8'⟩
          have hb8 : Below w3.heap.size w3 w8 := hb7.trans (hb8'.mono hb7.size)
          replace tA := tA.stay hb8'
          clear x0 x1 x2 y1 y2 a1 a2 CD hb7 hb8'
          go_upto_region 14 with fail
          obtain ⟨D14, hD14⟩ : ∃ D, (bd && bw) = D := ⟨_, rfl⟩
          have HD14 := Lib.hid hD14
          clear hD14
          go_cut [83] (fun c W => c = .bool D14 ∧ Below w8.heap.size w8 W)
          case first =>
            cases bd with
            | true =>
              obtain ⟨x0, -⟩ := (KEEP.out.1.stay hb8).blk.c1
              obtain ⟨y1, y2, -⟩ := (KEEP.out.2.2.1.stay hb8).blk.c2
              obtain ⟨a1, a2, -⟩ := tA.blk.c2
              go_wp2_with fail
              refine (CB.out w8 hb8).mono ?_
              rintro e w9 ⟨rfl, hb9⟩
              go_wp2_with fail
              go_meet
              exact ⟨congrArg Value.bool HD14.out, hb9⟩
            | false =>
              go_wp2_with fail
              go_meet
              exact ⟨congrArg Value.bool HD14.out, Below.refl _ _⟩
          case rest =>
            rename World => w9
            obtain ⟨rfl, hb9'⟩ := hcut
            have hb9 : Below w3.heap.size w3 w9 := hb8.trans (hb9'.mono hb8.size)
            replace tA := tA.stay hb9'
            clear hb8 hb9' CB
            cases D14 with
            | true =>
              have HR3 := Lib.hid (HR2.out.trans (if_pos (by have := HD14.out; rwa [Bool.and_eq_true] at this)))
              clear HR2 HRF2 HRR2 CL2
              have uG := KEEP.out.2.2.2.stay hb9
              obtain ⟨g0, gf⟩ := uG.blk.c1
              have n0 := (TB.blk (cs := [.slice none 0 0]) (uG.set 0 (.slice none 0 0))).c1.1
              have HFN : Hid (EditR w.heap.size R w (.returned (.tuple #[.agg #[.slice none 0 0], .slice none 0 0, .int .i64 22])) ((w9).setCell ⟨w.heap.size + 1 + 1 + 1, 0, none⟩ (.slice none 0 0))) := Lib.hid (by rw [show R = errR 22 from HR3.out]; exact ERR.out 22 _ hb9)
              clear uG
              go_wp2_with fail
              exact bodyPost_ret (v := .tuple #[.agg #[.slice none 0 0], .slice none 0 0, .int .i64 22]) (by simp [results, Try.f63, go_sem, n0]) rfl HFN.out
            | false =>
              have HR3 := Lib.hid (HR2.out.trans (if_neg (by have := HD14.out; intro h; rw [h.1, h.2] at this; cases this)))
              clear HR2
              obtain ⟨x0, -⟩ := (KEEP.out.1.stay hb9).blk.c1
              obtain ⟨y1, y2, -⟩ := (KEEP.out.2.2.1.stay hb9).blk.c2
              go_wp2_with fail
              refine (CL2.out w9 hb9).mono ?_
              rintro e w10 ⟨h5, hb10'⟩
              obtain rfl : e = .returned (.tuple #[.agg #[.int .i64 od, .int .i64 oi], .int .i64 oe]) := h5
              have hb10 : Below w3.heap.size w3 w10 := hb9.trans (hb10'.mono hb9.size)
              have hb11 := hb10.alloc hb10.size (.cells #[.int .i64 od, .int .i64 oi] 36)
              obtain ⟨w11, hw11⟩ : ∃ w11, w11 = w10.alloc (.cells #[.int .i64 od, .int .i64 oi] 36) := ⟨_, rfl⟩
              have tB : TB 36 w11 w10.heap.size [.int .i64 od, .int .i64 oi] := by rw [hw11]; exact TB.new1 w10 [.int .i64 od, .int .i64 oi] _ _ rfl
              have hx11 : Below w10.heap.size w10 w11 := by rw [hw11]; exact (Below.refl _ _).alloc (Nat.le_refl _) _
              replace tA := (tA.stay hb10').stay hx11
              have hs10 := hb10.size
              rw [← hw11] at hb11
              have HW11 := Lib.hid hw11
              clear hw11 hb10 hb10' hx11 hb9 x0 y1 y2 CL2
              obtain ⟨a1, a2, -⟩ := tA.blk.c2
              obtain ⟨b1, b2, -⟩ := tB.blk.c2
              go_upto_region 17 with fail
              rw [← HW11.out]
              clear HW11
              obtain ⟨D17, hD17⟩ : ∃ D, decide (oe = 0 ∧ (⟨od, oi⟩ : At) = ⟨ad, ai⟩) = D := ⟨_, rfl⟩
              have HD17 := Lib.hid hD17
              clear hD17
              go_cut [98] (fun c W => c = .bool D17 ∧ W = w11)
              case first =>
                have HSA := Lib.hid (sameA_dec ⟨od, oi⟩ ⟨ad, ai⟩)
                have NF := fun W => eq_file od oi ad ai W
                by_cases c6 : oe = 0
                · have e1 : (oe == 0) = true := by simpa using c6
                  have HX : Hid ((od == ad && oi == ai) = decide (oe = 0 ∧ (⟨od, oi⟩ : At) = ⟨ad, ai⟩)) := Lib.hid (by
                    rw [show decide (oe = 0 ∧ (⟨od, oi⟩ : At) = ⟨ad, ai⟩) = decide ((⟨od, oi⟩ : At) = ⟨ad, ai⟩) by simp [c6], ← HSA.out]
                    rfl)
                  clear c6 HSA
                  go_wp2_with fail
                  go_meet
                  exact ⟨congrArg Value.bool (HX.out.trans HD17.out), rfl⟩
                · have e1 : (oe == 0) = false := by simpa using c6
                  have HX : Hid (false = decide (oe = 0 ∧ (⟨od, oi⟩ : At) = ⟨ad, ai⟩)) := Lib.hid (by simp [c6])
                  clear c6 HSA
                  go_wp2_with fail
                  go_meet
                  exact ⟨congrArg Value.bool (HX.out.trans HD17.out), rfl⟩
              case rest =>
                obtain ⟨rfl, rfl⟩ := hcut
                rename World => w11
                cases D17 with
                | true =>
                  have HR4 := Lib.hid (HR3.out.trans (if_pos (of_decide_eq_true HD17.out)))
                  have CC := Lib.hid (rCopy_any a cap F w11 (HFW.out w11 hb11) HOK.out.sml)
                  clear HR3 HRF2 HRR2 HLD HP
                  obtain ⟨x0, -⟩ := (KEEP.out.1.stay hb11).blk.c1
                  go_wp2_with fail
                  refine CC.out.mono ?_
                  rintro e w12 ⟨v, rfl, ho12, hb12'⟩
                  obtain ⟨fa, fc, rfl⟩ : ∃ fa fc, v = .slice fa F.length fc := by
                    obtain ⟨a, c, h, -⟩ := ho12.at_
                    exact ⟨a, c, h⟩
                  have hb12 : Below w3.heap.size w3 w12 := hb11.trans (hb12'.mono hb11.size)
                  have uG := KEEP.out.2.2.2.stay hb12
                  obtain ⟨g0, gf⟩ := uG.blk.c1
                  have n0 := (TB.blk (cs := [.slice fa F.length fc]) (uG.set 0 (.slice fa F.length fc))).c1.1
                  have HFN : Hid (EditR w.heap.size R w (.returned (.tuple #[.agg #[.slice fa F.length fc], .slice none 0 0, .int .i64 0])) (w12.setCell ⟨w.heap.size + 1 + 1 + 1, 0, none⟩ (.slice fa F.length fc))) := Lib.hid (by
                    rw [HR4.out]
                    exact EditR.own (r := ⟨F, [], 0⟩) (Nat.le_trans HB3.out.size hb11.size) (Nat.le_refl _) (HB3.out.trans (hb12.mono HB3.out.size)) ho12 (OwnC.nil _ _) uG (by omega))
                  clear uG hb12 hb12' ho12 CC x0
                  go_wp2_with fail
                  exact bodyPost_ret (v := .tuple #[.agg #[.slice fa F.length fc], .slice none 0 0, .int .i64 0]) (by simp [results, Try.f63, go_sem, n0]) rfl HFN.out
                | false =>
                  have HC6 := Lib.hid (of_decide_eq_false HD17.out)
                  have HR4 := Lib.hid (HR3.out.trans (if_neg HC6.out))
                  clear HR3
                  have CF := Lib.hid (fun W (hb : Below w3.heap.size w3 W) => rfull_any a cap F y W (HFW.out W hb) HOK.out.sml)
                  have CD := Lib.hid (fun W (hb : Below w3.heap.size w3 W) => rDir_any a cap F ⟨od, oi⟩ W (HFW.out W hb) HOK.out.sml)
                  have CM := Lib.hid (fun W (hb : Below w3.heap.size w3 W) => rEmpty_any a cap F ⟨od, oi⟩ W (HFW.out W hb) HOK.out.sml)
                  generalize fullF F y = fl at *
                  generalize dirF F ⟨od, oi⟩ = bo at *
                  generalize emptyF F ⟨od, oi⟩ = be at *
                  go_upto_if 102 with fail
                  go_cut [] (fun W => Below w11.heap.size w11 W ∧ Hid (R = ⟨renP (if oe = 0 then dropF1 (renG F x s y t ⟨ad, ai⟩) ⟨y, t, ⟨od, oi⟩, ⟨ad, ai⟩⟩ else renG F x s y t ⟨ad, ai⟩) ⟨ad, ai⟩ y.ino bd, [⟨x, s, ⟨ad, ai⟩, zA⟩, ⟨y, t, ⟨od, oi⟩, ⟨ad, ai⟩⟩], 0⟩))
                  case first =>
                    by_cases c7 : oe = 0
                    · have e3 : (oe == 0) = true := by simpa using c7
                      have HR5 := Lib.hid (HR4.out.trans (if_pos c7))
                      have HRX : Hid (bo = true ∧ be = true ∧ bd = true ∨ bo = false ∧ bd = false → R = ⟨renP (if oe = 0 then dropF1 (renG F x s y t ⟨ad, ai⟩) ⟨y, t, ⟨od, oi⟩, ⟨ad, ai⟩⟩ else renG F x s y t ⟨ad, ai⟩) ⟨ad, ai⟩ y.ino bd, [⟨x, s, ⟨ad, ai⟩, zA⟩, ⟨y, t, ⟨od, oi⟩, ⟨ad, ai⟩⟩], 0⟩) := Lib.hid (fun h => by
                        rw [if_pos c7, ← (HRR2.out c7).2, HR5.out]
                        rcases h with ⟨rfl, rfl, rfl⟩ | ⟨rfl, rfl⟩ <;> rfl)
                      have H21 : Hid (bo = true → bd = false → R = errR 21) := Lib.hid (fun h1 h2 => by rw [HR5.out, if_pos ⟨h1, h2⟩])
                      have H20 : Hid (bo = false → bd = true → R = errR 20) := Lib.hid (fun h1 h2 => by rw [HR5.out, if_neg (by rw [h1]; simp), if_pos ⟨h1, h2⟩])
                      have H39 : Hid (bo = true → bd = true → be = false → R = errR 39) := Lib.hid (fun h1 h2 h3 => by rw [HR5.out, if_neg (by rw [h2]; simp), if_neg (by rw [h1]; simp), if_pos ⟨h1, h3⟩])
                      clear c7 HR4 HR5 HRR2 HRF2 HLD CF a1 a2
                      obtain ⟨x0, -⟩ := (KEEP.out.1.stay hb11).blk.c1
                      go_wp2_with fail
                      refine (CD.out w11 hb11).mono ?_
                      rintro e w12 ⟨rfl, hb12'⟩
                      have hb12 : Below w3.heap.size w3 w12 := hb11.trans (hb12'.mono hb11.size)
                      have tB12 := tB.stay hb12'
                      clear x0 b1 b2 CD
                      cases bo with
                      | true =>
                        cases bd with
                        | false =>
                          have uG := KEEP.out.2.2.2.stay hb12
                          obtain ⟨g0, gf⟩ := uG.blk.c1
                          have n0 := (TB.blk (cs := [.slice none 0 0]) (uG.set 0 (.slice none 0 0))).c1.1
                          have HFN : Hid (EditR w.heap.size R w (.returned (.tuple #[.agg #[.slice none 0 0], .slice none 0 0, .int .i64 21])) ((w12).setCell ⟨w.heap.size + 1 + 1 + 1, 0, none⟩ (.slice none 0 0))) := Lib.hid (by rw [show R = errR 21 from H21.out (by first | rfl | trivial) (by first | rfl | trivial)]; exact ERR.out 21 _ hb12)
                          clear uG
                          go_wp2_with fail
                          exact bodyPost_ret (v := .tuple #[.agg #[.slice none 0 0], .slice none 0 0, .int .i64 21]) (by simp [results, Try.f63, go_sem, n0]) rfl HFN.out
                        | true =>
                          obtain ⟨x0, -⟩ := (KEEP.out.1.stay hb12).blk.c1
                          obtain ⟨b1, b2, -⟩ := tB12.blk.c2
                          go_wp2_with fail
                          refine (CM.out w12 hb12).mono ?_
                          rintro e w13 ⟨rfl, hb13'⟩
                          have hb13 : Below w3.heap.size w3 w13 := hb12.trans (hb13'.mono hb12.size)
                          have hb113 : Below w11.heap.size w11 w13 := hb12'.trans (hb13'.mono hb12'.size)
                          clear x0 b1 b2 CM
                          cases be with
                          | false =>
                            have uG := KEEP.out.2.2.2.stay hb13
                            obtain ⟨g0, gf⟩ := uG.blk.c1
                            have n0 := (TB.blk (cs := [.slice none 0 0]) (uG.set 0 (.slice none 0 0))).c1.1
                            have HFN : Hid (EditR w.heap.size R w (.returned (.tuple #[.agg #[.slice none 0 0], .slice none 0 0, .int .i64 39])) ((w13).setCell ⟨w.heap.size + 1 + 1 + 1, 0, none⟩ (.slice none 0 0))) := Lib.hid (by rw [show R = errR 39 from H39.out (by first | rfl | trivial) (by first | rfl | trivial) (by first | rfl | trivial)]; exact ERR.out 39 _ hb13)
                            clear uG
                            go_wp2_with fail
                            exact bodyPost_ret (v := .tuple #[.agg #[.slice none 0 0], .slice none 0 0, .int .i64 39]) (by simp [results, Try.f63, go_sem, n0]) rfl HFN.out
                          | true =>
                            go_wp2_with fail
                            go_meet
                            exact ⟨hb113, Lib.hid (HRX.out (.inl ⟨(by first | rfl | trivial), (by first | rfl | trivial), (by first | rfl | trivial)⟩))⟩
                      | false =>
                        cases bd with
                        | true =>
                          have uG := KEEP.out.2.2.2.stay hb12
                          obtain ⟨g0, gf⟩ := uG.blk.c1
                          have n0 := (TB.blk (cs := [.slice none 0 0]) (uG.set 0 (.slice none 0 0))).c1.1
                          have HFN : Hid (EditR w.heap.size R w (.returned (.tuple #[.agg #[.slice none 0 0], .slice none 0 0, .int .i64 20])) ((w12).setCell ⟨w.heap.size + 1 + 1 + 1, 0, none⟩ (.slice none 0 0))) := Lib.hid (by rw [show R = errR 20 from H20.out (by first | rfl | trivial) (by first | rfl | trivial)]; exact ERR.out 20 _ hb12)
                          clear uG
                          go_wp2_with fail
                          exact bodyPost_ret (v := .tuple #[.agg #[.slice none 0 0], .slice none 0 0, .int .i64 20]) (by simp [results, Try.f63, go_sem, n0]) rfl HFN.out
                        | false =>
                          go_wp2_with fail
                          go_meet
                          exact ⟨hb12', Lib.hid (HRX.out (.inr ⟨(by first | rfl | trivial), (by first | rfl | trivial)⟩))⟩
                    · have e3 : (oe == 0) = false := by simpa using c7
                      have HR5 := Lib.hid (HR4.out.trans (if_neg c7))
                      have HRX : Hid (¬ (fl = true ∧ x ≠ y) → R = ⟨renP (if oe = 0 then dropF1 (renG F x s y t ⟨ad, ai⟩) ⟨y, t, ⟨od, oi⟩, ⟨ad, ai⟩⟩ else renG F x s y t ⟨ad, ai⟩) ⟨ad, ai⟩ y.ino bd, [⟨x, s, ⟨ad, ai⟩, zA⟩, ⟨y, t, ⟨od, oi⟩, ⟨ad, ai⟩⟩], 0⟩) := Lib.hid (fun h => by
                        rw [if_neg c7, HR5.out, if_neg h, HRF2.out])
                      clear c7 HR4 HRR2 HRF2 HLD a1 a2 b1 b2
                      obtain ⟨x0, -⟩ := (KEEP.out.1.stay hb11).blk.c1
                      obtain ⟨y1, y2, -⟩ := (KEEP.out.2.2.1.stay hb11).blk.c2
                      go_wp2_with fail
                      refine (CF.out w11 hb11).mono ?_
                      rintro e w12 ⟨rfl, hb12'⟩
                      have hb12 : Below w3.heap.size w3 w12 := hb11.trans (hb12'.mono hb11.size)
                      clear x0 y1 y2 CF
                      cases fl with
                      | false =>
                        go_wp2_with fail
                        go_meet
                        exact ⟨hb12', Lib.hid (HRX.out (by simp))⟩
                      | true =>
                        have NF := fun W => neq_file x.dev x.ino y.dev y.ino W
                        have e5 : (x.dev == y.dev) = true := by simpa using HP.out.dev
                        obtain ⟨x1, x2, -⟩ := (KEEP.out.2.1.stay hb12).blk.c2
                        obtain ⟨y1, y2, -⟩ := (KEEP.out.2.2.1.stay hb12).blk.c2
                        by_cases cxy : x = y
                        · have e6 : (x.ino == y.ino) = true := by rw [cxy]; simp
                          have HX2 := Lib.hid (HRX.out (fun h => h.2 cxy))
                          clear cxy HRX HR5
                          go_wp2_with fail
                          go_meet
                          exact ⟨hb12', HX2⟩
                        · have e6 : (x.ino == y.ino) = false := by
                            refine beq_eq_false_iff_ne.2 (fun h => cxy (At.ext' HP.out.dev h))
                          have HX2 := Lib.hid (HR5.out.trans (if_pos ⟨rfl, cxy⟩))
                          clear cxy HRX HR5
                          have uG := KEEP.out.2.2.2.stay hb12
                          obtain ⟨g0, gf⟩ := uG.blk.c1
                          have n0 := (TB.blk (cs := [.slice none 0 0]) (uG.set 0 (.slice none 0 0))).c1.1
                          have HFN : Hid (EditR w.heap.size R w (.returned (.tuple #[.agg #[.slice none 0 0], .slice none 0 0, .int .i64 28])) ((w12).setCell ⟨w.heap.size + 1 + 1 + 1, 0, none⟩ (.slice none 0 0))) := Lib.hid (by rw [show R = errR 28 from HX2.out]; exact ERR.out 28 _ hb12)
                          clear uG
                          go_wp2_with fail
                          exact bodyPost_ret (v := .tuple #[.agg #[.slice none 0 0], .slice none 0 0, .int .i64 28]) (by simp [results, Try.f63, go_sem, n0]) rfl HFN.out
                  case rest =>
                    obtain ⟨hb12', HRX⟩ := hcut
                    rename World => w12
                    have hb12 : Below w3.heap.size w3 w12 := hb11.trans (hb12'.mono hb11.size)
                    have tA12 := tA.stay hb12'
                    have tB12 := tB.stay hb12'
                    have CC := Lib.hid (rCopy_any a cap F w12 (HFW.out w12 hb12) HOK.out.sml)
                    have HON : Hid (oe = 0 → (∃ n, nodeF F ⟨od, oi⟩ = some n) ∧ (⟨od, oi⟩ : At) ≠ ⟨ad, ai⟩) := Lib.hid (fun h => ⟨(HRR2.out h).1, fun e => HC6.out ⟨h, e⟩⟩)
                    clear HR4 HRR2 HRF2 HLD CF CD CM a1 a2 b1 b2 tA tB hb12' hb11 HC6
                    obtain ⟨x0, -⟩ := (KEEP.out.1.stay hb12).blk.c1
                    go_wp2_with fail
                    refine CC.out.mono ?_
                    rintro e w13 ⟨v, rfl, ho13, hb13'⟩
                    obtain ⟨fa, fc, rfl⟩ : ∃ fa fc, v = .slice fa F.length fc := by
                      obtain ⟨a, c, h, -⟩ := ho13.at_
                      exact ⟨a, c, h⟩
                    have hb13 : Below w3.heap.size w3 w13 := hb12.trans (hb13'.mono hb12.size)
                    have hs13 := hb13.size
                    have hb14 := hb13.alloc hb13.size (.cells #[.slice fa F.length fc] 24)
                    have hbx : Below w13.heap.size w13 (w13.alloc (.cells #[.slice fa F.length fc] 24)) := (Below.refl w13.heap.size w13).alloc (Nat.le_refl _) _
                    have tO := TB.new1 w13 [.slice fa F.length fc] 24 w13.heap.size rfl
                    have ho14 := ho13.stay hbx
                    have tA14 := (tA12.stay hb13').stay hbx
                    have tB14 := (tB12.stay hb13').stay hbx
                    have hs14 : w12.heap.size ≤ (w13.alloc (.cells #[.slice fa F.length fc] 24)).heap.size := by rw [size_alloc]; have := hb13'.size; omega
                    obtain ⟨w14, hw14⟩ : ∃ w14, w14 = w13.alloc (.cells #[.slice fa F.length fc] 24) := ⟨_, rfl⟩
                    replace tO : TB 24 w14 w13.heap.size [.slice fa F.length fc] := by rw [hw14]; exact tO
                    rw [← hw14] at hb14 ho14 tA14 tB14 hs14
                    have HW14 := Lib.hid hw14
                    clear hw14 x0 CC ho13 hb13' hb13 tA12 tB12 hbx
                    have tX14 := KEEP.out.2.1.stay hb14
                    have tY14 := KEEP.out.2.2.1.stay hb14
                    have tG14 := KEEP.out.2.2.2.stay hb14
                    have CE1 : Hid (Calls Try.prog 52 #[.agg #[.slice fa F.length fc], .agg #[.int .i64 x.dev, .int .i64 x.ino], .string s, .int .i64 0] w14 (GoR w12.heap.size w14 (.slice fa F.length fc) (pointF F x s zA))) := Lib.hid (by
                      obtain ⟨n, hn⟩ := HP.out.hx
                      exact renter_F w12.heap.size fa fc F x s zA w14 ho14 HOK.out.sml HOK.out.asc HOK.out.srt HOK.out.low hn hs14 ⟨fun _ => rfl, fun _ => rfl⟩)
                    obtain ⟨x1, x2, -⟩ := tX14.blk.c2
                    obtain ⟨o0, -⟩ := tO.blk.c1
                    clear ho14
                    go_upto_region 30 with fail
                    rw [← HW14.out]
                    go_wp2_with fail
                    refine CE1.out.mono ?_
                    rintro e w15 ⟨rfl, hb15', ho15, hk15⟩
                    have hb15 : Below w3.heap.size w3 w15 := hb14.trans (hb15'.mono hb12.size)
                    have hs15 := Nat.le_trans hs14 hb15'.size
                    have tX15 := hk15 _ _ _ (by decide) (by decide) tX14
                    have tY15 := hk15 _ _ _ (by decide) (by decide) tY14
                    have tG15 := hk15 _ _ _ (by decide) (by decide) tG14
                    have tA15 := hk15 _ _ _ (by decide) (by decide) tA14
                    have tB15 := hk15 _ _ _ (by decide) (by decide) tB14
                    have tO15 := hk15 _ _ _ (by decide) (by decide) tO
                    have HAI : Hid ((⟨ad, ai⟩ : At) = zA ↔ ai = 0) := Lib.hid (by
                      obtain ⟨n, hn⟩ := HP.out.ha
                      obtain ⟨d, hd, hnd⟩ := nodeF_of hn
                      have h1 := (HOK.out.dev hd).pre.low n (mem_of hnd)
                      have h2 := ino_of hnd
                      exact ⟨fun h => by injection h, fun h => by have h2 : n.ino = ai := h2; omega⟩)
                    have CE2 : Hid (Calls Try.prog 52 #[.agg #[.slice fa F.length fc], .agg #[.int .i64 y.dev, .int .i64 y.ino], .string t, .int .i64 ai] w15 (GoR w12.heap.size w15 (.slice fa F.length fc) (renG F x s y t ⟨ad, ai⟩))) := Lib.hid (by
                      obtain ⟨n, hn⟩ := HP.out.hy2
                      have h1 := renter_F w12.heap.size fa fc (pointF F x s zA) y t ⟨ad, ai⟩ w15 (by rw [pointF_len]; exact ho15) (HOK.out.sml.point HOK.out.low x s zA) (HOK.out.asc.point x s zA) (HOK.out.srt.rem x s) (HOK.out.low.rem x s) hn hs15 HAI.out
                      rw [pointF_len] at h1
                      exact h1)
                    clear x1 x2 o0 tX14 tY14 tG14 tA14 tB14 tO hk15 hb14 hb15' ho15 CE1 hs14
                    obtain ⟨y1, y2, -⟩ := tY15.blk.c2
                    obtain ⟨a1, a2, -⟩ := tA15.blk.c2
                    obtain ⟨o0, -⟩ := tO15.blk.c1
                    go_wp2_with fail
                    refine CE2.out.mono ?_
                    rintro e w16 ⟨rfl, hb16', ho16, hk16⟩
                    have hb16 : Below w3.heap.size w3 w16 := hb15.trans (hb16'.mono hb12.size)
                    have hs16 := Nat.le_trans hs15 hb16'.size
                    have tX16 := hk16 _ _ _ (by decide) (by decide) tX15
                    have tY16 := hk16 _ _ _ (by decide) (by decide) tY15
                    have tG16 := hk16 _ _ _ (by decide) (by decide) tG15
                    have tA16 := hk16 _ _ _ (by decide) (by decide) tA15
                    have tB16 := hk16 _ _ _ (by decide) (by decide) tB15
                    have tO16 := hk16 _ _ _ (by decide) (by decide) tO15
                    clear y1 y2 a1 a2 o0 tX15 tY15 tG15 tA15 tB15 tO15 hk16 hb15 hb16' CE2 hs15
                    have HSM1 : Hid (Sml (renG F x s y t ⟨ad, ai⟩) ∧ AscF (renG F x s y t ⟨ad, ai⟩) ∧ (renG F x s y t ⟨ad, ai⟩).length = F.length) := Lib.hid
                      ⟨(HOK.out.sml.point HOK.out.low x s zA).point (HOK.out.low.rem x s) y t ⟨ad, ai⟩, (HOK.out.asc.point x s zA).point y t ⟨ad, ai⟩, (pointF_len _ _ _ _).trans (pointF_len _ _ _ _)⟩
                    have HSM : Hid (Sml (if oe = 0 then dropF1 (renG F x s y t ⟨ad, ai⟩) ⟨y, t, ⟨od, oi⟩, ⟨ad, ai⟩⟩ else renG F x s y t ⟨ad, ai⟩) ∧ AscF (if oe = 0 then dropF1 (renG F x s y t ⟨ad, ai⟩) ⟨y, t, ⟨od, oi⟩, ⟨ad, ai⟩⟩ else renG F x s y t ⟨ad, ai⟩) ∧ ((if oe = 0 then dropF1 (renG F x s y t ⟨ad, ai⟩) ⟨y, t, ⟨od, oi⟩, ⟨ad, ai⟩⟩ else renG F x s y t ⟨ad, ai⟩)).length = F.length ∧ ∃ n, nodeF (if oe = 0 then dropF1 (renG F x s y t ⟨ad, ai⟩) ⟨y, t, ⟨od, oi⟩, ⟨ad, ai⟩⟩ else renG F x s y t ⟨ad, ai⟩) ⟨ad, ai⟩ = some n) := Lib.hid (by
                      have hg := ren_node HP.out HP.out.ha
                      split
                      · rename_i h
                        exact ⟨HSM1.out.1.drop1 _, HSM1.out.2.1.drop1 _, (dropF1_len _ _).trans HSM1.out.2.2, drop_some hg (fun e => (HON.out h).2 e.symm)⟩
                      · exact ⟨HSM1.out.1, HSM1.out.2.1, HSM1.out.2.2, hg⟩)
                    go_upto_if 148 with fail
                    go_cut [] (fun W => Below w12.heap.size w16 W ∧ OutF w12.heap.size W (.slice fa F.length fc) (if oe = 0 then dropF1 (renG F x s y t ⟨ad, ai⟩) ⟨y, t, ⟨od, oi⟩, ⟨ad, ai⟩⟩ else renG F x s y t ⟨ad, ai⟩) ∧ TB 24 W w13.heap.size [.slice fa F.length fc] ∧ TB 36 W (w.heap.size + 1) [.int .i64 x.dev, .int .i64 x.ino] ∧ TB 36 W (w.heap.size + 1 + 1) [.int .i64 y.dev, .int .i64 y.ino] ∧ TB 36 W w65.heap.size [.int .i64 ad, .int .i64 ai] ∧ TB 36 W w10.heap.size [.int .i64 od, .int .i64 oi] ∧ TB 24 W (w.heap.size + 1 + 1 + 1) [.slice none 0 0])
                    case first =>
                      by_cases c7 : oe = 0
                      · have e3 : (oe == 0) = true := by simpa using c7
                        have CR : Hid (Calls Try.prog 79 #[.agg #[.slice fa F.length fc], .agg #[.int .i64 od, .int .i64 oi]] w16 (GoR w12.heap.size w16 (.slice fa F.length fc) (if oe = 0 then dropF1 (renG F x s y t ⟨ad, ai⟩) ⟨y, t, ⟨od, oi⟩, ⟨ad, ai⟩⟩ else renG F x s y t ⟨ad, ai⟩))) := Lib.hid (by
                          rw [if_pos c7]
                          obtain ⟨n, hn⟩ := ren_node HP.out (HON.out c7).1
                          have h1 := rdrop_F w12.heap.size fa fc (renG F x s y t ⟨ad, ai⟩) ⟨y, t, ⟨od, oi⟩, ⟨ad, ai⟩⟩ w16 (by rw [HSM1.out.2.2]; exact ho16) HSM1.out.1 HSM1.out.2.1 hn hs16
                          rw [HSM1.out.2.2] at h1
                          exact h1)
                        clear c7 ho16
                        obtain ⟨b1, b2, -⟩ := tB16.blk.c2
                        obtain ⟨o0, -⟩ := tO16.blk.c1
                        go_wp2_with fail
                        refine CR.out.mono ?_
                        rintro e w17 ⟨rfl, hb17', ho17, hk17⟩
                        have KF := Lib.hid (And.intro hb17' (And.intro ho17 (And.intro (hk17 _ _ _ (by decide) (by decide) tO16) (And.intro (hk17 _ _ _ (by decide) (by decide) tX16) (And.intro (hk17 _ _ _ (by decide) (by decide) tY16) (And.intro (hk17 _ _ _ (by decide) (by decide) tA16) (And.intro (hk17 _ _ _ (by decide) (by decide) tB16) (hk17 _ _ _ (by decide) (by decide) tG16))))))))
                        clear b1 b2 o0 hk17 hb17' ho17 tO16 tX16 tY16 tA16 tB16 tG16 CR
                        go_wp2_with fail
                        go_meet
                        exact KF.out
                      · have e3 : (oe == 0) = false := by simpa using c7
                        have KF := Lib.hid (And.intro (Below.refl w12.heap.size w16) (And.intro (show OutF w12.heap.size w16 (.slice fa F.length fc) (if oe = 0 then dropF1 (renG F x s y t ⟨ad, ai⟩) ⟨y, t, ⟨od, oi⟩, ⟨ad, ai⟩⟩ else renG F x s y t ⟨ad, ai⟩) by rw [if_neg c7]; exact ho16) (And.intro tO16 (And.intro tX16 (And.intro tY16 (And.intro tA16 (And.intro tB16 tG16)))))))
                        clear c7 ho16 tO16 tX16 tY16 tA16 tB16 tG16
                        go_wp2_with fail
                        go_meet
                        exact KF.out
                    case rest =>
                      clear ho16 tO16 tX16 tY16 tA16 tB16 tG16
                      rename World => w17
                      obtain ⟨hb17', ho17, tO, tX, tY, tA, tB, tG⟩ := hcut
                      have hb17 : Below w3.heap.size w3 w17 := hb16.trans (hb17'.mono hb12.size)
                      have hs17 := Nat.le_trans hs16 hb17'.size
                      clear hb16 hb17' HON HSM1
                      obtain ⟨GF, hGF⟩ : ∃ GF, GF = (if oe = 0 then dropF1 (renG F x s y t ⟨ad, ai⟩) ⟨y, t, ⟨od, oi⟩, ⟨ad, ai⟩⟩ else renG F x s y t ⟨ad, ai⟩) := ⟨_, rfl⟩
                      rw [← hGF] at HSM ho17 HRX
                      clear hGF
                      obtain ⟨hsm, hasc, hlen, n, hn⟩ := HSM.out
                      have HSM2 := Lib.hid hsm
                      have HASC := Lib.hid hasc
                      have HLEN := Lib.hid hlen
                      clear HSM hsm hasc
                      have HNG := Lib.hid hn
                      have HLGF := Lib.hid hlen
                      have h365 : w65.heap.size < w17.heap.size := tA.lt
                      clear hn hlen
                      go_upto_if 152 with fail
                      go_cut [] (fun W => Below w12.heap.size w17 W ∧ OutF w12.heap.size W (.slice fa F.length fc) (renP GF ⟨ad, ai⟩ y.ino bd) ∧ TB 24 W w13.heap.size [.slice fa F.length fc] ∧ TB 36 W (w.heap.size + 1) [.int .i64 x.dev, .int .i64 x.ino] ∧ TB 36 W (w.heap.size + 1 + 1) [.int .i64 y.dev, .int .i64 y.ino] ∧ TB 36 W w65.heap.size [.int .i64 ad, .int .i64 ai] ∧ TB 36 W w10.heap.size [.int .i64 od, .int .i64 oi] ∧ TB 24 W (w.heap.size + 1 + 1 + 1) [.slice none 0 0])
                      case first =>
                        cases bd with
                        | false =>
                          have KF := Lib.hid (And.intro (Below.refl w12.heap.size w17) (And.intro (show OutF w12.heap.size w17 (.slice fa F.length fc) (renP GF ⟨ad, ai⟩ y.ino false) from ho17) (And.intro tO (And.intro tX (And.intro tY (And.intro tA (And.intro tB tG)))))))
                          clear ho17 tO tX tY tA tB tG
                          go_wp2_with fail
                          go_meet
                          exact KF.out
                        | true =>
                          have hn := HNG.out
                          obtain ⟨j, k, d, hj, hd, hi, hk⟩ := node_where hn
                          have HJ : Hid (ad = (j : Int)) := Lib.hid hj
                          have HYD : Hid (y.dev = (j : Int)) := Lib.hid (HP.out.ad.symm.trans hj)
                          obtain ⟨vn, ev, hf⟩ := ho17
                          obtain ⟨gd, fc', hgdv, -, -⟩ := hf.gD hd
                          injection hgdv with hgdv1 hgdv2 hgdv3
                          subst hgdv1
                          clear hgdv2 hgdv3
                          obtain ⟨gn, cn, hgv, hgn, -, -⟩ := hf.gN hd hk
                          have hjl : (j : Int) < (F.length : Int) := by
                            have := (List.getElem?_eq_some_iff.1 hd).1
                            have := HLGF.out
                            omega
                          have hkl : (k : Int) < (d.nodes.length : Int) := by
                            have := (List.getElem?_eq_some_iff.1 hk).1
                            omega
                          have hgnb := own_lt (hf.nodes j d hd) hgn
                          have hgdn : gd ≠ gn := fun e => own_types hf.row (hf.nodes j d hd) (by decide) (g := gd) rfl (by rw [e]; exact hgn)
                          have KS35 : Hid (∀ W, Below w17.heap.size w17 W → W.cell? ⟨w13.heap.size, 0, none⟩ = some (.slice (some ⟨gd, 0, none⟩) F.length fc) ∧ W.cell? ⟨w.heap.size + 1 + 1, 0, none⟩ = some (.int .i64 (j : Int)) ∧ W.cell? ⟨w.heap.size + 1 + 1, 1, none⟩ = some (.int .i64 y.ino) ∧ W.cell? ⟨gd, j * 2 + 1, none⟩ = some (.slice (some ⟨gn, 0, none⟩) d.nodes.length cn) ∧ W.cell? ⟨w65.heap.size, 0, none⟩ = some (.int .i64 (j : Int)) ∧ W.cell? ⟨w65.heap.size, 1, none⟩ = some (.int .i64 ai)) := Lib.hid (fun W hb => ⟨(tO.stay hb).blk.c1.1, by rw [← HYD.out]; exact (tY.stay hb).blk.c2.1, (tY.stay hb).blk.c2.2.1, by rw [← hgv]; exact (hf.stay hb).cellY hd rfl, by rw [← HJ.out]; exact (tA.stay hb).blk.c2.1, (tA.stay hb).blk.c2.2.1⟩)
                          have CI := Lib.hid (fun W (hb : Below w17.heap.size w17 W) => rindex_any (some ⟨gd, 0, none⟩) fc GF ⟨(j : Int), ai⟩ W (by
                            obtain ⟨a', c', hv, -, -, hF⟩ := (hf.stay hb).at_
                            injection hv with hv _ _
                            subst hv
                            exact hF) HSM2.out)
                          rw [ix_some hd hi, HLGF.out] at CI
                          have nO : w13.heap.size ≠ gn := fun e => tO.ne (hf.nodes j d hd) (by decide) (e ▸ hgn)
                          have nX : w.heap.size + 1 ≠ gn := fun e => tX.ne (hf.nodes j d hd) (by decide) (e ▸ hgn)
                          have nY : w.heap.size + 1 + 1 ≠ gn := fun e => tY.ne (hf.nodes j d hd) (by decide) (e ▸ hgn)
                          have nA : w65.heap.size ≠ gn := fun e => tA.ne (hf.nodes j d hd) (by decide) (e ▸ hgn)
                          have nB : w10.heap.size ≠ gn := fun e => tB.ne (hf.nodes j d hd) (by decide) (e ▸ hgn)
                          have nG : w.heap.size + 1 + 1 + 1 ≠ gn := fun e => tG.ne (hf.nodes j d hd) (by decide) (e ▸ hgn)
                          have HST : Hid (∀ W : World, (W.cell? ⟨w13.heap.size, 0, none⟩ = some (.slice (some ⟨gd, 0, none⟩) F.length fc) ∧ W.cell? ⟨w.heap.size + 1 + 1, 0, none⟩ = some (.int .i64 (j : Int)) ∧ W.cell? ⟨w.heap.size + 1 + 1, 1, none⟩ = some (.int .i64 y.ino) ∧ W.cell? ⟨gd, j * 2 + 1, none⟩ = some (.slice (some ⟨gn, 0, none⟩) d.nodes.length cn) ∧ W.cell? ⟨w65.heap.size, 0, none⟩ = some (.int .i64 (j : Int)) ∧ W.cell? ⟨w65.heap.size, 1, none⟩ = some (.int .i64 ai)) → ((W.setCell ⟨gn, k * 8 + 5, none⟩ (.int .i64 y.ino)).cell? ⟨w13.heap.size, 0, none⟩ = some (.slice (some ⟨gd, 0, none⟩) F.length fc) ∧ (W.setCell ⟨gn, k * 8 + 5, none⟩ (.int .i64 y.ino)).cell? ⟨w.heap.size + 1 + 1, 0, none⟩ = some (.int .i64 (j : Int)) ∧ (W.setCell ⟨gn, k * 8 + 5, none⟩ (.int .i64 y.ino)).cell? ⟨w.heap.size + 1 + 1, 1, none⟩ = some (.int .i64 y.ino) ∧ (W.setCell ⟨gn, k * 8 + 5, none⟩ (.int .i64 y.ino)).cell? ⟨gd, j * 2 + 1, none⟩ = some (.slice (some ⟨gn, 0, none⟩) d.nodes.length cn) ∧ (W.setCell ⟨gn, k * 8 + 5, none⟩ (.int .i64 y.ino)).cell? ⟨w65.heap.size, 0, none⟩ = some (.int .i64 (j : Int)) ∧ (W.setCell ⟨gn, k * 8 + 5, none⟩ (.int .i64 y.ino)).cell? ⟨w65.heap.size, 1, none⟩ = some (.int .i64 ai))) := Lib.hid (fun W h => by
                            have hc : ∀ q c, q ≠ gn → (W.setCell ⟨gn, k * 8 + 5, none⟩ (.int .i64 y.ino)).cell? ⟨q, c, none⟩ = W.cell? ⟨q, c, none⟩ := fun q c hq => World.cell?_of_block (a := ⟨q, c, none⟩) (Below.heap_setCell W ⟨gn, k * 8 + 5, none⟩ _ q hq)
                            obtain ⟨a0, a1, a2, a3, a4, a5⟩ := h
                            exact ⟨(hc _ 0 nO).trans a0, (hc _ 0 nY).trans a1, (hc _ 1 nY).trans a2, (hc _ _ hgdn).trans a3, (hc _ 0 nA).trans a4, (hc _ 1 nA).trans a5⟩)
                          have FIN : Hid (∀ W, Below w17.heap.size w17 W → W.cell? ⟨gn, k * 8 + 5, none⟩ = some (.int .i64 n.parent) ∧ W.frozen? ⟨gn, k * 8 + 5, none⟩ = false ∧ Below w12.heap.size w17 (W.setCell ⟨gn, k * 8 + 5, none⟩ (.int .i64 y.ino)) ∧ OutF w12.heap.size (W.setCell ⟨gn, k * 8 + 5, none⟩ (.int .i64 y.ino)) (.slice (some ⟨gd, 0, none⟩) F.length fc) (renP GF ⟨ad, ai⟩ y.ino true) ∧ TB 24 (W.setCell ⟨gn, k * 8 + 5, none⟩ (.int .i64 y.ino)) w13.heap.size [.slice (some ⟨gd, 0, none⟩) F.length fc] ∧ TB 36 (W.setCell ⟨gn, k * 8 + 5, none⟩ (.int .i64 y.ino)) (w.heap.size + 1) [.int .i64 x.dev, .int .i64 x.ino] ∧ TB 36 (W.setCell ⟨gn, k * 8 + 5, none⟩ (.int .i64 y.ino)) (w.heap.size + 1 + 1) [.int .i64 y.dev, .int .i64 y.ino] ∧ TB 36 (W.setCell ⟨gn, k * 8 + 5, none⟩ (.int .i64 y.ino)) w65.heap.size [.int .i64 ad, .int .i64 ai] ∧ TB 36 (W.setCell ⟨gn, k * 8 + 5, none⟩ (.int .i64 y.ino)) w10.heap.size [.int .i64 od, .int .i64 oi] ∧ TB 24 (W.setCell ⟨gn, k * 8 + 5, none⟩ (.int .i64 y.ino)) (w.heap.size + 1 + 1 + 1) [.slice none 0 0]) := Lib.hid (fun W hb => by
                            have f1 := hf.stay hb
                            have hrow := f1.nodes j d hd
                            have hrow2 : W.ownsRow w12.heap.size 43 8 (.slice (some ⟨gn, 0, none⟩) d.nodes.length cn) d.nodes.length (nrow (ev j) 0 d.nodes) := by have := hrow; unfold OwnN at this; rw [hgv] at this; exact this
                            have f2 := f1.setNode hd hk (n' := parF y.ino n) (c := 5) (by omega) (u := .int .i64 y.ino) (fun _ => rfl) rfl hgn
                            have e1 : GF.set j (setN d k (parF y.ino n)) = parX GF ⟨ad, ai⟩ y.ino := setN_on (x := ⟨ad, ai⟩) HASC.out HJ.out hd hi hk (parF y.ino)
                            rw [e1] at f2
                            exact ⟨f1.cellN hd hk hgn (c := 5) (by omega), hrow2.frozenAt _, below_set (hb.mono hs17) hgnb.1 _ _, ⟨_, _, f2⟩, (tO.stay hb).other nO _ _, (tX.stay hb).other nX _ _, (tY.stay hb).other nY _ _, (tA.stay hb).other nA _ _, (tB.stay hb).other nB _ _, (tG.stay hb).other nG _ _⟩)
                          have K4 := KS35.out w17 (Below.refl _ _)
                          have hbd17 : Below w17.heap.size w17 w17.drew := (Below.refl w17.heap.size w17).drew
                          clear tO tX tY tA tB tG hf hgv hgn hgnb hd hi hk hj HASC HSM2 HLGF HNG hn HJ HYD
                          go_upto_region 35 with fail
                          go_region_held3 (fun (W : World) => W.cell? ⟨w13.heap.size, 0, none⟩ = some (.slice (some ⟨gd, 0, none⟩) F.length fc) ∧ W.cell? ⟨w.heap.size + 1 + 1, 0, none⟩ = some (.int .i64 (j : Int)) ∧ W.cell? ⟨w.heap.size + 1 + 1, 1, none⟩ = some (.int .i64 y.ino) ∧ W.cell? ⟨gd, j * 2 + 1, none⟩ = some (.slice (some ⟨gn, 0, none⟩) d.nodes.length cn) ∧ W.cell? ⟨w65.heap.size, 0, none⟩ = some (.int .i64 (j : Int)) ∧ W.cell? ⟨w65.heap.size, 1, none⟩ = some (.int .i64 ai))
                            (first
                              | (with_reducible exact K4)
                              | (with_reducible exact K5)
                              | (with_reducible exact K6)
                              | go_keep)
                            ((go_at_call 41; (with_reducible refine (CI.out _ hbd17).mono ?_); rintro e w18 ⟨rfl, hb18⟩; have hb18' : Below w17.heap.size w17 w18 := hbd17.trans hb18; have K5 := KS35.out w18 hb18'; have F5 := FIN.out w18 hb18'; obtain ⟨s5, f5, hfn⟩ := F5; have HFN := Lib.hid hfn; have K6 := HST.out w18 K5; clear hfn))
                          all_goals
                            clear K4 K5 K6 s5 f5
                            go_wp2_with fail
                            go_meet
                            exact HFN.out
                      case rest =>
                        clear ho17 tO tX tY tA tB tG
                        rename World => w18
                        obtain ⟨hb18', ho18, tO, tX, tY, tA, tB, tG⟩ := hcut
                        have hb18 : Below w3.heap.size w3 w18 := hb17.trans (hb18'.mono hb12.size)
                        have hs18 := hb18.size
                        have hlO := tO.lt
                        have CO1 : Hid (∀ W, Calls Try.prog 53 #[.agg #[.int .i64 x.dev, .int .i64 x.ino], .string s, .agg #[.int .i64 ad, .int .i64 ai], .agg #[.int .i64 0, .int .i64 0]] W fun e w' => ∃ v, e = .returned v ∧ OwnC W.heap.size w' v [⟨x, s, ⟨ad, ai⟩, zA⟩] ∧ Below W.heap.size W w') := Lib.hid (fun W => rone_any x s ⟨ad, ai⟩ zA W)
                        have CO2 : Hid (∀ W, Calls Try.prog 53 #[.agg #[.int .i64 y.dev, .int .i64 y.ino], .string t, .agg #[.int .i64 od, .int .i64 oi], .agg #[.int .i64 ad, .int .i64 ai]] W fun e w' => ∃ v, e = .returned v ∧ OwnC W.heap.size w' v [⟨y, t, ⟨od, oi⟩, ⟨ad, ai⟩⟩] ∧ Below W.heap.size W w') := Lib.hid (fun W => rone_any y t ⟨od, oi⟩ ⟨ad, ai⟩ W)
                        have K0 : Hid (∀ W, Below w18.heap.size w18 W → W.cell? ⟨w13.heap.size, 0, none⟩ = some (.slice fa F.length fc) ∧ W.cell? ⟨w.heap.size + 1, 0, none⟩ = some (.int .i64 x.dev) ∧ W.cell? ⟨w.heap.size + 1, 1, none⟩ = some (.int .i64 x.ino) ∧ W.cell? ⟨w.heap.size + 1 + 1, 0, none⟩ = some (.int .i64 y.dev) ∧ W.cell? ⟨w.heap.size + 1 + 1, 1, none⟩ = some (.int .i64 y.ino) ∧ W.cell? ⟨w65.heap.size, 0, none⟩ = some (.int .i64 ad) ∧ W.cell? ⟨w65.heap.size, 1, none⟩ = some (.int .i64 ai) ∧ W.cell? ⟨w10.heap.size, 0, none⟩ = some (.int .i64 od) ∧ W.cell? ⟨w10.heap.size, 1, none⟩ = some (.int .i64 oi)) := Lib.hid (fun W hb => ⟨(tO.stay hb).blk.c1.1, (tX.stay hb).blk.c2.1, (tX.stay hb).blk.c2.2.1, (tY.stay hb).blk.c2.1, (tY.stay hb).blk.c2.2.1, (tA.stay hb).blk.c2.1, (tA.stay hb).blk.c2.2.1, (tB.stay hb).blk.c2.1, (tB.stay hb).blk.c2.2.1⟩)
                        have h3G : w.heap.size + 1 + 1 + 1 < w3.heap.size := HLG.out
                        have HS : Hid (∀ W : World, (W.cell? ⟨w13.heap.size, 0, none⟩ = some (.slice fa F.length fc) ∧ W.cell? ⟨w.heap.size + 1, 0, none⟩ = some (.int .i64 x.dev) ∧ W.cell? ⟨w.heap.size + 1, 1, none⟩ = some (.int .i64 x.ino) ∧ W.cell? ⟨w.heap.size + 1 + 1, 0, none⟩ = some (.int .i64 y.dev) ∧ W.cell? ⟨w.heap.size + 1 + 1, 1, none⟩ = some (.int .i64 y.ino) ∧ W.cell? ⟨w65.heap.size, 0, none⟩ = some (.int .i64 ad) ∧ W.cell? ⟨w65.heap.size, 1, none⟩ = some (.int .i64 ai) ∧ W.cell? ⟨w10.heap.size, 0, none⟩ = some (.int .i64 od) ∧ W.cell? ⟨w10.heap.size, 1, none⟩ = some (.int .i64 oi)) → ((W.setCell ⟨w.heap.size + 1 + 1 + 1, 0, none⟩ (.slice fa F.length fc)).cell? ⟨w13.heap.size, 0, none⟩ = some (.slice fa F.length fc) ∧ (W.setCell ⟨w.heap.size + 1 + 1 + 1, 0, none⟩ (.slice fa F.length fc)).cell? ⟨w.heap.size + 1, 0, none⟩ = some (.int .i64 x.dev) ∧ (W.setCell ⟨w.heap.size + 1 + 1 + 1, 0, none⟩ (.slice fa F.length fc)).cell? ⟨w.heap.size + 1, 1, none⟩ = some (.int .i64 x.ino) ∧ (W.setCell ⟨w.heap.size + 1 + 1 + 1, 0, none⟩ (.slice fa F.length fc)).cell? ⟨w.heap.size + 1 + 1, 0, none⟩ = some (.int .i64 y.dev) ∧ (W.setCell ⟨w.heap.size + 1 + 1 + 1, 0, none⟩ (.slice fa F.length fc)).cell? ⟨w.heap.size + 1 + 1, 1, none⟩ = some (.int .i64 y.ino) ∧ (W.setCell ⟨w.heap.size + 1 + 1 + 1, 0, none⟩ (.slice fa F.length fc)).cell? ⟨w65.heap.size, 0, none⟩ = some (.int .i64 ad) ∧ (W.setCell ⟨w.heap.size + 1 + 1 + 1, 0, none⟩ (.slice fa F.length fc)).cell? ⟨w65.heap.size, 1, none⟩ = some (.int .i64 ai) ∧ (W.setCell ⟨w.heap.size + 1 + 1 + 1, 0, none⟩ (.slice fa F.length fc)).cell? ⟨w10.heap.size, 0, none⟩ = some (.int .i64 od) ∧ (W.setCell ⟨w.heap.size + 1 + 1 + 1, 0, none⟩ (.slice fa F.length fc)).cell? ⟨w10.heap.size, 1, none⟩ = some (.int .i64 oi))) := Lib.hid (fun W h => by
                          have hc : ∀ q c, q ≠ w.heap.size + 1 + 1 + 1 → (W.setCell ⟨w.heap.size + 1 + 1 + 1, 0, none⟩ (.slice fa F.length fc)).cell? ⟨q, c, none⟩ = W.cell? ⟨q, c, none⟩ := fun q c hq => World.cell?_of_block (a := ⟨q, c, none⟩) (Below.heap_setCell W ⟨w.heap.size + 1 + 1 + 1, 0, none⟩ _ q hq)
                          obtain ⟨a0, a1, a2, a3, a4, a5, a6, a7, a8⟩ := h
                          exact ⟨(hc _ 0 (by omega)).trans a0, (hc _ 0 (by omega)).trans a1, (hc _ 1 (by omega)).trans a2, (hc _ 0 (by omega)).trans a3, (hc _ 1 (by omega)).trans a4, (hc _ 0 (by omega)).trans a5, (hc _ 1 (by omega)).trans a6, (hc _ 0 (by omega)).trans a7, (hc _ 1 (by omega)).trans a8⟩)
                        have FIN : Hid (∀ W v, Below w18.heap.size w18 W → OwnC w18.heap.size W v [⟨x, s, ⟨ad, ai⟩, zA⟩, ⟨y, t, ⟨od, oi⟩, ⟨ad, ai⟩⟩] → W.cell? ⟨w.heap.size + 1 + 1 + 1, 0, none⟩ = some (.slice none 0 0) ∧ W.frozen? ⟨w.heap.size + 1 + 1 + 1, 0, none⟩ = false ∧ (W.setCell ⟨w.heap.size + 1 + 1 + 1, 0, none⟩ (.slice fa F.length fc)).cell? ⟨w.heap.size + 1 + 1 + 1, 0, none⟩ = some (.slice fa F.length fc) ∧ EditR w.heap.size R w (.returned (.tuple #[.agg #[.slice fa F.length fc], v, .int .i64 0])) (W.setCell ⟨w.heap.size + 1 + 1 + 1, 0, none⟩ (.slice fa F.length fc))) := Lib.hid (fun W v hb hv =>
                          ⟨(tG.stay hb).blk.c1.1, (tG.stay hb).blk.c1.2, (TB.blk (cs := [.slice fa F.length fc]) ((tG.stay hb).set 0 (.slice fa F.length fc))).c1.1,
                            by rw [HRX.out]; exact EditR.own (r := ⟨renP GF ⟨ad, ai⟩ y.ino bd, [⟨x, s, ⟨ad, ai⟩, zA⟩, ⟨y, t, ⟨od, oi⟩, ⟨ad, ai⟩⟩], 0⟩) (Nat.le_trans HB3.out.size hb12.size) (Nat.le_trans HB3.out.size hs18) (HB3.out.trans ((hb18.trans (hb.mono hs18)).mono HB3.out.size)) (ho18.stay hb) hv (tG.stay hb) (by omega)⟩)
                        have K4 := K0.out w18 (Below.refl _ _)
                        have hbd18 : Below w18.heap.size w18 w18.drew := (Below.refl w18.heap.size w18).drew
                        obtain ⟨iC, hiC, hzC0, hzC1, hzC2⟩ := info_parts infoC
                        clear tO tX tY tA tB tG ho18 hb18 hb18' hb17 HRX HNG HLGF HSM2 HASC HP
                        go_upto_region 36 with fail
                        go_region_held3 (fun (W : World) => W.cell? ⟨w13.heap.size, 0, none⟩ = some (.slice fa F.length fc) ∧ W.cell? ⟨w.heap.size + 1, 0, none⟩ = some (.int .i64 x.dev) ∧ W.cell? ⟨w.heap.size + 1, 1, none⟩ = some (.int .i64 x.ino) ∧ W.cell? ⟨w.heap.size + 1 + 1, 0, none⟩ = some (.int .i64 y.dev) ∧ W.cell? ⟨w.heap.size + 1 + 1, 1, none⟩ = some (.int .i64 y.ino) ∧ W.cell? ⟨w65.heap.size, 0, none⟩ = some (.int .i64 ad) ∧ W.cell? ⟨w65.heap.size, 1, none⟩ = some (.int .i64 ai) ∧ W.cell? ⟨w10.heap.size, 0, none⟩ = some (.int .i64 od) ∧ W.cell? ⟨w10.heap.size, 1, none⟩ = some (.int .i64 oi))
                          (first
                            | (with_reducible exact K4)
                            | (with_reducible exact K5)
                            | (with_reducible exact K6)
                            | (with_reducible exact K7)
                            | (with_reducible exact K8)
                            | go_keep)
                          (first
                            | (go_at_call 53; (with_reducible refine (CO1.out _).mono ?_); rintro e w19 ⟨v1, rfl, hv1, hb19'⟩; have hb19 : Below w18.heap.size w18 w19 := hbd18.trans hb19'; have K5 := K0.out w19 hb19; obtain ⟨g1, k1, rfl, -⟩ := OwnC.ptr hv1)
                            | (go_at_call 53; (with_reducible refine (CO2.out _).mono ?_); rintro e w20 ⟨v2, rfl, hv2, hb20'⟩; have hb20 : Below w18.heap.size w18 w20 := hb19.trans (hb20'.mono hb19.size); have K6 := K0.out w20 hb20; obtain ⟨g2, k2, rfl, -⟩ := OwnC.ptr hv2; have hown1 : w20.ownsRow w18.heap.size 66 7 (.slice (some ⟨g1, 0, none⟩) 1 k1) 1 (crow [⟨x, s, ⟨ad, ai⟩, zA⟩]) := own_keep hv1 fun q hq => hb20'.block q (own_lt hv1 hq).2; have hnews := two_news hv2; have hbase := hb20.size)
                            | ((refine step_append_lies _ (by rfl) _ _ _ (by rfl) w18.heap.size 66 iC _ 7 64 Try.underlying53 hiC hzC0 hzC1 hzC2 rfl (by omega) _ 1 _ (by rfl) hown1 ⟨g2, 0, none⟩ 1 k2 (ccs ⟨y, t, ⟨od, oi⟩, ⟨ad, ai⟩⟩) (by rfl) (by rfl) hnews (by simp [ccs, Value.oneCell']) (by omega) (by unfold maxLen; omega) (by omega) hbase w20.heap.size rfl ?_); intro gg capA wA hownA hgrow hatA hltA; have hbA : Below w18.heap.size w18 wA := hb20.grown hgrow hbase (fun q hq => (own_lt hown1 hq).1); have K7 := K0.out wA hbA; have F5 := FIN.out wA (.slice (some ⟨gg, 0, none⟩) 2 capA) hbA hownA; have s7 := F5.1; have f7 := F5.2.1; have n0 := F5.2.2.1; have HFN := Lib.hid F5.2.2.2; have K8 := HS.out wA K7; clear F5))
                        all_goals
                          clear K4 K5 K6 K7 K8 s7 f7
                          go_wp2_with fail
                          exact bodyPost_ret (v := .tuple #[.agg #[.slice fa F.length fc], .slice (some ⟨gg, 0, none⟩) 2 capA, .int .i64 0]) (by simp [results, Try.f63, go_sem, n0]) rfl HFN.out
        · have e1 : (x.dev != y.dev) = true := by simpa using c4
          have HR2 := Lib.hid (HR1.out.trans (if_pos c4))
          clear HR1 HRP HRF HRR CL2 c4
          have uG := KEEP.out.2.2.2.stay hb7
          obtain ⟨g0, gf⟩ := uG.blk.c1
          have n0 := (TB.blk (cs := [.slice none 0 0]) (uG.set 0 (.slice none 0 0))).c1.1
          have HFN : Hid (EditR w.heap.size R w (.returned (.tuple #[.agg #[.slice none 0 0], .slice none 0 0, .int .i64 18])) ((w7).setCell ⟨w.heap.size + 1 + 1 + 1, 0, none⟩ (.slice none 0 0))) := Lib.hid (by rw [show R = errR 18 from HR2.out]; exact ERR.out 18 _ hb7)
          clear uG
          go_wp2_with fail
          exact bodyPost_ret (v := .tuple #[.agg #[.slice none 0 0], .slice none 0 0, .int .i64 18]) (by simp [results, Try.f63, go_sem, n0]) rfl HFN.out
      · have e1 : (ae != 0) = true := by simpa using c3
        have HR1 := Lib.hid (HR.out.trans (if_pos c3))
        clear HR HRP HRF HRR CL2 c3
        have uG := KEEP.out.2.2.2.stay hb7
        obtain ⟨g0, gf⟩ := uG.blk.c1
        have n0 := (TB.blk (cs := [.slice none 0 0]) (uG.set 0 (.slice none 0 0))).c1.1
        have HFN : Hid (EditR w.heap.size R w (.returned (.tuple #[.agg #[.slice none 0 0], .slice none 0 0, .int .i64 ae])) ((w65.alloc (.cells #[.int .i64 ad, .int .i64 ai] 36)).setCell ⟨w.heap.size + 1 + 1 + 1, 0, none⟩ (.slice none 0 0))) := Lib.hid (by rw [show R = errR ae from HR1.out]; exact ERR.out ae _ hb7)
        clear uG
        go_wp2_with fail
        exact bodyPost_ret (v := .tuple #[.agg #[.slice none 0 0], .slice none 0 0, .int .i64 ae]) (by simp [results, Try.f63, go_sem, n0]) rfl HFN.out
end Go.Proofs.Ytafnbpkdenjipaa.fl
