/-
  Set of package files.
  Set of package files.
-/
import Derived.Test.YtafnbpkdenjipaaFGa
import Derived.Test.YtafnbpkdenjipaaFVl
namespace Go.Proofs.Ytafnbpkdenjipaa.fl
open Go.RowKit Go.Proofs.Ytafnbpkdenjipaa.cm

def setAt (F : FilP) (x : At) (m u g : Int) : FilP := onF F x.dev fun d => modD d x.ino (attF m u g)
def setE (F : FilP) (x : At) (m u g : Int) : Int := if (nodeF F x).isNone then 2 else if rightsB m u g then 0 else 22
theorem setAt_mem {F : FilP} {x : At} {m u g : Int} {d : DevP} (h : d ∈ setAt F x m u g) : ∃ d0 ∈ F, d.nodes.length = d0.nodes.length ∧ (AscL d0.nodes → AscL d.nodes) ∧ ∀ n ∈ d.nodes, ∃ k ∈ d0.nodes, n.ents = k.ents := by
  unfold setAt at h
  rcases onF_mem2 h with h | ⟨d0, h0, rfl⟩
  · exact ⟨d, h, rfl, id, fun n hn => ⟨n, hn, rfl⟩⟩
  · refine ⟨d0, h0, mod_len _ _ _, fun ha => asc_modL ha _ _ (fun n => rfl), fun n hn => ?_⟩
    rcases mod_mem hn with h | ⟨k, hk, e⟩
    · exact ⟨n, h, rfl⟩
    · exact ⟨k, hk, by rw [e]; rfl⟩
theorem AscF.setAt {F : FilP} (h : AscF F) (x : At) (m u g : Int) : AscF (setAt F x m u g) := fun d hd => by
  obtain ⟨d0, h0, -, h1, -⟩ := setAt_mem hd
  exact h1 (h d0 h0)
theorem Sml.setAt {F : FilP} (h : Sml F) (x : At) (m u g : Int) : Sml (setAt F x m u g) := by
  refine ⟨by unfold fl.setAt; rw [onF_len]; exact h.len, fun d hd => ?_, fun d hd n hn => ?_⟩
  · obtain ⟨d0, h0, e, -⟩ := setAt_mem hd
    rw [e]
    exact h.nodes d0 h0
  · obtain ⟨d0, h0, -, -, e⟩ := setAt_mem hd
    obtain ⟨k, hk, e⟩ := e n hn
    rw [e]
    exact h.ents d0 h0 k hk

theorem FilesO.frozN {B : Nat} {w : World} {v : Value} {F : FilP} {vn : Nat → Value} {ev : Nat → Nat → Value} (h : FilesO B w v F vn ev) {j : Nat} {d : DevP} (hd : F[j]? = some d) {g : Nat} (hg : (vn j).ownBlock = some g) (o : Nat) : w.frozen? ⟨g, o, none⟩ = false := by
  have hN := h.nodes j d hd
  obtain ⟨cap, hv⟩ := own_form hN hg
  have h2 : w.ownsRow B 43 8 (vn j) d.nodes.length (nrow (ev j) 0 d.nodes) := hN
  rw [hv] at h2
  exact h2.frozenAt _
/-- three fields of a node -/
theorem FilesO.setAtt {B : Nat} {w : World} {v : Value} {F : FilP} {vn : Nat → Value} {ev : Nat → Nat → Value} (h : FilesO B w v F vn ev) {j : Nat} {d : DevP} (hd : F[j]? = some d) {k : Nat} {n : NodeP} (hk : d.nodes[k]? = some n) {g : Nat} (hg : (vn j).ownBlock = some g) (m u r : Int) :
    FilesO B (((w.setCell ⟨g, k * 8 + 2, none⟩ (.int .i64 m)).setCell ⟨g, k * 8 + 3, none⟩ (.int .i64 u)).setCell ⟨g, k * 8 + 4, none⟩ (.int .i64 r)) v (F.set j (setN d k (attF m u r n))) vn ev := by
  have e : ∀ a b : NodeP, (F.set j (setN d k a)).set j (setN (setN d k a) k b) = F.set j (setN d k b) := fun a b => by
    rw [List.set_set]
    congr 1
    unfold setN
    simp only [List.set_set]
  have h1 := h.setNode hd hk (n' := { n with mode := m }) (c := 2) (by omega) (u := .int .i64 m) (fun _ => rfl) rfl hg
  have h2 := h1.setNode (setN_at hd _) (setN_node hk _) (n' := { n with mode := m, uid := u }) (c := 3) (by omega) (u := .int .i64 u) (fun _ => rfl) rfl hg
  rw [e] at h2
  have h3 := h2.setNode (setN_at hd _) (setN_node hk _) (n' := attF m u r n) (c := 4) (by omega) (u := .int .i64 r) (fun _ => rfl) rfl hg
  rw [e] at h3
  exact h3

set_option maxRecDepth 100000 in
set_option maxHeartbeats 1000000 in
theorem setClo_any (B E D M U G : Nat) (fa : Option Addr) (fc : Nat) (cv : Value) (F : FilP) (l : List ChgP) (x : At) (m u g : Int) (w : World) (h : EdI B E w fa fc cv F l) (tD : TB 36 w D [.int .i64 x.dev, .int .i64 x.ino]) (tM : TB 3 w M [.int .i64 m]) (tU : TB 3 w U [.int .i64 u]) (tG : TB 3 w G [.int .i64 g]) :
    Calls Try.prog 57 #[.pointer (some ⟨E, 0, none⟩), .pointer (some ⟨D, 0, none⟩), .pointer (some ⟨M, 0, none⟩), .pointer (some ⟨U, 0, none⟩), .pointer (some ⟨G, 0, none⟩)] w (StepR B E (setAt F x m u g) l (setE F x m u g) w) := by
  have HH := Lib.hid h
  have TD := Lib.hid tD
  have TM := Lib.hid tM
  have TU := Lib.hid tU
  have TG := Lib.hid tG
  have e0 := h.ed.blk.c2.1
  have d0 := tD.blk.c2.1
  have d1 := tD.blk.c2.2.1
  have hEl := h.ed.lt
  have hDl := tD.lt
  have hbd := (Below.refl w.heap.size w).drew
  clear tD tM tU tG
  cases hn : nodeF F x with
  | none =>
    have CN := Lib.hid (by
      obtain ⟨vn, ev, hf⟩ := (h.stay hbd).fil
      exact nodeAtO_none B fa fc F x w.drew vn ev hf h.sml hn)
    have HU : Hid (setE F x m u g = 2) := Lib.hid (by unfold setE; rw [hn]; rfl)
    clear h hn
    go_enter Try.func57, Try.ntmps57
    go_wp2_with fail
    go_region_held3 (fun W => W.cell? ⟨D, 0, none⟩ = some (.int .i64 x.dev) ∧ W.cell? ⟨D, 1, none⟩ = some (.int .i64 x.ino) ∧ W.cell? ⟨E, 0, none⟩ = some (.slice fa F.length fc))
      (first
        | go_keep
        | (with_reducible exact ⟨(hb1.cell (p := ⟨D, 0, none⟩) hDl).trans d0, (hb1.cell (p := ⟨D, 1, none⟩) hDl).trans d1, (hb1.cell (p := ⟨E, 0, none⟩) hEl).trans e0⟩))
      ((go_at_call 39; (with_reducible refine CN.out.mono ?_); rintro e w1 ⟨rfl, hb10⟩; have hb1 : Below w.heap.size w w1 := hbd.trans hb10))
    go_wp2_with fail
    go_ret
    exact .of_err hb1 HH.out.hB (by decide) HU.out
  | some n =>
    obtain ⟨j, k, d, hj, hd, hi, hk⟩ := node_where hn
    obtain ⟨vn, ev, hf⟩ := (h.stay hbd).fil
    obtain ⟨gn, cg, -, hgn, -, -⟩ := hf.gN hd hk
    have CN := Lib.hid (nodeAtO_some B fa fc F x w.drew vn ev hf h.sml hj hd hi hgn)
    have HU : Hid (setE F x m u g = if rightsB m u g then 0 else 22) := Lib.hid (by unfold setE; rw [hn]; rfl)
    have HF := Lib.hid hf
    have HSET := Lib.hid (show F.set j (setN d k (attF m u g n)) = setAt F x m u g from setN_on h.asc hj hd hi hk (attF m u g))
    have CR := Lib.hid (fun W => validRights_any m u g W)
    obtain ⟨R, hR⟩ : ∃ R, R = rightsB m u g := ⟨_, rfl⟩
    rw [← hR] at CR HU
    have HD := Lib.hid hd
    have HK := Lib.hid hk
    have HGN := Lib.hid hgn
    clear h hn hf hj hd hi hk hgn hR
    go_enter Try.func57, Try.ntmps57
    go_wp2_with fail
    go_region_held3 (fun W => W.cell? ⟨D, 0, none⟩ = some (.int .i64 x.dev) ∧ W.cell? ⟨D, 1, none⟩ = some (.int .i64 x.ino) ∧ W.cell? ⟨E, 0, none⟩ = some (.slice fa F.length fc))
      (first
        | go_keep
        | (with_reducible exact ⟨(hb1.cell (p := ⟨D, 0, none⟩) hDl).trans d0, (hb1.cell (p := ⟨D, 1, none⟩) hDl).trans d1, (hb1.cell (p := ⟨E, 0, none⟩) hEl).trans e0⟩))
      ((go_at_call 39; (with_reducible refine CN.out.mono ?_); rintro e w1 ⟨rfl, hb10⟩; have hb1 : Below w.heap.size w w1 := hbd.trans hb10))
    have m0 := (TM.out.stay hb1).blk.c1.1
    have u0 := (TU.out.stay hb1).blk.c1.1
    have g0 := (TG.out.stay hb1).blk.c1.1
    have HB1 := Lib.hid hb1
    have HF1 := Lib.hid (HF.out.stay hb10)
    clear hb10 hb1 hbd CN
    go_wp2_with fail
    refine (CR.out _).mono ?_
    rintro e w2 ⟨rfl, hw⟩
    obtain rfl : w1 = w2 := hw.symm
    cases R with
    | false =>
      clear HF HF1
      go_wp2_with fail
      go_ret
      exact .of_err HB1.out HH.out.hB (by decide) HU.out
    | true =>
      have c2 := HF1.out.cellN HD.out HK.out HGN.out (c := 2) (by omega)
      have c3 := HF1.out.cellN HD.out HK.out HGN.out (c := 3) (by omega)
      have c4 := HF1.out.cellN HD.out HK.out HGN.out (c := 4) (by omega)
      have z2 := HF1.out.frozN HD.out HGN.out (k * 8 + 2)
      have z3 := HF1.out.frozN HD.out HGN.out (k * 8 + 3)
      have z4 := HF1.out.frozN HD.out HGN.out (k * 8 + 4)
      have c2 : w1.cell? ⟨gn, k * 8 + 2, none⟩ = some (.int .i64 n.mode) := c2
      have c3 : w1.cell? ⟨gn, k * 8 + 3, none⟩ = some (.int .i64 n.uid) := c3
      have c4 : w1.cell? ⟨gn, k * 8 + 4, none⟩ = some (.int .i64 n.gid) := c4
      have HFN : Hid (StepR B E (setAt F x m u g) l 0 w (.returned (.int .i64 0)) (((w1.setCell ⟨gn, k * 8 + 2, none⟩ (.int .i64 m)).setCell ⟨gn, k * 8 + 3, none⟩ (.int .i64 u)).setCell ⟨gn, k * 8 + 4, none⟩ (.int .i64 g))) := Lib.hid (by
        have hN := HF1.out.nodes j d HD.out
        obtain ⟨cc, fz, hgc⟩ := Lib.ownsRow_kind hN gn HGN.out
        obtain ⟨hgb, -⟩ := own_lt hN HGN.out
        have t1 : TB 100 w1 E [.slice fa F.length fc, cv] := HH.out.ed.stay HB1.out
        have hne : E ≠ gn := fun e => t1.ne hN (by decide) (e ▸ HGN.out)
        have oC : OwnC B w1 cv l := own_keep HH.out.own fun g' hg' => HB1.out.block g' (own_lt HH.out.own hg').2
        have hneC : cv.ownBlock ≠ some gn := own_types hN oC (by decide) HGN.out
        have b1 : SameB E w (w1.setCell ⟨gn, k * 8 + 2, none⟩ (.int .i64 m)) := (SameB.of_below HB1.out).trans (.setT hgc (.inr (.inl rfl)) _ _)
        refine ⟨rfl, ?_, ?_, fun _ => ⟨fa, fc, cv, ?_, ?_, ?_, HH.out.sml.setAt x m u g, HH.out.asc.setAt x m u g, Nat.le_trans HH.out.few (by decide)⟩⟩
        · refine ⟨by rw [size_set, size_set, size_set]; exact HB1.out.size, fun q cs T fr hq hE hT => ?_⟩
          have hql := (Array.getElem?_eq_some_iff.1 hq).1
          have hq1 := HB1.out.block q hql
          have hqg : q ≠ gn := fun e => by
            rw [e] at hq hq1
            rw [hq, hgc] at hq1
            injection hq1 with hq1
            injection hq1 with _ hq1
            exact hT (.inr (.inl hq1.symm))
          exact (Below.heap_setCell _ ⟨gn, k * 8 + 4, none⟩ _ q hqg).trans ((Below.heap_setCell _ ⟨gn, k * 8 + 3, none⟩ _ q hqg).trans ((Below.heap_setCell _ ⟨gn, k * 8 + 2, none⟩ _ q hqg).trans hq1))
        · exact below_set (below_set (below_set (HB1.out.mono HH.out.hB) hgb _ _) hgb _ _) hgb _ _
        · have e : (setAt F x m u g).length = F.length := onF_len _ _ _
          rw [e, ← HSET.out]
          exact ⟨vn, ev, HF1.out.setAtt HD.out HK.out HGN.out m u g⟩
        · have e : (setAt F x m u g).length = F.length := onF_len _ _ _
          rw [e]
          exact ((t1.other hne _ _).other hne _ _).other hne _ _
        · exact own_other (own_other (own_other oC hneC _ _) hneC _ _) hneC _ _)
      clear HF1 HF
      go_wp2_with fail
      go_ret
      rw [HU.out]
      exact HFN.out
end Go.Proofs.Ytafnbpkdenjipaa.fl
namespace Go.Proofs.Ytafnbpkdenjipaa.fl
open Go.RowKit Go.Proofs.Ytafnbpkdenjipaa.cm

theorem set_eq {F : FilP} (hO : OKF F) (x : At) (m u g : Int) : (setFF F x m u g).2 = setE F x m u g ∧ ((setFF F x m u g).2 = 0 → (setFF F x m u g).1 = dropsF (setAt F x m u g) []) ∧ ((setFF F x m u g).2 ≠ 0 → (setFF F x m u g).1 = []) := by
  unfold setFF setE
  cases hn : nodeF F x with
  | none => exact ⟨rfl, (fun h => by cases h), fun _ => rfl⟩
  | some n =>
    obtain ⟨d, hd, hx⟩ := nodeF_of hn
    have hm : n ∈ d.nodes := by
      have hx : nodeL d.nodes x.ino = some n := hx
      unfold nodeL at hx
      exact List.mem_of_find?_eq_some hx
    have hp := (hO.dev hd).pre.plain n hm
    have e : plainB (attF m u g n) = rightsB m u g := by
      rw [plain_parts] at hp ⊢
      rw [Bool.and_eq_true, Bool.and_eq_true] at hp
      show (kindB n.kind && (rightsB m u g && targB n.kind n.target)) = _
      rw [hp.1, hp.2.2]
      simp
    simp only [e]
    cases rightsB m u g with
    | false => exact ⟨rfl, (fun h => by cases h), fun _ => rfl⟩
    | true => exact ⟨rfl, (fun _ => rfl), fun h => (h rfl).elim⟩

/-- what Set answers -/
def SetR (B : Nat) (r : FilP × Int) (w : World) (e : Ending) (w' : World) : Prop :=
  ∃ fv, e = .returned (.tuple #[.agg #[fv], .int .i64 r.2]) ∧ OutF B w' fv r.1 ∧ Below B w w'

set_option maxRecDepth 100000 in
set_option maxHeartbeats 400000 in
theorem Set_any (a : Option Addr) (cap : Nat) (F : FilP) (x : At) (m u g : Int) (w : World) (hF : FilesAt w a F) (hO : OKF F) :
    Calls Try.prog 31 #[.agg #[.slice a F.length cap], .agg #[.int .i64 x.dev, .int .i64 x.ino], .int .i64 m, .int .i64 u, .int .i64 g] w (SetR w.heap.size (setFF F x m u g) w) := by
  obtain ⟨k1, k2, k3⟩ := set_eq hO x m u g
  have hb1 : Below w.heap.size w (w.alloc (.cells #[.slice a F.length cap] 24)) := (Below.refl _ _).alloc (Nat.le_refl _) _
  have hb2 := hb1.alloc hb1.size (.cells #[.int .i64 x.dev, .int .i64 x.ino] 36)
  have hb3 := hb2.alloc hb2.size (.cells #[.int .i64 m] 3)
  have hb4 := hb3.alloc hb3.size (.cells #[.int .i64 u] 3)
  have hb5 := hb4.alloc hb4.size (.cells #[.int .i64 g] 3)
  have hb6 := hb5.alloc hb5.size (.cells #[.slice none 0 0] 24)
  obtain ⟨w6, hw6⟩ : ∃ w6, w6 = (((((w.alloc (.cells #[.slice a F.length cap] 24)).alloc (.cells #[.int .i64 x.dev, .int .i64 x.ino] 36)).alloc (.cells #[.int .i64 m] 3)).alloc (.cells #[.int .i64 u] 3)).alloc (.cells #[.int .i64 g] 3)).alloc (.cells #[.slice none 0 0] 24) := ⟨_, rfl⟩
  have t0 : TB 24 w6 w.heap.size [.slice a F.length cap] := by rw [hw6]; exact (((((TB.new1 w [.slice a F.length cap] _ _ rfl).alloc _).alloc _).alloc _).alloc _).alloc _
  have tD : TB 36 w6 (w.heap.size + 1) [.int .i64 x.dev, .int .i64 x.ino] := by rw [hw6]; exact ((((TB.new1 _ [.int .i64 x.dev, .int .i64 x.ino] _ _ (size_alloc _ _)).alloc _).alloc _).alloc _).alloc _
  have tM : TB 3 w6 (w.heap.size + 1 + 1) [.int .i64 m] := by rw [hw6]; exact (((TB.new1 _ [.int .i64 m] _ _ (by rw [size_alloc, size_alloc])).alloc _).alloc _).alloc _
  have tU : TB 3 w6 (w.heap.size + 1 + 1 + 1) [.int .i64 u] := by rw [hw6]; exact ((TB.new1 _ [.int .i64 u] _ _ (by rw [size_alloc, size_alloc, size_alloc])).alloc _).alloc _
  have tV : TB 3 w6 (w.heap.size + 1 + 1 + 1 + 1) [.int .i64 g] := by rw [hw6]; exact (TB.new1 _ [.int .i64 g] _ _ (by rw [size_alloc, size_alloc, size_alloc, size_alloc])).alloc _
  have tG : TB 24 w6 (w.heap.size + 1 + 1 + 1 + 1 + 1) [.slice none 0 0] := by rw [hw6]; exact TB.new1 _ [.slice none 0 0] _ _ (by rw [size_alloc, size_alloc, size_alloc, size_alloc, size_alloc])
  rw [← hw6] at hb6
  obtain ⟨x0, -⟩ := t0.blk.c1
  have CE := Lib.hid (edited_any 57 #[.pointer (some ⟨w.heap.size + 1, 0, none⟩), .pointer (some ⟨w.heap.size + 1 + 1, 0, none⟩), .pointer (some ⟨w.heap.size + 1 + 1 + 1, 0, none⟩), .pointer (some ⟨w.heap.size + 1 + 1 + 1 + 1, 0, none⟩)] (fun _ _ => by kernel_rfl) a cap F w6 (hF.below hb6) hO.sml ⟨(setFF F x m u g).1, [], (setFF F x m u g).2⟩ (setAt F x m u g) []
    (fun W E fa fc hb hE hed hfil => by
      show Calls _ _ _ _ (StepR _ _ _ _ (setFF F x m u g).2 _)
      rw [k1]
      exact setClo_any w6.heap.size E (w.heap.size + 1) (w.heap.size + 1 + 1) (w.heap.size + 1 + 1 + 1) (w.heap.size + 1 + 1 + 1 + 1) fa fc (.slice none 0 0) F [] x m u g W ⟨hfil, hed, OwnC.nil _ _, hO.sml, hO.srt, hO.asc, hO.low, Nat.zero_le _, hb.size, hE⟩ (tD.stay hb) (tM.stay hb) (tU.stay hb) (tV.stay hb)) (fun h => ⟨k2 h, rfl⟩) (fun h => ⟨k3 h, rfl⟩))
  have hmf : ∀ (fn : Fn) (first cap : Array Value) (w : World), (Instr.makeFunc fn first cap).run Try.prog w = .ok (.func fn first cap) w := fun _ _ _ _ => rfl
  have HW := Lib.hid hw6
  clear hw6 hb1 hb2 hb3 hb4 hb5 hF hO k1 k2 k3
  go_enter Try.func31, Try.ntmps31
  go_wp2_with fail
  rw [← HW.out]
  go_wp2_with fail
  refine CE.out.mono ?_
  rintro e w7 ⟨fv, cv, rfl, h1, h2, h3⟩
  obtain ⟨fa, fc, rfl⟩ : ∃ fa fc, fv = .slice fa (setFF F x m u g).1.length fc := by
    obtain ⟨a, c, h, -⟩ := h1.at_
    exact ⟨a, c, h⟩
  have uG := tG.stay h3
  obtain ⟨g0, gf⟩ := uG.blk.c1
  generalize setFF F x m u g = P at *
  obtain ⟨F2, E2⟩ := P
  dsimp only at h1 h2 h3 CE ⊢
  have hlG := uG.lt
  have u2 : TB 24 (w7.setCell ⟨w.heap.size + 1 + 1 + 1 + 1 + 1, 0, none⟩ (.slice fa F2.length fc)) (w.heap.size + 1 + 1 + 1 + 1 + 1) [.slice fa F2.length fc] := uG.set 0 (.slice fa F2.length fc)
  have hF4 := h1.same (uG.same (by decide) 0 (.slice fa F2.length fc))
  have h4 : Below (w7.setCell ⟨w.heap.size + 1 + 1 + 1 + 1 + 1, 0, none⟩ (.slice fa F2.length fc)).heap.size (w7.setCell ⟨w.heap.size + 1 + 1 + 1 + 1 + 1, 0, none⟩ (.slice fa F2.length fc)) ((w7.setCell ⟨w.heap.size + 1 + 1 + 1 + 1 + 1, 0, none⟩ (.slice fa F2.length fc)).alloc (.cells #[.slice fa F2.length fc] 24)) := (Below.refl _ _).alloc (Nat.le_refl _) _
  have h5 := below_set (hb6.trans (h3.mono hb6.size)) (show w.heap.size ≤ w.heap.size + 1 + 1 + 1 + 1 + 1 by omega) 0 (.slice fa F2.length fc)
  have n0 := (u2.stay h4).blk.c1.1
  have HFN : Hid (SetR w.heap.size (F2, E2) w (.returned (.tuple #[.agg #[.slice fa F2.length fc], .int .i64 E2])) ((w7.setCell ⟨w.heap.size + 1 + 1 + 1 + 1 + 1, 0, none⟩ (.slice fa F2.length fc)).alloc (.cells #[.slice fa F2.length fc] 24))) := Lib.hid
    ⟨_, rfl, (hF4.mono hb6.size).stay h4, h5.trans (h4.mono h5.size)⟩
  clear u2 h5
  clear h1 h2 h3 CE hF4 uG h4
  go_wp2_with fail
  exact bodyPost_ret (v := .tuple #[.agg #[.slice fa F2.length fc], .int .i64 E2]) (by simp [results, Try.f31, go_sem, n0]) rfl HFN.out
end Go.Proofs.Ytafnbpkdenjipaa.fl
