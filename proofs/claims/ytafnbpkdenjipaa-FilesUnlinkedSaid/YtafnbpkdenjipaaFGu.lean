/-
  unlink of package files: the step.
  unlink and removeDir of package files: the steps.
  removeDir of package files: the step.
  link of package files: the step.
-/
import Derived.Test.YtafnbpkdenjipaaFGe
import Derived.Test.YtafnbpkdenjipaaFPu
import Derived.Test.YtafnbpkdenjipaaFGr
namespace Go.Proofs.Ytafnbpkdenjipaa.fl
open Go.RowKit Go.Proofs.Ytafnbpkdenjipaa.cm

def LowF (F : FilP) : Prop := ∀ d ∈ F, ∀ n ∈ d.nodes, n.ents.length ≤ 100
/-- files that a step works on -/
structure EdI (B E : Nat) (w : World) (fa : Option Addr) (fc : Nat) (cv : Value) (F : FilP) (l : List ChgP) : Prop where
  fil : OutF B w (.slice fa F.length fc) F
  ed : TB 100 w E [.slice fa F.length fc, cv]
  own : OwnC B w cv l
  sml : Sml F
  srt : SrtF F
  asc : AscF F
  low : LowF F
  few : l.length ≤ 900
  hB : B ≤ w.heap.size
  hE : B ≤ E
section
variable {B E : Nat} {w w' : World} {fa : Option Addr} {fc : Nat} {cv : Value} {F : FilP} {l : List ChgP}
theorem EdI.stay (h : EdI B E w fa fc cv F l) (hb : Below w.heap.size w w') : EdI B E w' fa fc cv F l :=
  ⟨h.fil.stay hb, h.ed.stay hb, own_keep h.own fun g hg => hb.block g (own_lt h.own hg).2, h.sml, h.srt, h.asc, h.low, h.few, Nat.le_trans h.hB hb.size, h.hE⟩
theorem EdI.files (h : EdI B E w fa fc cv F l) : FilesAt w fa F := by
  obtain ⟨a', c', hv, -, -, hF⟩ := h.fil.at_
  injection hv with hv _ _
  subst hv
  exact hF
end
theorem onF_mem2 {F : FilP} {x : At} {f : DevP → DevP} {d : DevP} (h : d ∈ onF F x.dev f) : d ∈ F ∨ ∃ d0 ∈ F, d = f d0 := by
  unfold onF at h
  obtain ⟨i, hi⟩ := List.mem_iff_getElem?.1 h
  rw [List.getElem?_modify] at hi
  cases hf : F[i]? with
  | none => rw [hf] at hi; simp at hi
  | some d0 =>
    rw [hf] at hi
    by_cases e : x.dev.toNat = i
    · simp [e] at hi
      exact .inr ⟨d0, List.mem_of_getElem? hf, hi.symm⟩
    · simp [e] at hi
      subst hi
      exact .inl (List.mem_of_getElem? hf)
theorem pointF_len (F : FilP) (x : At) (s : ByteArray) (tg : At) : (pointF F x s tg).length = F.length := onF_len _ _ _
theorem mod_mem {l : List NodeP} {g : Int} {f : NodeP → NodeP} {n : NodeP} (h : n ∈ modL l g f) : n ∈ l ∨ ∃ m ∈ l, n = f m := by
  unfold modL at h
  obtain ⟨m, hm, e⟩ := List.mem_map.1 h
  split at e
  · exact .inr ⟨m, hm, e.symm⟩
  · exact .inl (e ▸ hm)
theorem mod_len (l : List NodeP) (g : Int) (f : NodeP → NodeP) : (modL l g f).length = l.length := by unfold modL; rw [List.length_map]
theorem ins_len (l : List EntP) (s : ByteArray) (i : Int) : (insE l s i).length ≤ l.length + l.length + 1 := by
  unfold insE
  simp only [List.length_append, List.length_cons]
  have h1 := List.length_filter_le (fun e : EntP => decide (lt e.name s)) l
  have h2 := List.length_filter_le (fun e : EntP => decide (lt s e.name)) l
  omega
theorem rem_len (l : List EntP) (s : ByteArray) : (remE l s).length ≤ l.length := List.length_filter_le _ _
theorem asc_modL {l : List NodeP} (h : AscL l) (g : Int) (f : NodeP → NodeP) (hf : ∀ n, (f n).ino = n.ino) : AscL (modL l g f) := by
  unfold AscL modL
  rw [List.pairwise_map]
  refine h.imp fun {a b} hab => ?_
  have e : ∀ n : NodeP, (if n.ino = g then f n else n).ino = n.ino := fun n => by split; exact hf n; rfl
  rw [e, e]
  exact hab
theorem pointF_mem {F : FilP} {x : At} {s : ByteArray} {tg : At} {d : DevP} (h : d ∈ pointF F x s tg) : ∃ d0 ∈ F, d.nodes.length = d0.nodes.length ∧ (AscL d0.nodes → AscL d.nodes) ∧ ∀ n ∈ d.nodes, n ∈ d0.nodes ∨ ∃ m ∈ d0.nodes, n = if tg = zA then remF s m else insF s tg.ino m := by
  unfold pointF at h
  rcases onF_mem2 h with h | ⟨d0, h0, rfl⟩
  · exact ⟨d, h, rfl, id, fun n hn => .inl hn⟩
  · refine ⟨d0, h0, mod_len _ _ _, fun ha => asc_modL ha _ _ (fun n => by split <;> rfl), fun n hn => ?_⟩
    rcases mod_mem hn with h | ⟨m, hm, e⟩
    · exact .inl h
    · refine .inr ⟨m, hm, ?_⟩
      rw [e]
      split <;> rfl
theorem AscF.point {F : FilP} (h : AscF F) (x : At) (s : ByteArray) (tg : At) : AscF (pointF F x s tg) := fun d hd => by
  obtain ⟨d0, h0, -, h1, -⟩ := pointF_mem hd
  exact h1 (h d0 h0)
theorem Sml.point {F : FilP} (h : Sml F) (hl : LowF F) (x : At) (s : ByteArray) (tg : At) : Sml (pointF F x s tg) := by
  refine ⟨by rw [pointF_len]; exact h.len, fun d hd => ?_, fun d hd n hn => ?_⟩
  · obtain ⟨d0, h0, e, -⟩ := pointF_mem hd
    rw [e]
    exact h.nodes d0 h0
  · obtain ⟨d0, h0, -, -, e⟩ := pointF_mem hd
    rcases e n hn with e | ⟨m, hm, rfl⟩
    · exact h.ents d0 h0 n e
    · have := hl d0 h0 m hm
      split
      · have := rem_len m.ents s
        show (remE m.ents s).length ≤ 1000
        omega
      · have := ins_len m.ents s tg.ino
        show (insE m.ents s tg.ino).length ≤ 1000
        omega
theorem LowF.rem {F : FilP} (h : LowF F) (x : At) (s : ByteArray) : LowF (pointF F x s zA) := fun d hd n hn => by
  obtain ⟨d0, h0, -, -, e⟩ := pointF_mem hd
  rcases e n hn with e | ⟨m, hm, rfl⟩
  · exact h d0 h0 n e
  · rw [if_pos rfl]
    exact Nat.le_trans (rem_len m.ents s) (h d0 h0 m hm)
theorem SrtF.rem {F : FilP} (h : SrtF F) (x : At) (s : ByteArray) : SrtF (pointF F x s zA) := fun d hd n hn => by
  obtain ⟨d0, h0, -, -, e⟩ := pointF_mem hd
  rcases e n hn with e | ⟨m, hm, rfl⟩
  · exact h d0 h0 n e
  · rw [if_pos rfl]
    exact sort_rem (h d0 h0 m hm) s

/-- a list of one place, of two -/
theorem place_row (w : World) (x : At) (s : ByteArray) : RowAt PlaceAt 3 (w.alloc (.cells #[.int .i64 x.dev, .int .i64 x.ino, .string s] 82)) (some ⟨w.heap.size, 0, none⟩) [(x, s)] := by
  have t := (TB.new1 w [.int .i64 x.dev, .int .i64 x.ino, .string s] 82 _ rfl).blk.c3
  obtain ⟨p0, p1, p2, -⟩ := t
  refine .inr ⟨_, 0, rfl, fun j e hj => ?_⟩
  cases j with
  | zero =>
    simp at hj
    subst hj
    exact ⟨p0, p1, p2⟩
  | succ j => simp at hj
theorem checkPlace1 (a : Option Addr) (cap : Nat) (F : FilP) (b : Nat) (x : At) (s : ByteArray) (w : World) (hF : FilesAt w a F) (hS : Sml F) (hP : RowAt PlaceAt 3 w (some ⟨b, 0, none⟩) [(x, s)]) :
    Calls Try.prog 71 #[.agg #[.slice a F.length cap], .slice (some ⟨b, 0, none⟩) 1 1] w fun e w' => e = .returned (.int .i64 (placesE F [(x, s)])) ∧ Below w.heap.size w w' := checkPlaces_any a cap F (some ⟨b, 0, none⟩) 1 [(x, s)] w hF hS hP (by simp)
/-- a step ends with a point -/
theorem StepR.of_point {B E : Nat} {w w1 : World} {fa : Option Addr} {fc : Nat} {cv : Value} {F : FilP} {l : List ChgP} {x : At} {s : ByteArray} {tg : At} (h : EdI B E w fa fc cv F l) (hb : SameB E w w1) (hb2 : Below B w w1) {w2 : World} {e : Ending} (hp : PointR B E fa fc F l x s tg w1 e w2) :
    StepR B E (pointF F x s tg) (l ++ [pointC F x s tg]) 0 w (.returned (.int .i64 0)) w2 := by
  obtain ⟨-, cv', h1, h2, h3, h4, h5⟩ := hp
  refine ⟨rfl, hb.trans h4, hb2.trans h5, fun _ => ⟨fa, fc, cv', ?_, ?_, h3, h.sml.point h.low x s tg, h.asc.point x s tg, ?_⟩⟩
  · rw [pointF_len]; exact h2
  · rw [pointF_len]; exact h1
  · rw [List.length_append]; have := h.few; simp; omega
end Go.Proofs.Ytafnbpkdenjipaa.fl
namespace Go.Proofs.Ytafnbpkdenjipaa.fl
open Go.RowKit Go.Proofs.Ytafnbpkdenjipaa.cm

def unlE (F : FilP) (x : At) (s : ByteArray) : Int := if placesE F [(x, s)] ≠ 0 then placesE F [(x, s)] else match atF F x s with | none => 2 | some a => if dirF F a then 21 else 0

theorem leadV_eq (o : Option At) : leadV o = .tuple #[.agg #[.int .i64 (o.getD zA).dev, .int .i64 (o.getD zA).ino], .bool o.isSome] := by cases o <;> rfl
theorem at_node {F : FilP} {x : At} {s : ByteArray} (h : (atF F x s).isSome = true) : ∃ n, nodeF F x = some n ∧ (findE n.ents s).isSome = true := by
  cases hn : nodeF F x with
  | none => rw [atF_none hn] at h; cases h
  | some n =>
    rw [atF_some hn] at h
    exact ⟨n, rfl, by simpa using h⟩
theorem StepR.of_err {B E : Nat} {w w' : World} {F : FilP} {l : List ChgP} {err e : Int} (h : Below w.heap.size w w') (hB : B ≤ w.heap.size) (he : e ≠ 0) (hu : err = e) : StepR B E F l err w (.returned (.int .i64 e)) w' := by
  subst hu
  exact ⟨rfl, .of_below h, h.mono hB, fun h => (he h).elim⟩

set_option maxRecDepth 100000 in
set_option maxHeartbeats 1000000 in
theorem unlink_any (B E : Nat) (fa : Option Addr) (fc : Nat) (cv : Value) (F : FilP) (l : List ChgP) (x : At) (s : ByteArray) (w : World) (h : EdI B E w fa fc cv F l) :
    Calls Try.prog 60 #[.pointer (some ⟨E, 0, none⟩), .agg #[.int .i64 x.dev, .int .i64 x.ino, .string s]] w (StepR B E (pointF F x s zA) (l ++ [pointC F x s zA]) (unlE F x s) w) := by
  obtain ⟨w1, hw1⟩ : ∃ w1, w1 = w.alloc (.cells #[.int .i64 x.dev, .int .i64 x.ino, .string s] 82) := ⟨_, rfl⟩
  have hb1 : Below w.heap.size w w1 := by rw [hw1]; exact (Below.refl _ _).alloc (Nat.le_refl _) _
  have tP : TB 82 w1 w.heap.size [.int .i64 x.dev, .int .i64 x.ino, .string s] := by rw [hw1]; exact TB.new1 w _ _ _ rfl
  obtain ⟨p0, p1, p2, -⟩ := tP.blk.c3
  have h1 := h.stay hb1
  obtain ⟨e0, e1, -⟩ := h1.ed.blk.c2
  have hEl := h1.ed.lt
  have hPl := tP.lt
  have H1 := Lib.hid h1
  have HB0 := Lib.hid h.hB
  have HH := Lib.hid h
  have CP := Lib.hid (fun W (hw : Below w1.heap.size w1 W) (hp : RowAt PlaceAt 3 W (some ⟨w1.heap.size, 0, none⟩) [(x, s)]) => checkPlace1 fa fc F w1.heap.size x s W (h1.stay hw).files h.sml hp)
  have CL := Lib.hid (fun W (hw : Below w1.heap.size w1 W) => leadsTo_any fa fc F x s W (h1.stay hw).files h.sml h.srt)
  have CI := Lib.hid (fun a W (hw : Below w1.heap.size w1 W) => isDir_any fa fc F a W (h1.stay hw).files h.sml)
  have HW1 := Lib.hid hw1
  have HB1 := Lib.hid hb1
  clear h hw1 h1 hb1 tP
  go_enter Try.func60, Try.ntmps60
  go_wp2_with fail
  rw [← HW1.out]
  have hbA : Below w1.heap.size w1 (w1.alloc (.cells #[.int .i64 x.dev, .int .i64 x.ino, .string s] 82)).drew := ((Below.refl _ _).alloc (Nat.le_refl _) _).drew
  have hrow : RowAt PlaceAt 3 (w1.alloc (.cells #[.int .i64 x.dev, .int .i64 x.ino, .string s] 82)).drew (some ⟨w1.heap.size, 0, none⟩) [(x, s)] := RowAt.below PlaceAt.stays (place_row w1 x s) ((Below.refl _ _).drew)
  go_region_held3 (fun W => W.cell? ⟨w.heap.size, 0, none⟩ = some (.int .i64 x.dev) ∧ W.cell? ⟨w.heap.size, 1, none⟩ = some (.int .i64 x.ino) ∧ W.cell? ⟨w.heap.size, 2, none⟩ = some (.string s) ∧ W.cell? ⟨E, 0, none⟩ = some (.slice fa F.length fc))
    (first
      | go_keep
      | (with_reducible exact ⟨(hb2.cell (p := ⟨w.heap.size, 0, none⟩) hPl).trans p0, (hb2.cell (p := ⟨w.heap.size, 1, none⟩) hPl).trans p1, (hb2.cell (p := ⟨w.heap.size, 2, none⟩) hPl).trans p2, (hb2.cell (p := ⟨E, 0, none⟩) hEl).trans e0⟩))
    ((go_at_call 71; (with_reducible refine (CP.out _ hbA hrow).mono ?_); rintro e w2 ⟨rfl, hb20⟩; have hb2 : Below w1.heap.size w1 w2 := hbA.trans (hb20.mono hbA.size)))
  have HB2 := Lib.hid (HB1.out.trans (hb2.mono HB1.out.size))
  have HU := Lib.hid (show unlE F x s = if placesE F [(x, s)] ≠ 0 then placesE F [(x, s)] else match atF F x s with | none => 2 | some a => if dirF F a then 21 else 0 from rfl)
  generalize placesE F [(x, s)] = P at *
  by_cases hP : P = 0
  · subst hP
    have HU := Lib.hid (HU.out.trans (if_neg (fun h => h rfl)))
    clear CP hbA hrow hb20
    have hb2d : Below w1.heap.size w1 (w2.alloc (.cells #[.int .i64 0, .int .i64 0] 36)).drew := (hb2.alloc hb2.size _).drew
    have tA : TB 36 (w2.alloc (.cells #[.int .i64 0, .int .i64 0] 36)).drew w2.heap.size [.int .i64 0, .int .i64 0] := (TB.new1 w2 [.int .i64 0, .int .i64 0] _ _ rfl).drew
    have hlA : w1.heap.size ≤ w2.heap.size := hb2.size
    have nP : w.heap.size ≠ w2.heap.size := by omega
    have nE : E ≠ w2.heap.size := by omega
    have hb2e := hb2.drew
    have CL := Lib.hid (fun W hw => leadV_eq (atF F x s) ▸ CL.out W hw)
    obtain ⟨fnd, hfnd⟩ : ∃ o, o = (atF F x s).isSome := ⟨_, rfl⟩
    obtain ⟨aa, haa⟩ : ∃ o, o = (atF F x s).getD zA := ⟨_, rfl⟩
    rw [← hfnd, ← haa] at CL
    have HO := Lib.hid (And.intro hfnd haa)
    clear hfnd haa
    go_upto_region 4 with fail
    go_cut [6, 7] (fun s6 s7 W => ∃ A, s6 = .pointer (some ⟨A, 0, none⟩) ∧ s7 = .bool fnd ∧ TB 36 W A [.int .i64 aa.dev, .int .i64 aa.ino] ∧ Below w1.heap.size w1 W ∧ w1.heap.size ≤ A)
    case first =>
      go_region_held3 (fun W => W.cell? ⟨w.heap.size, 0, none⟩ = some (.int .i64 x.dev) ∧ W.cell? ⟨w.heap.size, 1, none⟩ = some (.int .i64 x.ino) ∧ W.cell? ⟨w.heap.size, 2, none⟩ = some (.string s) ∧ W.cell? ⟨E, 0, none⟩ = some (.slice fa F.length fc))
        (first
          | go_keep
          | (with_reducible exact ⟨(hb3.cell (p := ⟨w.heap.size, 0, none⟩) hPl).trans p0, (hb3.cell (p := ⟨w.heap.size, 1, none⟩) hPl).trans p1, (hb3.cell (p := ⟨w.heap.size, 2, none⟩) hPl).trans p2, (hb3.cell (p := ⟨E, 0, none⟩) hEl).trans e0⟩)
          | (with_reducible exact ⟨(hb4.cell (p := ⟨w.heap.size, 0, none⟩) hPl).trans p0, (hb4.cell (p := ⟨w.heap.size, 1, none⟩) hPl).trans p1, (hb4.cell (p := ⟨w.heap.size, 2, none⟩) hPl).trans p2, (hb4.cell (p := ⟨E, 0, none⟩) hEl).trans e0⟩))
        ((go_at_call 43; (first | (with_reducible refine (CL.out _ hb2d).mono ?_) | (with_reducible refine (CL.out _ hb2e).mono ?_)); rintro e w3 ⟨rfl, hb30⟩; first | (have hb3 : Below w1.heap.size w1 w3 := hb2d.trans (hb30.mono hb2d.size); have hb4 := below_set2 hb3 hlA (.int .i64 aa.dev) (.int .i64 aa.ino); have tF := ((tA.stay hb30).set 0 (.int .i64 aa.dev)).set 1 (.int .i64 aa.ino); have hA3 := hlA; obtain ⟨a0, a1, af0, af1⟩ := (tA.stay hb30).blk.c2) | (have hb3 : Below w1.heap.size w1 w3 := hb2e.trans (hb30.mono hb2e.size); have hb4 := hb3.alloc hb3.size (.cells #[.int .i64 aa.dev, .int .i64 aa.ino] 36); have tF := TB.new1 w3 [.int .i64 aa.dev, .int .i64 aa.ino] 36 _ rfl; have hA3 := hb3.size)))
      all_goals
        go_wp2_with fail
        go_meet
        exact ⟨_, rfl, rfl, tF, hb4, hA3⟩
    case rest =>
      obtain ⟨A, rfl, rfl, tA', hbc, hA⟩ := hcut
      have HC := Lib.hid hbc
      have hbw := Lib.hid (HB1.out.trans (hbc.mono HB1.out.size))
      have c0 := (hbc.cell (p := ⟨w.heap.size, 0, none⟩) hPl).trans p0
      have c1 := (hbc.cell (p := ⟨w.heap.size, 1, none⟩) hPl).trans p1
      have c2 := (hbc.cell (p := ⟨w.heap.size, 2, none⟩) hPl).trans p2
      have c3 := (hbc.cell (p := ⟨E, 0, none⟩) hEl).trans e0
      have hPc := Nat.lt_of_lt_of_le hPl hbc.size
      have hEc := Nat.lt_of_lt_of_le hEl hbc.size
      have hAc := tA'.lt
      obtain ⟨a0, a1, -⟩ := tA'.blk.c2
      clear hb2d hb2e tA hlA nP nE hb2 hbc p0 p1 p2 e0 e1 tA' CL
      cases fnd with
      | false =>
        have HU2 : Hid (unlE F x s = 2) := Lib.hid (by
          rw [HU.out]
          cases hat : atF F x s with
          | none => rfl
          | some a => have := HO.out.1; rw [hat] at this; cases this)
        clear CI HU
        go_wp2_with fail
        go_ret
        exact .of_err hbw.out HB0.out (by decide) HU2.out
      | true =>
        have hat : atF F x s = some aa := by
          have h1 := HO.out.1
          have h2 := HO.out.2
          cases hx : atF F x s with
          | none => rw [hx] at h1; cases h1
          | some a => rw [hx] at h2; rw [h2]; rfl
        have HU2 : Hid (unlE F x s = if dirF F aa then 21 else 0) := Lib.hid (by rw [HU.out, hat])
        have HAT := Lib.hid hat
        clear hat HU
        have hbd := (HC.out).drew
        obtain ⟨D, hD⟩ : ∃ D, D = dirF F aa := ⟨_, rfl⟩
        have CI2 := Lib.hid (CI.out aa _ hbd)
        rw [← hD] at CI2 HU2
        clear hD CI
        go_wp2_with fail
        go_region_held3 (fun W => W.cell? ⟨A, 0, none⟩ = some (.int .i64 aa.dev) ∧ W.cell? ⟨A, 1, none⟩ = some (.int .i64 aa.ino) ∧ W.cell? ⟨E, 0, none⟩ = some (.slice fa F.length fc))
          (first
            | go_keep
            | (with_reducible exact ⟨(hb5.cell (p := ⟨A, 0, none⟩) hAc).trans a0, (hb5.cell (p := ⟨A, 1, none⟩) hAc).trans a1, (hb5.cell (p := ⟨E, 0, none⟩) hEc).trans c3⟩))
          ((go_at_call 66; (with_reducible refine CI2.out.mono ?_); rintro e w5 ⟨rfl, hb50⟩; have hb5 : Below wc.heap.size wc w5 := (Below.refl wc.heap.size wc).drew.trans hb50))
        have hbw5 := Lib.hid (hbw.out.trans (hb5.mono hbw.out.size))
        cases D with
        | true =>
          go_wp2_with fail
          go_ret
          exact .of_err hbw5.out HB0.out (by decide) HU2.out
        | false =>
          have h5 := H1.out.stay (HC.out.trans (hb5.mono HC.out.size))
          have c0 := (hb5.cell (p := ⟨w.heap.size, 0, none⟩) hPc).trans c0
          have c1 := (hb5.cell (p := ⟨w.heap.size, 1, none⟩) hPc).trans c1
          have c2 := (hb5.cell (p := ⟨w.heap.size, 2, none⟩) hPc).trans c2
          obtain ⟨n, hn, hfi⟩ := at_node (by rw [HAT.out]; rfl)
          obtain ⟨vn, ev, hF5⟩ := h5.fil
          have CPt := Lib.hid (point_any B E fa fc cv F l x s zA w5 vn ev n hF5 h5.ed h5.own h5.sml h5.srt h5.asc hn (by have := h5.few; omega) h5.hB h5.hE (fun _ => hfi))
          clear hF5 hn hfi h5
          go_wp2_with fail
          refine CPt.out.mono ?_
          intro e w6 hp
          obtain rfl := hp.1
          have HFN := Lib.hid (StepR.of_point HH.out (.of_below hbw5.out) (hbw5.out.mono HB0.out) hp)
          clear hp CPt
          go_wp2_with fail
          go_ret
          rw [HU2.out]
          exact HFN.out
  · have e2 : (P == 0) = false := by simpa using hP
    have HU := Lib.hid (HU.out.trans (if_pos hP))
    clear CP CL CI hbA hrow hb2 hb20
    go_wp2_with fail
    go_ret
    exact .of_err HB2.out HB0.out hP HU.out
end Go.Proofs.Ytafnbpkdenjipaa.fl
namespace Go.Proofs.Ytafnbpkdenjipaa.fl
open Go.RowKit Go.Proofs.Ytafnbpkdenjipaa.cm

def rmdE (F : FilP) (x : At) (s : ByteArray) : Int := if placesE F [(x, s)] ≠ 0 then placesE F [(x, s)] else match atF F x s with | none => 2 | some a => if dirF F a then (if voidF F a then 0 else 39) else 20

end Go.Proofs.Ytafnbpkdenjipaa.fl
namespace Go.Proofs.Ytafnbpkdenjipaa.fl
open Go.RowKit Go.Proofs.Ytafnbpkdenjipaa.cm

/-- what stands while a step with a place and a node goes on -/
structure PlS (B E N : Nat) (x : At) (s : ByteArray) (y : At) (fa : Option Addr) (fc : Nat) (cv : Value) (F : FilP) (l : List ChgP) (w0 w : World) : Prop where
  ed : EdI B E w fa fc cv F l
  bel : Below w0.heap.size w0 w
  pl : TB 82 w N [.int .i64 x.dev, .int .i64 x.ino, .string s]
  fl : TB 36 w (N + 1) [.int .i64 y.dev, .int .i64 y.ino]
section
variable {B E N : Nat} {x : At} {s : ByteArray} {y : At} {fa : Option Addr} {fc : Nat} {cv : Value} {F : FilP} {l : List ChgP} {w0 w w' : World}
theorem PlS.stay (h : PlS B E N x s y fa fc cv F l w0 w) (hb : Below w.heap.size w w') : PlS B E N x s y fa fc cv F l w0 w' := ⟨h.ed.stay hb, h.bel.trans (hb.mono h.bel.size), h.pl.stay hb, h.fl.stay hb⟩
theorem PlS.drew (h : PlS B E N x s y fa fc cv F l w0 w) : PlS B E N x s y fa fc cv F l w0 w.drew := h.stay (Below.refl _ _).drew
theorem PlS.e0 (h : PlS B E N x s y fa fc cv F l w0 w) : w.cell? ⟨E, 0, none⟩ = some (.slice fa F.length fc) := h.ed.ed.blk.c2.1
theorem PlS.p0 (h : PlS B E N x s y fa fc cv F l w0 w) : w.cell? ⟨N, 0, none⟩ = some (.int .i64 x.dev) := h.pl.blk.c3.1
theorem PlS.p1 (h : PlS B E N x s y fa fc cv F l w0 w) : w.cell? ⟨N, 1, none⟩ = some (.int .i64 x.ino) := h.pl.blk.c3.2.1
theorem PlS.p2 (h : PlS B E N x s y fa fc cv F l w0 w) : w.cell? ⟨N, 2, none⟩ = some (.string s) := h.pl.blk.c3.2.2.1
theorem PlS.y0 (h : PlS B E N x s y fa fc cv F l w0 w) : w.cell? ⟨N + 1, 0, none⟩ = some (.int .i64 y.dev) := h.fl.blk.c2.1
theorem PlS.y1 (h : PlS B E N x s y fa fc cv F l w0 w) : w.cell? ⟨N + 1, 1, none⟩ = some (.int .i64 y.ino) := h.fl.blk.c2.2.1
end
theorem places_node {F : FilP} {x : At} {s : ByteArray} (h : placesE F [(x, s)] = 0) : ∃ n, nodeF F x = some n := by
  cases hn : nodeF F x with
  | some n => exact ⟨n, rfl⟩
  | none =>
    unfold placesE dirsE at h
    simp [hn] at h

def lnkE (F : FilP) (x : At) (s : ByteArray) (y : At) : Int := if placesE F [(x, s)] ≠ 0 then placesE F [(x, s)] else if (nodeF F y).isNone then 2 else if y.dev ≠ x.dev then 18 else if dirF F y then 1 else if (atF F x s).isSome then 17 else if roomF F x then 0 else 28

set_option maxRecDepth 100000 in
set_option maxHeartbeats 1000000 in
theorem link_any (B E : Nat) (fa : Option Addr) (fc : Nat) (cv : Value) (F : FilP) (l : List ChgP) (x : At) (s : ByteArray) (y : At) (w : World) (h : EdI B E w fa fc cv F l) (hz : nodeF F zA = none) :
    Calls Try.prog 56 #[.pointer (some ⟨E, 0, none⟩), .agg #[.int .i64 x.dev, .int .i64 x.ino, .string s], .agg #[.int .i64 y.dev, .int .i64 y.ino]] w (StepR B E (pointF F x s y) (l ++ [pointC F x s y]) (lnkE F x s y) w) := by
  obtain ⟨w1, hw1⟩ : ∃ w1, w1 = (w.alloc (.cells #[.int .i64 x.dev, .int .i64 x.ino, .string s] 82)).alloc (.cells #[.int .i64 y.dev, .int .i64 y.ino] 36) := ⟨_, rfl⟩
  have hb0 : Below w.heap.size w (w.alloc (.cells #[.int .i64 x.dev, .int .i64 x.ino, .string s] 82)) := (Below.refl _ _).alloc (Nat.le_refl _) _
  have hb1 : Below w.heap.size w w1 := by rw [hw1]; exact hb0.alloc hb0.size _
  have K1 : PlS B E w.heap.size x s y fa fc cv F l w w1 := ⟨h.stay hb1, hb1, by rw [hw1]; exact (TB.new1 w _ _ _ rfl).alloc _, by rw [hw1]; exact TB.new1 _ _ _ _ (size_alloc _ _)⟩
  have HB0 := Lib.hid h.hB
  have HH := Lib.hid h
  have HW1 := Lib.hid hw1
  have HZ := Lib.hid hz
  have hrow : RowAt PlaceAt 3 (w1.alloc (.cells #[.int .i64 x.dev, .int .i64 x.ino, .string s] 82)).drew (some ⟨w1.heap.size, 0, none⟩) [(x, s)] := RowAt.below PlaceAt.stays (place_row w1 x s) ((Below.refl _ _).drew)
  have hbA : Below w1.heap.size w1 (w1.alloc (.cells #[.int .i64 x.dev, .int .i64 x.ino, .string s] 82)).drew := ((Below.refl _ _).alloc (Nat.le_refl _) _).drew
  have CP := Lib.hid (checkPlace1 fa fc F w1.heap.size x s _ (K1.stay hbA).ed.files h.sml hrow)
  have p0 := K1.p0
  have p1 := K1.p1
  have p2 := K1.p2
  have e0 := K1.e0
  clear hw1 hb0 hb1 hrow hz h
  go_enter Try.func56, Try.ntmps56
  go_wp2_with fail
  rw [← HW1.out]
  go_region_held3 (fun W => W.cell? ⟨w.heap.size, 0, none⟩ = some (.int .i64 x.dev) ∧ W.cell? ⟨w.heap.size, 1, none⟩ = some (.int .i64 x.ino) ∧ W.cell? ⟨w.heap.size, 2, none⟩ = some (.string s) ∧ W.cell? ⟨E, 0, none⟩ = some (.slice fa F.length fc))
    (first
      | go_keep
      | (with_reducible exact ⟨K2.p0, K2.p1, K2.p2, K2.e0⟩))
    ((go_at_call 71; (with_reducible refine CP.out.mono ?_); rintro e w2 ⟨rfl, hb20⟩; have K2 := (K1.stay hbA).stay hb20))
  have HU := Lib.hid (show lnkE F x s y = if placesE F [(x, s)] ≠ 0 then placesE F [(x, s)] else if (nodeF F y).isNone then 2 else if y.dev ≠ x.dev then 18 else if dirF F y then 1 else if (atF F x s).isSome then 17 else if roomF F x then 0 else 28 from rfl)
  have HPN := Lib.hid (places_node (F := F) (x := x) (s := s))
  generalize placesE F [(x, s)] = P at *
  clear p0 p1 p2 e0 K1 CP hbA hb20
  by_cases hP : P = 0
  · subst hP
    have HU := Lib.hid (HU.out.trans (if_neg (fun h => h rfl)))
    have p0 := K2.p0
    have p1 := K2.p1
    have p2 := K2.p2
    have e0 := K2.e0
    obtain ⟨fnd, hfnd⟩ : ∃ o, o = (atF F x s).isSome := ⟨_, rfl⟩
    obtain ⟨aa, haa⟩ : ∃ o, o = (atF F x s).getD zA := ⟨_, rfl⟩
    have hb2d : Below w2.heap.size w2 (w2.alloc (.cells #[.int .i64 0, .int .i64 0] 36)).drew := ((Below.refl _ _).alloc (Nat.le_refl _) _).drew
    have hb2e : Below w2.heap.size w2 w2.drew := (Below.refl _ _).drew
    have CL := Lib.hid (fun W (hw : Below w2.heap.size w2 W) => leadV_eq (atF F x s) ▸ leadsTo_any fa fc F x s W (K2.stay hw).ed.files HH.out.sml HH.out.srt)
    rw [← hfnd, ← haa] at CL
    rw [← hfnd] at HU
    have tA : TB 36 (w2.alloc (.cells #[.int .i64 0, .int .i64 0] 36)).drew w2.heap.size [.int .i64 0, .int .i64 0] := (TB.new1 w2 [.int .i64 0, .int .i64 0] _ _ rfl).drew
    have nP : w.heap.size ≠ w2.heap.size := by have := K2.pl.lt; omega
    have nE : E ≠ w2.heap.size := by have := K2.ed.ed.lt; omega
    have KH := Lib.hid K2
    clear hfnd haa K2
    go_upto_region 4 with fail
    go_cut [8, 9] (fun s8 s9 W => ∃ A, s8 = .pointer (some ⟨A, 0, none⟩) ∧ s9 = .bool fnd ∧ Below w2.heap.size w2 W)
    case first =>
      go_region_held3 (fun W => W.cell? ⟨w.heap.size, 0, none⟩ = some (.int .i64 x.dev) ∧ W.cell? ⟨w.heap.size, 1, none⟩ = some (.int .i64 x.ino) ∧ W.cell? ⟨w.heap.size, 2, none⟩ = some (.string s) ∧ W.cell? ⟨E, 0, none⟩ = some (.slice fa F.length fc))
        (first
          | go_keep
          | (with_reducible exact ⟨K3.p0, K3.p1, K3.p2, K3.e0⟩)
          | (with_reducible exact ⟨K4.p0, K4.p1, K4.p2, K4.e0⟩))
        ((go_at_call 43; (first | (with_reducible refine (CL.out _ hb2d).mono ?_) | (with_reducible refine (CL.out _ hb2e).mono ?_)); rintro e w3 ⟨rfl, hb30⟩; first | (have hb3 : Below w2.heap.size w2 w3 := hb2d.trans (hb30.mono hb2d.size); have hb4 := below_set2 hb3 (Nat.le_refl _) (.int .i64 aa.dev) (.int .i64 aa.ino); obtain ⟨a0, a1, af0, af1⟩ := (tA.stay hb30).blk.c2; have K3 := KH.out.stay hb3; have K4 := KH.out.stay hb4) | (have hb3 : Below w2.heap.size w2 w3 := hb2e.trans (hb30.mono hb2e.size); have hb4 := hb3.alloc hb3.size (.cells #[.int .i64 aa.dev, .int .i64 aa.ino] 36); have K3 := KH.out.stay hb3; have K4 := KH.out.stay hb4)))
      all_goals
        clear K3 K4
        go_wp2_with fail
        go_meet
        exact ⟨_, rfl, rfl, hb4⟩
    case rest =>
      obtain ⟨A, rfl, rfl, hbc⟩ := hcut
      have Kc := KH.out.stay hbc
      have p0 := Kc.p0
      have p1 := Kc.p1
      have p2 := Kc.p2
      have e0 := Kc.e0
      have y0 := Kc.y0
      have y1 := Kc.y1
      clear KH CL hb2d hb2e tA nP nE hbc
      cases hn : nodeF F y with
      | none =>
        have HU2 : Hid (lnkE F x s y = 2) := Lib.hid (by rw [HU.out, hn]; rfl)
        have CN := Lib.hid (by
          obtain ⟨vn, ev, hf⟩ := Kc.drew.ed.fil
          exact nodeAtO_none B fa fc F y wc.drew vn ev hf HH.out.sml hn)
        clear hn HU
        go_wp2_with fail
        go_region_held3 (fun W => W.cell? ⟨w.heap.size, 0, none⟩ = some (.int .i64 x.dev) ∧ W.cell? ⟨w.heap.size, 1, none⟩ = some (.int .i64 x.ino) ∧ W.cell? ⟨w.heap.size + 1, 0, none⟩ = some (.int .i64 y.dev) ∧ W.cell? ⟨w.heap.size + 1, 1, none⟩ = some (.int .i64 y.ino) ∧ W.cell? ⟨E, 0, none⟩ = some (.slice fa F.length fc))
          (first
            | go_keep
            | (with_reducible exact ⟨K5.p0, K5.p1, K5.y0, K5.y1, K5.e0⟩))
          ((go_at_call 39; (with_reducible refine CN.out.mono ?_); rintro e w5 ⟨rfl, hbw5⟩; have K5 := Kc.drew.stay hbw5))
        clear p0 p1 p2 e0 y0 y1
        go_wp2_with fail
        go_ret
        exact .of_err K5.bel HB0.out (by decide) HU2.out
      | some m =>
        have HU2 : Hid (lnkE F x s y = if y.dev ≠ x.dev then 18 else if dirF F y then 1 else if fnd then 17 else if roomF F x then 0 else 28) := Lib.hid (by rw [HU.out, hn]; rfl)
        have HYZ : Hid (y ≠ zA) := Lib.hid (fun e => by rw [e, HZ.out] at hn; cases hn)
        obtain ⟨j, k, d, hj, hd, hi, hk⟩ := node_where hn
        obtain ⟨vn, ev, hf⟩ := Kc.drew.ed.fil
        obtain ⟨g, cg, -, hgn, -, -⟩ := hf.gN hd hk
        have CN := Lib.hid (nodeAtO_some B fa fc F y wc.drew vn ev hf HH.out.sml hj hd hi hgn)
        clear hn HU hf hj hd hi hk hgn
        go_wp2_with fail
        go_region_held3 (fun W => W.cell? ⟨w.heap.size, 0, none⟩ = some (.int .i64 x.dev) ∧ W.cell? ⟨w.heap.size, 1, none⟩ = some (.int .i64 x.ino) ∧ W.cell? ⟨w.heap.size + 1, 0, none⟩ = some (.int .i64 y.dev) ∧ W.cell? ⟨w.heap.size + 1, 1, none⟩ = some (.int .i64 y.ino) ∧ W.cell? ⟨E, 0, none⟩ = some (.slice fa F.length fc))
          (first
            | go_keep
            | (with_reducible exact ⟨K5.p0, K5.p1, K5.y0, K5.y1, K5.e0⟩))
          ((go_at_call 39; (with_reducible refine CN.out.mono ?_); rintro e w5 ⟨rfl, hbw5⟩; have K5 := Kc.drew.stay hbw5))
        clear p0 p1 p2 e0 y0 y1 CN Kc
        have p0 := K5.p0
        have p1 := K5.p1
        have p2 := K5.p2
        have e0 := K5.e0
        have y0 := K5.y0
        have y1 := K5.y1
        by_cases hdv : y.dev = x.dev
        · have HU3 : Hid (lnkE F x s y = if dirF F y then 1 else if fnd then 17 else if roomF F x then 0 else 28) := Lib.hid (by rw [HU2.out, if_neg (fun h => h hdv)])
          have e3 : (y.dev == x.dev) = true := by simpa using hdv
          have CI := Lib.hid (isDir_any fa fc F y w5.drew K5.drew.ed.files HH.out.sml)
          obtain ⟨D, hD⟩ : ∃ D, D = dirF F y := ⟨_, rfl⟩
          rw [← hD] at CI HU3
          clear hD HU2 hdv
          go_wp2_with fail
          go_region_held3 (fun W => W.cell? ⟨w.heap.size, 0, none⟩ = some (.int .i64 x.dev) ∧ W.cell? ⟨w.heap.size, 1, none⟩ = some (.int .i64 x.ino) ∧ W.cell? ⟨w.heap.size + 1, 0, none⟩ = some (.int .i64 y.dev) ∧ W.cell? ⟨w.heap.size + 1, 1, none⟩ = some (.int .i64 y.ino) ∧ W.cell? ⟨E, 0, none⟩ = some (.slice fa F.length fc))
            (first
              | go_keep
              | (with_reducible exact ⟨K6.p0, K6.p1, K6.y0, K6.y1, K6.e0⟩))
            ((go_at_call 66; (with_reducible refine CI.out.mono ?_); rintro e w6 ⟨rfl, hbw6⟩; have K6 := K5.drew.stay hbw6))
          clear p0 p1 p2 e0 y0 y1 CI K5
          have p0 := K6.p0
          have p1 := K6.p1
          have p2 := K6.p2
          have e0 := K6.e0
          have y0 := K6.y0
          have y1 := K6.y1
          cases D with
          | true =>
            clear p0 p1 p2 e0 y0 y1
            go_wp2_with fail
            go_ret
            exact .of_err K6.bel HB0.out (by decide) HU3.out
          | false =>
            cases fnd with
            | true =>
              clear p0 p1 p2 e0 y0 y1
              go_wp2_with fail
              go_ret
              exact .of_err K6.bel HB0.out (by decide) HU3.out
            | false =>
              have CR := Lib.hid (hasRoom_any fa fc F x w6.drew K6.drew.ed.files HH.out.sml)
              have HU4 : Hid (lnkE F x s y = if roomF F x then 0 else 28) := Lib.hid (by rw [HU3.out]; rfl)
              obtain ⟨R, hR⟩ : ∃ R, R = roomF F x := ⟨_, rfl⟩
              rw [← hR] at CR HU4
              clear hR HU3
              go_wp2_with fail
              go_region_held3 (fun W => W.cell? ⟨w.heap.size, 0, none⟩ = some (.int .i64 x.dev) ∧ W.cell? ⟨w.heap.size, 1, none⟩ = some (.int .i64 x.ino) ∧ W.cell? ⟨w.heap.size + 1, 0, none⟩ = some (.int .i64 y.dev) ∧ W.cell? ⟨w.heap.size + 1, 1, none⟩ = some (.int .i64 y.ino) ∧ W.cell? ⟨E, 0, none⟩ = some (.slice fa F.length fc))
                (first
                  | go_keep
                  | (with_reducible exact ⟨K7.p0, K7.p1, K7.y0, K7.y1, K7.e0⟩))
                ((go_at_call 74; (with_reducible refine CR.out.mono ?_); rintro e w7 ⟨rfl, hbw7⟩; have K7 := K6.drew.stay hbw7))
              clear p0 p1 p2 e0 y0 y1 CR K6
              have p0 := K7.p0
              have p1 := K7.p1
              have p2 := K7.p2
              have e0 := K7.e0
              have y0 := K7.y0
              have y1 := K7.y1
              cases R with
              | false =>
                clear p0 p1 p2 e0 y0 y1
                go_wp2_with fail
                go_ret
                exact .of_err K7.bel HB0.out (by decide) HU4.out
              | true =>
                obtain ⟨n, hn⟩ := HPN.out (by trivial)
                obtain ⟨vn, ev, hF7⟩ := K7.ed.fil
                have CPt := Lib.hid (point_any B E fa fc cv F l x s y w7 vn ev n hF7 K7.ed.ed K7.ed.own K7.ed.sml K7.ed.srt K7.ed.asc hn (by have := K7.ed.few; omega) K7.ed.hB K7.ed.hE (fun e => (HYZ.out e).elim))
                have KB := Lib.hid K7.bel
                clear hF7 hn K7
                go_wp2_with fail
                refine CPt.out.mono ?_
                intro e w8 hp
                obtain rfl := hp.1
                have HFN := Lib.hid (StepR.of_point HH.out (.of_below KB.out) (KB.out.mono HB0.out) hp)
                clear hp CPt
                go_wp2_with fail
                go_ret
                rw [HU4.out]
                exact HFN.out
        · have HU3 : Hid (lnkE F x s y = 18) := Lib.hid (by rw [HU2.out, if_pos hdv])
          have e3 : (y.dev == x.dev) = false := by simpa using hdv
          clear hdv HU2
          go_wp2_with fail
          go_ret
          exact .of_err K5.bel HB0.out (by decide) HU3.out
  · have e2 : (P == 0) = false := by simpa using hP
    have HU := Lib.hid (HU.out.trans (if_pos hP))
    have KB := Lib.hid K2.bel
    clear K2
    go_wp2_with fail
    go_ret
    exact .of_err KB.out HB0.out hP HU.out
end Go.Proofs.Ytafnbpkdenjipaa.fl
