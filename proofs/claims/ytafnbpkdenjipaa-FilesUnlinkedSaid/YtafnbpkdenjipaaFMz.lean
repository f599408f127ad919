/-
  makeNode of package files: what stands when a node has been added.
  makeNode of package files: the step.
  The step of Make as plain data is the call of the chapter.
  Make of package files.
-/
import Derived.Test.YtafnbpkdenjipaaFGu
import Derived.Test.YtafnbpkdenjipaaFVl
import Derived.Test.YtafnbpkdenjipaaFGp
import Derived.BigQuiet
import Derived.Test.YtafnbpkdenjipaaFGq
import Derived.Test.YtafnbpkdenjipaaFGa
namespace Go.Proofs.Ytafnbpkdenjipaa.fl
open Go.RowKit Go.Proofs.Ytafnbpkdenjipaa.cm

/-- files with one node more -/
def mkF (F : FilP) (x : At) (n : NodeP) : FilP := onF F x.dev fun d => addD d (newN d x.ino n)
def mkT (F : FilP) (x : At) : At := ⟨x.dev, match devF F x.dev with | some d => d.next | none => 0⟩
def mkE (F : FilP) (x : At) (s : ByteArray) (n : NodeP) : Int :=
  if placesE F [(x, s)] ≠ 0 then placesE F [(x, s)] else if plainB n = false then 22 else if (atF F x s).isSome then 17 else
  match devF F x.dev with
  | none => 28
  | some d => if 16 ≤ d.nodes.length then 28 else if 1073741824 ≤ d.next then 28 else if roomF F x then 0 else 28

theorem set_add {F : FilP} {x : At} {j : Nat} {d : DevP} (hx : x.dev = (j : Int)) (hd : F[j]? = some d) (n : NodeP) : F.set j ⟨d.next + 1, d.nodes ++ [newN d x.ino n]⟩ = mkF F x n := by
  unfold mkF
  rw [hx]
  exact set_on hd (fun d => addD d (newN d x.ino n))
theorem mkF_mem {F : FilP} {x : At} {n : NodeP} {d : DevP} (h : d ∈ mkF F x n) : d ∈ F ∨ ∃ d0 ∈ F, d = addD d0 (newN d0 x.ino n) := onF_mem2 h
theorem mkF_len (F : FilP) (x : At) (n : NodeP) : (mkF F x n).length = F.length := onF_len _ _ _
theorem asc_snoc {l : List NodeP} (h : AscL l) {m : NodeP} (hm : ∀ n ∈ l, n.ino < m.ino) : AscL (l ++ [m]) := by
  unfold AscL
  rw [List.pairwise_append]
  exact ⟨h, by simp, fun a ha b hb => by simp at hb; subst hb; exact hm a ha⟩
structure AddF (F : FilP) : Prop where
  sml : Sml F
  srt : SrtF F
  asc : AscF F
  low : LowF F
theorem AddF.of {F : FilP} (hO : OKF F) (x : At) (n : NodeP) : AddF (mkF F x n) := by
  have hm : ∀ d ∈ mkF F x n, ∃ d0 ∈ F, d.nodes.length ≤ d0.nodes.length + 1 ∧ AscL d.nodes ∧ ∀ m ∈ d.nodes, m ∈ d0.nodes ∨ m.ents = [] := fun d hd => by
    rcases mkF_mem hd with h | ⟨d0, h0, rfl⟩
    · exact ⟨d, h, Nat.le_succ _, hO.asc d h, fun m hm => .inl hm⟩
    · refine ⟨d0, h0, ?_, asc_snoc (hO.asc d0 h0) (fun m hm => ((hO.2 d0 h0).pre.low m hm).2), fun m hm => ?_⟩
      · show (d0.nodes ++ [_]).length ≤ _
        simp
      · have hm : m ∈ d0.nodes ++ [newN d0 x.ino n] := hm
        rcases List.mem_append.1 hm with h | h
        · exact .inl h
        · simp at h
          subst h
          exact .inr rfl
  refine ⟨⟨by rw [mkF_len]; exact hO.sml.len, fun d hd => ?_, fun d hd m hmm => ?_⟩, fun d hd m hmm => ?_, fun d hd => ?_, fun d hd m hmm => ?_⟩
  · obtain ⟨d0, h0, h1, -⟩ := hm d hd
    have := (hO.2 d0 h0).pre.few
    omega
  · obtain ⟨d0, h0, -, -, h1⟩ := hm d hd
    rcases h1 m hmm with h | h
    · exact hO.sml.ents d0 h0 m h
    · rw [h]; simp
  · obtain ⟨d0, h0, -, -, h1⟩ := hm d hd
    rcases h1 m hmm with h | h
    · exact hO.srt d0 h0 m h
    · rw [h]; exact List.Pairwise.nil
  · exact (hm d hd).choose_spec.2.2.1
  · obtain ⟨d0, h0, -, -, h1⟩ := hm d hd
    rcases h1 m hmm with h | h
    · have := ((hO.2 d0 h0).pre.dir m h).1
      omega
    · rw [h]; simp

/-- a node has been added -/
theorem EdI.add {B E gd j : Nat} {w1 wA : World} {fa : Option Addr} {fc : Nat} {cv v' : Value} {F : FilP} {l : List ChgP} {vn : Nat → Value} {ev : Nat → Nat → Value} {d : DevP} {m : NodeP} (hf : FilesO B w1 (.slice fa F.length fc) F vn ev) (hE : TB 100 w1 E [.slice fa F.length fc, cv]) (hC : OwnC B w1 cv l)
    (hd : F[j]? = some d) (hgd : (Value.slice fa F.length fc).ownBlock = some gd) (hg : w1.grownBy wA (vn j).ownBlock) (ho : wA.ownsRow B 43 8 v' (d.nodes.length + 1) (nrow (ev j) 0 d.nodes ++ ncs m (.slice none 0 0))) (hat : v'.ownBlock = (vn j).ownBlock ∨ v'.ownBlock = some w1.heap.size) (hm : m.ents = []) (hB : B ≤ w1.heap.size) :
    OutF B ((wA.setCell ⟨gd, j * 2 + 1, none⟩ v').setCell ⟨gd, j * 2 + 0, none⟩ (.int .i64 (d.next + 1))) (.slice fa F.length fc) (F.set j ⟨d.next + 1, d.nodes ++ [m]⟩) ∧
    TB 100 ((wA.setCell ⟨gd, j * 2 + 1, none⟩ v').setCell ⟨gd, j * 2 + 0, none⟩ (.int .i64 (d.next + 1))) E [.slice fa F.length fc, cv] ∧ OwnC B ((wA.setCell ⟨gd, j * 2 + 1, none⟩ v').setCell ⟨gd, j * 2 + 0, none⟩ (.int .i64 (d.next + 1))) cv l ∧
    SameB E w1 ((wA.setCell ⟨gd, j * 2 + 1, none⟩ v').setCell ⟨gd, j * 2 + 0, none⟩ (.int .i64 (d.next + 1))) ∧ Below B w1 ((wA.setCell ⟨gd, j * 2 + 1, none⟩ v').setCell ⟨gd, j * 2 + 0, none⟩ (.int .i64 (d.next + 1))) := by
  have hN := hf.nodes j d hd
  have hup : ∀ k, k ≠ d.nodes.length → upd1 (ev j) d.nodes.length (.slice none 0 0) k = ev j k := fun k hk => upd1_other _ _ hk
  have hups : ∀ k g, (upd1 (ev j) d.nodes.length (.slice none 0 0) k).ownBlock = some g → (ev j k).ownBlock = some g := fun k g hg' => by
    by_cases c : k = d.nodes.length
    · rw [c, upd1_same] at hg'; cases hg'
    · rwa [hup k c] at hg'
  have ho2 : OwnN B wA v' (upd1 (ev j) d.nodes.length (.slice none 0 0)) (d.nodes ++ [m]) := by
    unfold OwnN
    rw [List.length_append, nrow_app, Nat.zero_add, nrow_ext (ev' := ev j) 0 d.nodes (fun k _ h => hup k (by omega))]
    have : nrow (upd1 (ev j) d.nodes.length (.slice none 0 0)) d.nodes.length [m] = ncs m (.slice none 0 0) := by simp [nrow, upd1_same]
    rw [this]
    exact ho
  have f1 := hf.setNodes hd hg ho2 (fun k n hk => by
    rw [List.getElem?_append] at hk
    split at hk
    · rename_i hlt
      rw [hup k (by omega)]
      have he := hf.ents j d k n hd hk
      exact own_keep he fun g' hg' => hg.block g' (own_lt he hg').2 (fun e => own_types he hN (by decide) hg' e.symm)
    · have hkk : k = d.nodes.length := by
        have := (List.getElem?_eq_some_iff.1 hk).1
        simp at this
        omega
      rw [hkk] at hk ⊢
      simp at hk
      rw [upd1_same, ← hk, hm]
      exact OwnE.nil _ _) (fun k m' g' h1 h2 => (hf.injE j k j m' g' (hups k g' h1) (hups m' g' h2)).2) (fun k g' h1 => ⟨k, hups k g' h1⟩) (fun g' hg' => by
    rcases hat with h | h
    · exact .inl (h ▸ hg')
    · rw [h] at hg'; injection hg' with hg'; exact .inr (by omega)) hgd
  have f2 := f1.setNext (setN_at hd _) (d.next + 1) hgd
  rw [List.set_set] at f2
  obtain ⟨cc, fz, hkd⟩ := Lib.ownsRow_kind hf.row gd hgd
  have hEd : E ≠ gd := fun e => hE.ne hf.row (by decide) (e ▸ hgd)
  have oC : OwnC B wA cv l := own_keep hC fun g' hg' => hg.block g' (own_lt hC hg').2 (fun e => own_types hC hN (by decide) hg' e.symm)
  have kd : wA.ownsRow B 72 2 (.slice fa F.length fc) F.length (drow vn 0 F) := own_keep hf.row fun g' hg' => hg.block g' (own_lt hf.row hg').2 (fun e => own_types hf.row hN (by decide) hg' e.symm)
  obtain ⟨cc2, fz2, hkd2⟩ := Lib.ownsRow_kind kd gd hgd
  have hnC : cv.ownBlock ≠ some gd := own_types kd oC (by decide) hgd
  have s1 : SameB E wA (wA.setCell ⟨gd, j * 2 + 1, none⟩ v') := .setT hkd2 (.inl rfl) _ _
  have kd3 := own_store kd hgd (j * 2 + 1) v'
  obtain ⟨cc3, fz3, hkd3⟩ := Lib.ownsRow_kind kd3 gd hgd
  have hBd := (own_lt hf.row hgd).1
  refine ⟨⟨_, _, f2⟩, ((hE.grown hN (by decide) hg).other hEd _ _).other hEd _ _, own_other (own_other oC hnC _ _) hnC _ _, ((SameB.grown hN (.inr (.inl rfl)) hg).trans s1).trans (.setT hkd3 (.inl rfl) _ _), below_set (below_set ((Below.refl B w1).grown hg hB (fun g hg' => (own_lt hN hg').1)) hBd _ _) hBd _ _⟩
/-- a step ends with a point, of other files than those that it began with -/
theorem StepR.of_point2 {B E : Nat} {w w1 : World} {fa : Option Addr} {fc : Nat} {F : FilP} {l : List ChgP} {x : At} {s : ByteArray} {tg : At} (hA : AddF F) (hl : l.length ≤ 900) (hb : SameB E w w1) (hb2 : Below B w w1) {w2 : World} {e : Ending} (hp : PointR B E fa fc F l x s tg w1 e w2) :
    StepR B E (pointF F x s tg) (l ++ [pointC F x s tg]) 0 w (.returned (.int .i64 0)) w2 := by
  obtain ⟨-, cv', h1, h2, h3, h4, h5⟩ := hp
  refine ⟨rfl, hb.trans h4, hb2.trans h5, fun _ => ⟨fa, fc, cv', ?_, ?_, h3, hA.sml.point hA.low x s tg, hA.asc.point x s tg, ?_⟩⟩
  · rw [pointF_len]; exact h2
  · rw [pointF_len]; exact h1
  · rw [List.length_append]; simp; omega
end Go.Proofs.Ytafnbpkdenjipaa.fl
namespace Go.Proofs.Ytafnbpkdenjipaa.fl
open Go.RowKit Go.Proofs.Ytafnbpkdenjipaa.cm

/-- what stands while makeNode goes on -/
structure MkS (B E N : Nat) (x : At) (s : ByteArray) (n : NodeP) (v : Value) (fa : Option Addr) (fc : Nat) (cv : Value) (F : FilP) (l : List ChgP) (w0 w : World) : Prop where
  ed : EdI B E w fa fc cv F l
  bel : Below w0.heap.size w0 w
  pl : TB 82 w N [.int .i64 x.dev, .int .i64 x.ino, .string s]
  nd : TB 43 w (N + 1) (ncs n v)
section
variable {B E N : Nat} {x : At} {s : ByteArray} {n : NodeP} {v : Value} {fa : Option Addr} {fc : Nat} {cv : Value} {F : FilP} {l : List ChgP} {w0 w w' : World}
theorem MkS.stay (h : MkS B E N x s n v fa fc cv F l w0 w) (hb : Below w.heap.size w w') : MkS B E N x s n v fa fc cv F l w0 w' := ⟨h.ed.stay hb, h.bel.trans (hb.mono h.bel.size), h.pl.stay hb, h.nd.stay hb⟩
theorem MkS.drew (h : MkS B E N x s n v fa fc cv F l w0 w) : MkS B E N x s n v fa fc cv F l w0 w.drew := h.stay (Below.refl _ _).drew
theorem MkS.e0 (h : MkS B E N x s n v fa fc cv F l w0 w) : w.cell? ⟨E, 0, none⟩ = some (.slice fa F.length fc) := h.ed.ed.blk.c2.1
theorem MkS.p0 (h : MkS B E N x s n v fa fc cv F l w0 w) : w.cell? ⟨N, 0, none⟩ = some (.int .i64 x.dev) := h.pl.blk.c3.1
theorem MkS.p1 (h : MkS B E N x s n v fa fc cv F l w0 w) : w.cell? ⟨N, 1, none⟩ = some (.int .i64 x.ino) := h.pl.blk.c3.2.1
theorem MkS.p2 (h : MkS B E N x s n v fa fc cv F l w0 w) : w.cell? ⟨N, 2, none⟩ = some (.string s) := h.pl.blk.c3.2.2.1
theorem MkS.y1 (h : MkS B E N x s n v fa fc cv F l w0 w) : w.cell? ⟨N + 1, 1, none⟩ = some (.int .i64 n.kind) := h.nd.blk.c8.1.2.1
theorem MkS.y2 (h : MkS B E N x s n v fa fc cv F l w0 w) : w.cell? ⟨N + 1, 2, none⟩ = some (.int .i64 n.mode) := h.nd.blk.c8.1.2.2.1
theorem MkS.y3 (h : MkS B E N x s n v fa fc cv F l w0 w) : w.cell? ⟨N + 1, 3, none⟩ = some (.int .i64 n.uid) := h.nd.blk.c8.1.2.2.2.1
theorem MkS.y4 (h : MkS B E N x s n v fa fc cv F l w0 w) : w.cell? ⟨N + 1, 4, none⟩ = some (.int .i64 n.gid) := h.nd.blk.c8.1.2.2.2.2.1
theorem MkS.y6 (h : MkS B E N x s n v fa fc cv F l w0 w) : w.cell? ⟨N + 1, 6, none⟩ = some (.string n.target) := h.nd.blk.c8.1.2.2.2.2.2.2.1
end
theorem FilesO.cellX {B : Nat} {w : World} {v : Value} {F : FilP} {vn : Nat → Value} {ev : Nat → Nat → Value} (h : FilesO B w v F vn ev) {i : Nat} {d : DevP} (hd : F[i]? = some d) {g : Nat} (hg : v.ownBlock = some g) : w.cell? ⟨g, i * 2 + 0, none⟩ = some (.int .i64 d.next) := by
  obtain ⟨cap, hv⟩ := own_form h.row hg
  have hl : i < F.length := (List.getElem?_eq_some_iff.1 hd).1
  rw [own_cell h.row hv (by omega), drow_at vn 0 F i d hd 0 (by omega)]
  rfl

/-- a store to a block that the files' rows do not reach -/
theorem FilesO.setFar {B : Nat} {w0 w : World} {v : Value} {F : FilP} {vn : Nat → Value} {ev : Nat → Nat → Value} (h0 : FilesO B w0 v F vn ev) (h : FilesO B w v F vn ev) {M : Nat} (hM : w0.heap.size ≤ M) (c : Nat) (u : Value) : FilesO B (w.setCell ⟨M, c, none⟩ u) v F vn ev :=
  ⟨own_other h.row (fun e => by have := (own_lt h0.row e).2; omega) _ _, fun i d hd => own_other (h.nodes i d hd) (fun e => by have := h0.ltN i M e; omega) _ _, fun i d k n hd hk => own_other (h.ents i d k n hd hk) (fun e => by have := h0.ltE i k M e; omega) _ _, h.injN, h.injE,
    fun i g hg => by rw [size_set]; exact h.ltN i g hg, fun i k g hg => by rw [size_set]; exact h.ltE i k g hg⟩
theorem FilesO.cellY {B : Nat} {w : World} {v : Value} {F : FilP} {vn : Nat → Value} {ev : Nat → Nat → Value} (h : FilesO B w v F vn ev) {i : Nat} {d : DevP} (hd : F[i]? = some d) {g : Nat} (hg : v.ownBlock = some g) : w.cell? ⟨g, i * 2 + 1, none⟩ = some (vn i) := by
  obtain ⟨cap, hv⟩ := own_form h.row hg
  have hl : i < F.length := (List.getElem?_eq_some_iff.1 hd).1
  rw [own_cell h.row hv (by omega), drow_at vn 0 F i d hd 1 (by omega), Nat.zero_add]
  rfl
theorem mk_node {F : FilP} {j : Nat} {xi : Int} {d : DevP} {pn : NodeP} (hd : F[j]? = some d) (hp : nodeF F ⟨(j : Int), xi⟩ = some pn) (n : NodeP) : nodeF (mkF F ⟨(j : Int), xi⟩ n) ⟨(j : Int), xi⟩ = some pn := by
  have hdv : devF F (j : Int) = some d := devF_idx.trans hd
  have e2 : devF (mkF F ⟨(j : Int), xi⟩ n) (j : Int) = some (addD d (newN d xi n)) := by
    unfold mkF
    rw [devF_on hdv, if_pos rfl]
  rw [nodeF_dev e2]
  rw [nodeF_dev hdv] at hp
  show nodeL (d.nodes ++ [newN d xi n]) xi = some pn
  rw [node_app, show nodeL d.nodes xi = some pn from hp]
  rfl

set_option maxRecDepth 100000 in
set_option maxHeartbeats 1000000 in
theorem makeNode_bad (B E : Nat) (fa : Option Addr) (fc : Nat) (cv : Value) (F : FilP) (l : List ChgP) (x : At) (s : ByteArray) (n : NodeP) (ra : Option Addr) (rl rc : Nat) (w : World) (h : EdI B E w fa fc cv F l) (hP : placesE F [(x, s)] ≠ 0) (F' : FilP) (l' : List ChgP) :
    Calls Try.prog 47 #[.pointer (some ⟨E, 0, none⟩), .agg #[.int .i64 x.dev, .int .i64 x.ino, .string s], .agg #[.int .i64 n.ino, .int .i64 n.kind, .int .i64 n.mode, .int .i64 n.uid, .int .i64 n.gid, .int .i64 n.parent, .string n.target, .slice ra rl rc]] w (StepR B E F' l' (mkE F x s n) w) := by
  obtain ⟨w1, hw1⟩ : ∃ w1, w1 = (w.alloc (.cells #[.int .i64 x.dev, .int .i64 x.ino, .string s] 82)).alloc (.cells #[.int .i64 n.ino, .int .i64 n.kind, .int .i64 n.mode, .int .i64 n.uid, .int .i64 n.gid, .int .i64 n.parent, .string n.target, .slice ra rl rc] 43) := ⟨_, rfl⟩
  have hb0 : Below w.heap.size w (w.alloc (.cells #[.int .i64 x.dev, .int .i64 x.ino, .string s] 82)) := (Below.refl _ _).alloc (Nat.le_refl _) _
  have hb1 : Below w.heap.size w w1 := by rw [hw1]; exact hb0.alloc hb0.size _
  have K1 : MkS B E w.heap.size x s n (.slice ra rl rc) fa fc cv F l w w1 := ⟨h.stay hb1, hb1, by rw [hw1]; exact (TB.new1 w _ _ _ rfl).alloc _, by rw [hw1]; exact TB.new1 _ (ncs n (.slice ra rl rc)) _ _ (size_alloc _ _)⟩
  have HB0 := Lib.hid h.hB
  have HW1 := Lib.hid hw1
  have hrow : RowAt PlaceAt 3 (w1.alloc (.cells #[.int .i64 x.dev, .int .i64 x.ino, .string s] 82)).drew (some ⟨w1.heap.size, 0, none⟩) [(x, s)] := RowAt.below PlaceAt.stays (place_row w1 x s) ((Below.refl _ _).drew)
  have hbA : Below w1.heap.size w1 (w1.alloc (.cells #[.int .i64 x.dev, .int .i64 x.ino, .string s] 82)).drew := ((Below.refl _ _).alloc (Nat.le_refl _) _).drew
  have CP := Lib.hid (checkPlace1 fa fc F w1.heap.size x s _ (K1.stay hbA).ed.files h.sml hrow)
  have p0 := K1.p0
  have p1 := K1.p1
  have p2 := K1.p2
  have e0 := K1.e0
  have HU : Hid (mkE F x s n = placesE F [(x, s)]) := Lib.hid (by unfold mkE; rw [if_pos hP])
  generalize placesE F [(x, s)] = P at *
  have e2 : (P == 0) = false := by simpa using hP
  clear hw1 hb0 hb1 hrow h
  go_enter Try.func47, Try.ntmps47
  go_wp2_with fail
  rw [← HW1.out]
  go_region_held3 (fun W => W.cell? ⟨w.heap.size, 0, none⟩ = some (.int .i64 x.dev) ∧ W.cell? ⟨w.heap.size, 1, none⟩ = some (.int .i64 x.ino) ∧ W.cell? ⟨w.heap.size, 2, none⟩ = some (.string s) ∧ W.cell? ⟨E, 0, none⟩ = some (.slice fa F.length fc))
    (first
      | go_keep
      | (with_reducible exact ⟨K2.p0, K2.p1, K2.p2, K2.e0⟩))
    ((go_at_call 71; (with_reducible refine CP.out.mono ?_); rintro e w2 ⟨rfl, hb20⟩; have K2 := (K1.stay hbA).stay hb20))
  have KB := Lib.hid K2.bel
  clear p0 p1 p2 e0 K1 CP hbA hb20 K2
  go_wp2_with fail
  go_ret
  exact .of_err KB.out HB0.out hP HU.out

set_option maxRecDepth 100000 in
set_option maxHeartbeats 1000000 in
theorem makeNode_ok (B E j : Nat) (gd : Nat) (fc : Nat) (cv : Value) (F : FilP) (l : List ChgP) (xi : Int) (s : ByteArray) (n : NodeP) (ra : Option Addr) (rl rc : Nat) (w : World) (d : DevP) (pn : NodeP) (h : EdI B E w (some ⟨gd, 0, none⟩) fc cv F l) (hO : OKF F) (hP : placesE F [((⟨(j : Int), xi⟩ : At), s)] = 0) (hd : F[j]? = some d) (hpn : nodeF F ⟨(j : Int), xi⟩ = some pn) :
    Calls Try.prog 47 #[.pointer (some ⟨E, 0, none⟩), .agg #[.int .i64 (j : Int), .int .i64 xi, .string s], .agg #[.int .i64 n.ino, .int .i64 n.kind, .int .i64 n.mode, .int .i64 n.uid, .int .i64 n.gid, .int .i64 n.parent, .string n.target, .slice ra rl rc]] w
      (StepR B E (pointF (mkF F ⟨(j : Int), xi⟩ n) ⟨(j : Int), xi⟩ s ⟨(j : Int), d.next⟩) (l ++ [pointC (mkF F ⟨(j : Int), xi⟩ n) ⟨(j : Int), xi⟩ s ⟨(j : Int), d.next⟩]) (mkE F ⟨(j : Int), xi⟩ s n) w) := by
  obtain ⟨x, hx⟩ : ∃ x : At, x = ⟨(j : Int), xi⟩ := ⟨_, rfl⟩
  obtain ⟨w1, hw1⟩ : ∃ w1, w1 = (w.alloc (.cells #[.int .i64 (j : Int), .int .i64 xi, .string s] 82)).alloc (.cells #[.int .i64 n.ino, .int .i64 n.kind, .int .i64 n.mode, .int .i64 n.uid, .int .i64 n.gid, .int .i64 n.parent, .string n.target, .slice ra rl rc] 43) := ⟨_, rfl⟩
  have hb0 : Below w.heap.size w (w.alloc (.cells #[.int .i64 (j : Int), .int .i64 xi, .string s] 82)) := (Below.refl _ _).alloc (Nat.le_refl _) _
  have hb1 : Below w.heap.size w w1 := by rw [hw1]; exact hb0.alloc hb0.size _
  have K1 : MkS B E w.heap.size ⟨(j : Int), xi⟩ s n (.slice ra rl rc) (some ⟨gd, 0, none⟩) fc cv F l w w1 := ⟨h.stay hb1, hb1, by rw [hw1]; exact (TB.new1 w _ _ _ rfl).alloc _, by rw [hw1]; exact TB.new1 _ (ncs n (.slice ra rl rc)) _ _ (size_alloc _ _)⟩
  have HB0 := Lib.hid h.hB
  have HW1 := Lib.hid hw1
  have HH := Lib.hid h
  have HO := Lib.hid hO
  have HD := Lib.hid hd
  have HPN := Lib.hid hpn
  have hrow : RowAt PlaceAt 3 (w1.alloc (.cells #[.int .i64 (j : Int), .int .i64 xi, .string s] 82)).drew (some ⟨w1.heap.size, 0, none⟩) [((⟨(j : Int), xi⟩ : At), s)] := RowAt.below PlaceAt.stays (place_row w1 ⟨(j : Int), xi⟩ s) ((Below.refl _ _).drew)
  have hbA : Below w1.heap.size w1 (w1.alloc (.cells #[.int .i64 (j : Int), .int .i64 xi, .string s] 82)).drew := ((Below.refl _ _).alloc (Nat.le_refl _) _).drew
  have CP := Lib.hid (checkPlace1 (some ⟨gd, 0, none⟩) fc F w1.heap.size ⟨(j : Int), xi⟩ s _ (K1.stay hbA).ed.files h.sml hrow)
  rw [hP] at CP
  have p0 := K1.p0
  have p1 := K1.p1
  have p2 := K1.p2
  have e0 := K1.e0
  have HU : Hid (mkE F ⟨(j : Int), xi⟩ s n = if plainB n = false then 22 else if (atF F ⟨(j : Int), xi⟩ s).isSome then 17 else if 16 ≤ d.nodes.length then 28 else if 1073741824 ≤ d.next then 28 else if roomF F ⟨(j : Int), xi⟩ then 0 else 28) := Lib.hid (by unfold mkE; rw [if_neg (fun h => h hP), devF_idx, hd])
  clear hw1 hb0 hb1 hrow h hO hd hpn hx x hP
  go_enter Try.func47, Try.ntmps47
  go_wp2_with fail
  rw [← HW1.out]
  clear HW1
  go_region_held3 (fun W => W.cell? ⟨w.heap.size, 0, none⟩ = some (.int .i64 (j : Int)) ∧ W.cell? ⟨w.heap.size, 1, none⟩ = some (.int .i64 xi) ∧ W.cell? ⟨w.heap.size, 2, none⟩ = some (.string s) ∧ W.cell? ⟨E, 0, none⟩ = some (.slice (some ⟨gd, 0, none⟩) F.length fc))
    (first
      | go_keep
      | (with_reducible exact ⟨K2.p0, K2.p1, K2.p2, K2.e0⟩))
    ((go_at_call 71; (with_reducible refine CP.out.mono ?_); rintro e w2 ⟨rfl, hb20⟩; have K2 := (K1.stay hbA).stay hb20))
  clear p0 p1 p2 e0 K1 CP hbA hb20
  have y1 := K2.y1
  have y2 := K2.y2
  have y3 := K2.y3
  have y4 := K2.y4
  have y6 := K2.y6
  have CK := Lib.hid (fun W => validKind_any n.kind W)
  have CR := Lib.hid (fun W => validRights_any n.mode n.uid n.gid W)
  have CT := Lib.hid (fun W => validTarget_any n.kind n.target W)
  rw [plain_parts] at HU
  generalize kindB n.kind = kb at *
  generalize rightsB n.mode n.uid n.gid = rb at *
  generalize targB n.kind n.target = tb at *
  have KH := Lib.hid K2
  clear K2
  cases kb with
  | false =>
    have HU2 := Lib.hid (HU.out.trans (if_pos rfl))
    clear CR CT
    go_wp2_with fail
    refine (CK.out _).mono ?_
    rintro e w3 ⟨rfl, rfl⟩
    go_wp2_with fail
    go_ret
    exact .of_err KH.out.bel HB0.out (by decide) HU2.out
  | true =>
    cases rb with
    | false =>
      have HU2 := Lib.hid (HU.out.trans (if_pos rfl))
      clear CT
      go_wp2_with fail
      refine (CK.out _).mono ?_
      rintro e w3 ⟨rfl, rfl⟩
      go_wp2_with fail
      refine (CR.out _).mono ?_
      rintro e w3 ⟨rfl, rfl⟩
      go_wp2_with fail
      go_ret
      exact .of_err KH.out.bel HB0.out (by decide) HU2.out
    | true =>
      cases tb with
      | false =>
        have HU2 := Lib.hid (HU.out.trans (if_pos rfl))
        go_wp2_with fail
        refine (CK.out _).mono ?_
        rintro e w3 ⟨rfl, rfl⟩
        go_wp2_with fail
        refine (CR.out _).mono ?_
        rintro e w3 ⟨rfl, rfl⟩
        go_wp2_with fail
        refine (CT.out _).mono ?_
        rintro e w3 ⟨rfl, rfl⟩
        go_wp2_with fail
        go_ret
        exact .of_err KH.out.bel HB0.out (by decide) HU2.out
      | true =>
        have HU2 := Lib.hid (HU.out.trans (if_neg (by decide)))
        clear HU
        go_wp2_with fail
        refine (CK.out _).mono ?_
        rintro e w3 ⟨rfl, rfl⟩
        go_wp2_with fail
        refine (CR.out _).mono ?_
        rintro e w3 ⟨rfl, rfl⟩
        go_wp2_with fail
        refine (CT.out _).mono ?_
        rintro e w2 ⟨rfl, rfl⟩
        clear CK CR CT y1 y2 y3 y4 y6
        have p0 := KH.out.p0
        have p1 := KH.out.p1
        have p2 := KH.out.p2
        have e0 := KH.out.e0
        obtain ⟨fnd, hfnd⟩ : ∃ o, o = (atF F ⟨(j : Int), xi⟩ s).isSome := ⟨_, rfl⟩
        obtain ⟨aa, haa⟩ : ∃ o, o = (atF F ⟨(j : Int), xi⟩ s).getD zA := ⟨_, rfl⟩
        have hb2d : Below w2.heap.size w2 (w2.alloc (.cells #[.int .i64 0, .int .i64 0] 36)).drew := ((Below.refl _ _).alloc (Nat.le_refl _) _).drew
        have hb2e : Below w2.heap.size w2 w2.drew := (Below.refl _ _).drew
        have CL := Lib.hid (fun W (hw : Below w2.heap.size w2 W) => leadV_eq (atF F ⟨(j : Int), xi⟩ s) ▸ leadsTo_any (some ⟨gd, 0, none⟩) fc F ⟨(j : Int), xi⟩ s W (KH.out.stay hw).ed.files HH.out.sml HH.out.srt)
        rw [← hfnd, ← haa] at CL
        rw [← hfnd] at HU2
        have tA : TB 36 (w2.alloc (.cells #[.int .i64 0, .int .i64 0] 36)).drew w2.heap.size [.int .i64 0, .int .i64 0] := (TB.new1 w2 [.int .i64 0, .int .i64 0] _ _ rfl).drew
        have nP : w.heap.size ≠ w2.heap.size := by have := KH.out.pl.lt; omega
        have nE : E ≠ w2.heap.size := by have := KH.out.ed.ed.lt; omega
        clear hfnd haa
        go_upto_region 6 with fail
        go_cut [8, 9] (fun s8 s9 W => ∃ A, s8 = .pointer (some ⟨A, 0, none⟩) ∧ s9 = .bool fnd ∧ Below w2.heap.size w2 W)
        case first =>
          go_region_held3 (fun W => W.cell? ⟨w.heap.size, 0, none⟩ = some (.int .i64 (j : Int)) ∧ W.cell? ⟨w.heap.size, 1, none⟩ = some (.int .i64 xi) ∧ W.cell? ⟨w.heap.size, 2, none⟩ = some (.string s) ∧ W.cell? ⟨E, 0, none⟩ = some (.slice (some ⟨gd, 0, none⟩) F.length fc))
            (first
              | go_keep
              | (with_reducible exact ⟨K3.p0, K3.p1, K3.p2, K3.e0⟩)
              | (with_reducible exact ⟨K4.p0, K4.p1, K4.p2, K4.e0⟩))
            ((go_at_call 43; (first | (with_reducible refine (CL.out _ hb2d).mono ?_) | (with_reducible refine (CL.out _ hb2e).mono ?_)); rintro e w3 ⟨rfl, hb30⟩; first | (have hb3 : Below w2.heap.size w2 w3 := hb2d.trans (hb30.mono hb2d.size); have hb4 := below_set2 hb3 (Nat.le_refl _) (.int .i64 aa.dev) (.int .i64 aa.ino); obtain ⟨a0, a1, af0, af1⟩ := (tA.stay hb30).blk.c2; have K3 := KH.out.stay hb3; have K4 := KH.out.stay hb4) | (have hb3 : Below w2.heap.size w2 w3 := hb2e.trans (hb30.mono hb2e.size); have hb4 := hb3.alloc hb3.size (.cells #[.int .i64 aa.dev, .int .i64 aa.ino] 36); have K3 := KH.out.stay hb3; have K4 := KH.out.stay hb4)))
          all_goals
            clear K3 K4
            go_wp2_with fail
            go_meet
            exact ⟨_, rfl, rfl, hb4⟩
        case rest =>
          obtain ⟨A, rfl, rfl, hbc⟩ := hcut
          have Kc := KH.out.stay hbc
          clear KH CL hb2d hb2e tA nP nE hbc p0 p1 p2 e0
          cases fnd with
          | true =>
            have HU3 := Lib.hid (HU2.out.trans (if_pos rfl))
            go_wp2_with fail
            go_ret
            exact .of_err Kc.bel HB0.out (by decide) HU3.out
          | false =>
            have HU3 := Lib.hid (HU2.out.trans (if_neg (by decide)))
            clear HU2
            have p0 := Kc.p0
            have e0 := Kc.e0
            have hjl : (j : Int) < (F.length : Int) := by
              have := (List.getElem?_eq_some_iff.1 HD.out).1
              omega
            go_wp2_with fail
            go_region
            go_upto_region 10 with fail
            have Kd := Kc.drew
            clear Kc p0 e0
            generalize wc.drew = wd at *
            obtain ⟨vn, ev, hf⟩ := Kd.ed.fil
            obtain ⟨j', k, d', hj', hd', hi, hk⟩ := node_where HPN.out
            obtain rfl : j = j' := by
              have : (j : Int) = (j' : Int) := hj'
              omega
            obtain rfl : d = d' := by
              rw [HD.out] at hd'
              injection hd'
            obtain ⟨gn, cn, hgv, hgn, -, -⟩ := hf.gN HD.out hk
            have c1 : wd.cell? ⟨gd, j * 2 + 1, none⟩ = some (.slice (some ⟨gn, 0, none⟩) d.nodes.length cn) := by
              obtain ⟨cap, hv⟩ := own_form hf.row rfl
              rw [own_cell hf.row hv (by omega), drow_at vn 0 F j d HD.out 1 (by omega), Nat.zero_add]
              show some (vn j) = _
              rw [hgv]
            have c0 : wd.cell? ⟨gd, j * 2, none⟩ = some (.int .i64 d.next) := hf.cellX HD.out rfl
            have HF := Lib.hid hf
            have HGV := Lib.hid hgv
            have HGN := Lib.hid hgn
            clear hj' hd' hi hk hf hgv hgn
            by_cases h16 : 16 ≤ d.nodes.length
            · have HU4 := Lib.hid (HU3.out.trans (if_pos h16))
              have e1 : (d.nodes.length : Int) ≥ 16 := by omega
              have e1' : decide ((d.nodes.length : Int) ≥ 16) = true := decide_eq_true e1
              clear HU3 h16
              go_quiet (fail)
              go_wp2_with fail
              go_ret
              exact .of_err ⟨Kd.bel.os, Kd.bel.tape, Kd.bel.output, Kd.bel.size, Kd.bel.block⟩ HB0.out (by decide) HU4.out
            · have HU4 := Lib.hid (HU3.out.trans (if_neg h16))
              have e1 : ¬ (d.nodes.length : Int) ≥ 16 := by omega
              have e1' : decide ((d.nodes.length : Int) ≥ 16) = false := decide_eq_false e1
              clear HU3
              by_cases hnx : 1073741824 ≤ d.next
              · have HU5 := Lib.hid (HU4.out.trans (if_pos hnx))
                have e2 : d.next ≥ 1073741824 := hnx
                have e2' : decide (d.next ≥ 1073741824) = true := decide_eq_true e2
                clear HU4 hnx
                go_quiet (fail)
                go_wp2_with fail
                go_ret
                exact .of_err ⟨Kd.bel.os, Kd.bel.tape, Kd.bel.output, Kd.bel.size, Kd.bel.block⟩ HB0.out (by decide) HU5.out
              · have HU5 := Lib.hid (HU4.out.trans (if_neg hnx))
                have e2 : ¬ d.next ≥ 1073741824 := hnx
                have e2' : decide (d.next ≥ 1073741824) = false := decide_eq_false e2
                clear HU4
                have CRm := Lib.hid (hasRoom_any (some ⟨gd, 0, none⟩) fc F ⟨(j : Int), xi⟩ wd.drew Kd.drew.ed.files HH.out.sml)
                obtain ⟨R, hR⟩ : ∃ R, R = roomF F ⟨(j : Int), xi⟩ := ⟨_, rfl⟩
                rw [← hR] at CRm HU5
                clear hR
                have p0 := Kd.p0
                have p1 := Kd.p1
                have e0 := Kd.e0
                have hgl : gd < wd.drew.heap.size := World.block_lt_of_cell? wd _ c0
                have c1d : wd.drew.cell? ⟨gd, j * 2 + 1, none⟩ = some (.slice (some ⟨gn, 0, none⟩) d.nodes.length cn) := c1
                have c0d : wd.drew.cell? ⟨gd, j * 2, none⟩ = some (.int .i64 d.next) := c0
                go_region_held3 (fun W => W.cell? ⟨w.heap.size, 0, none⟩ = some (.int .i64 (j : Int)) ∧ W.cell? ⟨w.heap.size, 1, none⟩ = some (.int .i64 xi) ∧ W.cell? ⟨E, 0, none⟩ = some (.slice (some ⟨gd, 0, none⟩) F.length fc) ∧ W.cell? ⟨gd, j * 2 + 1, none⟩ = some (.slice (some ⟨gn, 0, none⟩) d.nodes.length cn) ∧ W.cell? ⟨gd, j * 2, none⟩ = some (.int .i64 d.next))
                  (first
                    | go_keep
                    | (with_reducible exact ⟨K7.p0, K7.p1, K7.e0, (hbw7.cell (p := ⟨gd, j * 2 + 1, none⟩) hgl).trans c1d, (hbw7.cell (p := ⟨gd, j * 2, none⟩) hgl).trans c0d⟩))
                  ((go_at_call 74; (with_reducible refine CRm.out.mono ?_); rintro e w7 ⟨rfl, hbw7⟩; have K7 := Kd.drew.stay hbw7))
                cases R with
                | false =>
                  have HU6 := Lib.hid (HU5.out.trans (if_neg (by decide)))
                  clear HU5 p0 p1 e0 c0 c1
                  go_wp2_with fail
                  go_ret
                  exact .of_err K7.bel HB0.out (by decide) HU6.out
                | true =>
                  have HU6 := Lib.hid (HU5.out.trans (if_pos rfl))
                  have hbd7 : Below wd.heap.size wd w7 := (Below.refl wd.heap.size wd).drew.trans hbw7
                  have HF7 := Lib.hid (HF.out.stay hbd7)
                  have d1 : w7.cell? ⟨gd, j * 2 + 1, none⟩ = some (.slice (some ⟨gn, 0, none⟩) d.nodes.length cn) := (hbw7.cell (p := ⟨gd, j * 2 + 1, none⟩) hgl).trans c1d
                  have d0 : w7.cell? ⟨gd, j * 2, none⟩ = some (.int .i64 d.next) := (hbw7.cell (p := ⟨gd, j * 2, none⟩) hgl).trans c0d
                  clear HU5 p0 p1 e0 c0 c1 c0d c1d hbw7 hbd7 CRm HF Kd hgl e1 e1' e2 e2'
                  have p0 := K7.p0
                  have p1 := K7.p1
                  have p2 := K7.p2
                  have e0 := K7.e0
                  have y1 := K7.y1
                  have y2 := K7.y2
                  have y3 := K7.y3
                  have y4 := K7.y4
                  have y6 := K7.y6
                  have hbz : Below w7.heap.size w7 (w7.alloc (.cells #[.int .i64 0, .int .i64 0, .int .i64 0, .int .i64 0, .int .i64 0, .int .i64 0, .string ⟨#[]⟩, .slice none 0 0] 43)) := (Below.refl _ _).alloc (Nat.le_refl _) _
                  have z1 := cell_stays y1 hbz
                  have z2 := cell_stays y2 hbz
                  have z3 := cell_stays y3 hbz
                  have z4 := cell_stays y4 hbz
                  have z6 := cell_stays y6 hbz
                  have z0 := cell_stays d0 hbz
                  go_upto_region 12 with fail
                  go_cut [11] (fun s11 W => s11 = .pointer (some ⟨w7.heap.size, 0, none⟩) ∧ W = (w7.alloc (.cells #[.int .i64 d.next, .int .i64 n.kind, .int .i64 n.mode, .int .i64 n.uid, .int .i64 n.gid, .int .i64 0, .string n.target, .slice none 0 0] 43)).drew)
                  case first =>
                    clear HH HO HD HPN HF7 HGV HGN HU6 K7 h16 hnx hjl HB0 p0 p1 p2 e0 d1
                    go_region_held3 (fun W => W.cell? ⟨w.heap.size + 1, 1, none⟩ = some (.int .i64 n.kind) ∧ W.cell? ⟨w.heap.size + 1, 2, none⟩ = some (.int .i64 n.mode) ∧ W.cell? ⟨w.heap.size + 1, 3, none⟩ = some (.int .i64 n.uid) ∧ W.cell? ⟨w.heap.size + 1, 4, none⟩ = some (.int .i64 n.gid) ∧ W.cell? ⟨w.heap.size + 1, 6, none⟩ = some (.string n.target) ∧ W.cell? ⟨gd, j * 2, none⟩ = some (.int .i64 d.next))
                      (first
                        | go_keep
                        | (with_reducible exact ⟨z1, z2, z3, z4, z6, z0⟩))
                      (fail)
                    go_wp2_with fail
                    go_meet
                    exact ⟨rfl, rfl⟩
                  case rest =>
                    obtain ⟨rfl, hwc⟩ := hcut
                    have hb8 : Below w7.heap.size w7 wc := by rw [hwc]; exact ((Below.refl _ _).alloc (Nat.le_refl _) _).drew
                    have K8 := K7.stay hb8
                    have hM : w7.heap.size < wc.heap.size := by rw [hwc]; show _ < (w7.alloc _).heap.size; rw [size_alloc]; exact Nat.lt_succ_self _
                    have tM8 : TB 43 wc w7.heap.size [.int .i64 d.next, .int .i64 n.kind, .int .i64 n.mode, .int .i64 n.uid, .int .i64 n.gid, .int .i64 0, .string n.target, .slice none 0 0] := by rw [hwc]; exact (TB.new1 w7 _ _ _ rfl).drew
                    have HF8 := Lib.hid (HF7.out.stay hb8)
                    have hgn7 : gn < w7.heap.size := (HF7.out.ltN j gn HGN.out)
                    have hgd7 : gd < w7.heap.size := World.block_lt_of_cell? w7 _ d0
                    have HX8 : Hid (wc.cell? ⟨gd, j * 2 + 1, none⟩ = some (.slice (some ⟨gn, 0, none⟩) d.nodes.length cn) ∧ wc.cell? ⟨gd, j * 2, none⟩ = some (.int .i64 d.next)) := Lib.hid ⟨cell_stays d1 hb8, cell_stays d0 hb8⟩
                    have hE7 := K7.ed.ed.lt
                    have hN7 := K7.nd.lt
                    have H7N := Lib.hid HF7.out
                    have hC7 : cv.ownBlock ≠ some w7.heap.size := fun e => by have := (own_lt K7.ed.own e).2; omega
                    have hbz7 := K7.bel.size
                    have hn2 : 2 ≤ d.next := (HO.out.2 d (List.mem_of_getElem? HD.out)).pre.nxt.1
                    clear hwc z0 z1 z2 z3 z4 z6 hbz y1 y2 y3 y4 y6 p0 p1 p2 e0 d0 d1 hb8 HF7 K7
                    have p1 := K8.p1
                    obtain ⟨⟨m0, m1, m2, m3, m4, m5, m6, m7⟩, -, -, -, -, -, mf5, -⟩ := tM8.blk.c8
                    obtain ⟨mN, hmN⟩ : ∃ m, m = newN d xi n := ⟨_, rfl⟩
                    obtain ⟨i0, hi0, hz0, hz1, hz2⟩ := info_parts infoN
                    go_upto_if 103 with fail
                    go_cut [] (fun W => MkS B E w.heap.size ⟨(j : Int), xi⟩ s n (.slice ra rl rc) (some ⟨gd, 0, none⟩) fc cv F l w W ∧ FilesO B W (.slice (some ⟨gd, 0, none⟩) F.length fc) F vn ev ∧ TB 43 W w7.heap.size (ncs mN (.slice none 0 0)) ∧ w7.heap.size < W.heap.size)
                    case first =>
                      by_cases hk2 : n.kind = 2
                      · have e3 : (n.kind == 2) = true := by simpa using hk2
                        have KF : Hid (MkS B E w.heap.size ⟨(j : Int), xi⟩ s n (.slice ra rl rc) (some ⟨gd, 0, none⟩) fc cv F l w (wc.setCell ⟨w7.heap.size, 5, none⟩ (.int .i64 xi)) ∧ FilesO B (wc.setCell ⟨w7.heap.size, 5, none⟩ (.int .i64 xi)) (.slice (some ⟨gd, 0, none⟩) F.length fc) F vn ev ∧ TB 43 (wc.setCell ⟨w7.heap.size, 5, none⟩ (.int .i64 xi)) w7.heap.size (ncs mN (.slice none 0 0)) ∧ w7.heap.size < (wc.setCell ⟨w7.heap.size, 5, none⟩ (.int .i64 xi)).heap.size) := Lib.hid (by
                          have f := H7N.out.setFar HF8.out (Nat.le_refl _) 5 (.int .i64 xi)
                          refine ⟨⟨⟨⟨_, _, f⟩, K8.ed.ed.other (by omega) _ _, own_other K8.ed.own hC7 _ _, K8.ed.sml, K8.ed.srt, K8.ed.asc, K8.ed.low, K8.ed.few, by rw [size_set]; exact K8.ed.hB, K8.ed.hE⟩, below_set K8.bel (by omega) _ _, K8.pl.other (by omega) _ _, K8.nd.other (by omega) _ _⟩, f, ?_, by rw [size_set]; exact hM⟩
                          rw [hmN]
                          unfold newN
                          rw [if_pos hk2]
                          exact tM8.set 5 (.int .i64 xi))
                        clear hk2 hmN
                        go_wp2_with fail
                        go_meet
                        exact KF.out
                      · have e3 : (n.kind == 2) = false := by simpa using hk2
                        have KF : Hid (MkS B E w.heap.size ⟨(j : Int), xi⟩ s n (.slice ra rl rc) (some ⟨gd, 0, none⟩) fc cv F l w wc ∧ FilesO B wc (.slice (some ⟨gd, 0, none⟩) F.length fc) F vn ev ∧ TB 43 wc w7.heap.size (ncs mN (.slice none 0 0)) ∧ w7.heap.size < wc.heap.size) := Lib.hid (by
                          refine ⟨K8, HF8.out, ?_, hM⟩
                          rw [hmN]
                          unfold newN
                          rw [if_neg hk2]
                          exact tM8)
                        clear hk2 hmN
                        go_wp2_with fail
                        go_meet
                        exact KF.out
                    case rest =>
                      have HMN := Lib.hid hmN
                      clear m0 m1 m2 m3 m4 m5 m6 m7 p1 K8 tM8 HF8 HX8 hM mf5 hmN
                      rename World => w9
                      obtain ⟨K9, F9, tM, hw9s⟩ := hcut
                      have x1 : w9.cell? ⟨gd, j * 2 + 1, none⟩ = some (.slice (some ⟨gn, 0, none⟩) d.nodes.length cn) := by rw [← HGV.out]; exact F9.cellY HD.out rfl
                      have x0 : w9.cell? ⟨gd, j * 2, none⟩ = some (.int .i64 d.next) := F9.cellX HD.out rfl
                      obtain ⟨⟨m0, m1, m2, m3, m4, m5, m6, m7⟩, -⟩ := tM.blk.c8
                      have HROW : Hid (w9.ownsRow B 43 8 (.slice (some ⟨gn, 0, none⟩) d.nodes.length cn) d.nodes.length (nrow (ev j) 0 d.nodes)) := Lib.hid (by have := F9.nodes j d HD.out; rw [HGV.out] at this; exact this)
                      have HB9 := K9.ed.hB
                      have hb10 : Below w9.heap.size w9 (w9.alloc (.cells #[.int .i64 mN.ino, .int .i64 mN.kind, .int .i64 mN.mode, .int .i64 mN.uid, .int .i64 mN.gid, .int .i64 mN.parent, .string mN.target, .slice none 0 0] 43)).drew := ((Below.refl _ _).alloc (Nat.le_refl _) _).drew
                      have K10 := Lib.hid (K9.stay hb10)
                      have F10 := Lib.hid (F9.stay hb10)
                      have T10 := Lib.hid (tM.stay hb10)
                      have HNW := Lib.hid (World.news_of_block (w := (w9.alloc (.cells #[.int .i64 mN.ino, .int .i64 mN.kind, .int .i64 mN.mode, .int .i64 mN.uid, .int .i64 mN.gid, .int .i64 mN.parent, .string mN.target, .slice none 0 0] 43)).drew) (cs := #[.int .i64 mN.ino, .int .i64 mN.kind, .int .i64 mN.mode, .int .i64 mN.uid, .int .i64 mN.gid, .int .i64 mN.parent, .string mN.target, .slice none 0 0]) (t := 43) (fr := (0, 0)) (heap_alloc_new w9 _))
                      have H5 : Hid (∀ u ∈ ncs mN (.slice none 0 0), u.oneCell' = true) := Lib.hid (by simp [Value.oneCell', ncs])
                      have H6 : Hid (d.nodes.length + 1 ≤ maxLen) := Lib.hid (by unfold maxLen; omega)
                      have H7 : Hid ((d.nodes.length + 1) * 88 ≤ 140737488355328) := Lib.hid (by omega)
                      have H8 : Hid (B ≤ (w9.alloc (.cells #[.int .i64 mN.ino, .int .i64 mN.kind, .int .i64 mN.mode, .int .i64 mN.uid, .int .i64 mN.gid, .int .i64 mN.parent, .string mN.target, .slice none 0 0] 43)).drew.heap.size) := Lib.hid (by show B ≤ (w9.alloc _).heap.size; rw [size_alloc]; omega)
                      have HFZ : Hid (∀ wA, ((w9.alloc (.cells #[.int .i64 mN.ino, .int .i64 mN.kind, .int .i64 mN.mode, .int .i64 mN.uid, .int .i64 mN.gid, .int .i64 mN.parent, .string mN.target, .slice none 0 0] 43)).drew).grownBy wA (Value.slice (some ⟨gn, 0, none⟩) d.nodes.length cn).ownBlock → wA.cell? ⟨gd, j * 2 + 1, none⟩ = some (.slice (some ⟨gn, 0, none⟩) d.nodes.length cn) ∧ wA.cell? ⟨gd, j * 2, none⟩ = some (.int .i64 d.next) ∧ wA.frozen? ⟨gd, j * 2 + 1, none⟩ = false ∧ wA.frozen? ⟨gd, j * 2, none⟩ = false) := Lib.hid (fun wA hg => by
                        have hN := F10.out.nodes j d HD.out
                        have kd : wA.ownsRow B 72 2 (.slice (some ⟨gd, 0, none⟩) F.length fc) F.length (drow vn 0 F) := own_keep F10.out.row fun g' hg' => hg.block g' (own_lt F10.out.row hg').2 (fun e => own_types F10.out.row hN (by decide) hg' (by rw [HGV.out]; exact e.symm))
                        have hjl' : j < F.length := (List.getElem?_eq_some_iff.1 HD.out).1
                        refine ⟨?_, ?_, kd.frozenAt _, kd.frozenAt _⟩
                        · rw [own_cell kd rfl (by omega), drow_at vn 0 F j d HD.out 1 (by omega), Nat.zero_add]
                          show some (vn j) = _
                          rw [HGV.out]
                        · have := own_cell kd rfl (j := j * 2 + 0) (by omega)
                          rw [drow_at vn 0 F j d HD.out 0 (by omega)] at this
                          exact this)
                      have ea1 : (w9.alloc (.cells #[.int .i64 mN.ino, .int .i64 mN.kind, .int .i64 mN.mode, .int .i64 mN.uid, .int .i64 mN.gid, .int .i64 mN.parent, .string mN.target, .slice none 0 0] 43)).cell? ⟨gd, j * 2 + 1, none⟩ = some (.slice (some ⟨gn, 0, none⟩) d.nodes.length cn) := cell_stays x1 ((Below.refl _ _).alloc (Nat.le_refl _) _)
                      have hlM : w7.heap.size < (w9.alloc (.cells #[.int .i64 mN.ino, .int .i64 mN.kind, .int .i64 mN.mode, .int .i64 mN.uid, .int .i64 mN.gid, .int .i64 mN.parent, .string mN.target, .slice none 0 0] 43)).drew.heap.size := T10.out.lt
                      have HB10 := Lib.hid hb10
                      have HK9 := Lib.hid K9
                      clear K9 F9 tM hb10
                      go_upto_region 15 with fail
                      go_region_law (
                        (refine step_append_lies _ (by rfl) _ _ _ (by rfl) B 43 i0 _ 8 88 Try.underlying70 hi0 hz0 hz1 hz2 rfl (by omega) _ d.nodes.length _ (by rfl) ((HROW.out.alloc _).drew)
                           ⟨w9.heap.size, 0, none⟩ 1 1 (ncs mN (.slice none 0 0)) (by rfl) (by rfl) HNW.out H5.out (by omega) H6.out H7.out H8.out (w9.heap.size + 1) (by simp) ?_
                         intro gg capA wA hownA hgrow hatA hltA
                         obtain ⟨qE1, qE0, qf1, qf0⟩ := HFZ.out wA hgrow))
                      all_goals
                        obtain ⟨wB, hwB⟩ : ∃ wB, wB = (wA.setCell ⟨gd, j * 2 + 1, none⟩ (.slice (some ⟨gg, 0, none⟩) (d.nodes.length + 1) capA)).setCell ⟨gd, j * 2, none⟩ (.int .i64 (d.next + 1)) := ⟨_, rfl⟩
                        have RES := EdI.add F10.out K10.out.ed.ed K10.out.ed.own HD.out rfl (by rw [HGV.out]; exact hgrow) hownA (by
                          rcases hatA with h | h
                          · left; rw [HGV.out, h]; rfl
                          · right; rw [h]; show some _ = some (w9.alloc _).heap.size; rw [size_alloc]) (by rw [HMN.out]; rfl) H8.out
                        have tMA := T10.out.keep (w' := wA) (hgrow.block _ hlM (fun e => by injection e with e; have e : w7.heap.size = gn := e; omega))
                        have tMB : TB 43 wB w7.heap.size (ncs mN (.slice none 0 0)) := by rw [hwB]; exact (tMA.other (by omega) _ _).other (by omega) _ _
                        have e1 : F.set j ⟨d.next + 1, d.nodes ++ [mN]⟩ = mkF F ⟨(j : Int), xi⟩ n := by rw [HMN.out]; exact set_add (x := ⟨(j : Int), xi⟩) rfl HD.out n
                        rw [e1] at RES
                        obtain ⟨⟨vn', ev', R1⟩, R2, R3, R4, R5⟩ := RES
                        change FilesO B ((wA.setCell ⟨gd, j * 2 + 1, none⟩ _).setCell ⟨gd, j * 2, none⟩ _) _ _ _ _ at R1
                        change TB 100 ((wA.setCell ⟨gd, j * 2 + 1, none⟩ _).setCell ⟨gd, j * 2, none⟩ _) _ _ at R2
                        change OwnC B ((wA.setCell ⟨gd, j * 2 + 1, none⟩ _).setCell ⟨gd, j * 2, none⟩ _) _ _ at R3
                        change SameB E _ ((wA.setCell ⟨gd, j * 2 + 1, none⟩ _).setCell ⟨gd, j * 2, none⟩ _) at R4
                        change Below B _ ((wA.setCell ⟨gd, j * 2 + 1, none⟩ _).setCell ⟨gd, j * 2, none⟩ _) at R5
                        rw [← hwB] at R1 R2 R3 R4 R5
                        have hS9 : SameB E w wB := (SameB.of_below K10.out.bel).trans R4
                        have hB9 : Below B w wB := (K10.out.bel.mono HB0.out).trans R5
                        have hEw := HH.out.ed.lt
                        have pB := K10.out.pl.sameB R4 (by omega) (by decide)
                        have hino : mN.ino = d.next := by rw [HMN.out]; rfl
                        have hlen := mkF_len F ⟨(j : Int), xi⟩ n
                        have CPt := Lib.hid (point_any B E (some ⟨gd, 0, none⟩) fc cv (mkF F ⟨(j : Int), xi⟩ n) l ⟨(j : Int), xi⟩ s ⟨(j : Int), mN.ino⟩ wB vn' ev' pn (by rw [hlen]; exact R1) (by rw [hlen]; exact R2) R3 (AddF.of HO.out _ n).sml (AddF.of HO.out _ n).srt (AddF.of HO.out _ n).asc (mk_node HD.out HPN.out n) (by have := HH.out.few; omega) (by have := R5.size; exact Nat.le_trans H8.out this) HH.out.hE (fun e => by
                          have e : (⟨(j : Int), mN.ino⟩ : At) = ⟨0, 0⟩ := e
                          injection e with _ e
                          omega))
                        have HS9 := Lib.hid (And.intro hS9 hB9)
                        have HWB := Lib.hid hwB
                        have HIN := Lib.hid hino
                        have HTM := Lib.hid tMB
                        have HPB := Lib.hid pB
                        clear hwB hino tMB pB hlen hS9 hB9 R1 R2 R3 R4 R5 e1 tMA hownA hgrow hatA hltA m0 m1 m2 m3 m4 m5 m6 m7 x1 ea1
                        go_upto_region 17 with fail
                        rw [← HWB.out]
                        clear HWB qE1 qE0 qf1 qf0 x0
                        obtain ⟨p0, p1, p2, -⟩ := HPB.out.blk.c3
                        have m0 := HTM.out.blk.c8.1.1
                        go_wp2_with fail
                        refine CPt.out.mono ?_
                        intro e w10 hp
                        obtain rfl := hp.1
                        have HFN := Lib.hid (StepR.of_point2 (AddF.of HO.out ⟨(j : Int), xi⟩ n) HH.out.few HS9.out.1 HS9.out.2 hp)
                        rw [HIN.out] at HFN
                        clear hp CPt
                        go_wp2_with fail
                        go_ret
                        rw [HU6.out]
                        exact HFN.out
end Go.Proofs.Ytafnbpkdenjipaa.fl
namespace Go.Proofs.Ytafnbpkdenjipaa.fl
open Go.Proofs.Ytafnbpkdenjipaa.pt

theorem mk_dev {F : FilP} {x : At} {d : DevP} (hd : devF F x.dev = some d) (n : NodeP) : devF (mkF F x n) x.dev = some (addD d (newN d x.ino n)) := by
  unfold mkF
  rw [devF_on hd, if_pos rfl]
theorem mk_zero {F : FilP} (hO : OKF F) {x : At} {d : DevP} (hd : devF F x.dev = some d) (n : NodeP) : nodeF (mkF F x n) zA = none := by
  unfold nodeF mkF
  rw [devF_on hd]
  have h0 := hO.zero
  unfold nodeF at h0
  by_cases e : zA.dev = x.dev
  · rw [if_pos e]
    rw [e, hd] at h0
    show nodeL (d.nodes ++ [newN d x.ino n]) 0 = none
    rw [node_app, show nodeL d.nodes 0 = none from h0]
    have := (hO.dev hd).pre.nxt
    rw [if_neg (show ¬ (newN d x.ino n).ino = 0 by show ¬ d.next = 0; omega)]
    rfl
  · rw [if_neg e]
    exact h0
theorem mk_eq {F : FilP} (hO : OKF F) (x : At) (s : ByteArray) (n : NodeP) : (makeF F x s n).err = mkE F x s n ∧ ((makeF F x s n).err = 0 → (makeF F x s n).files = dropsF (pointF (mkF F x n) x s (mkT F x)) [pointC (mkF F x n) x s (mkT F x)] ∧ (makeF F x s n).chg = [pointC (mkF F x n) x s (mkT F x)]) ∧ ((makeF F x s n).err ≠ 0 → (makeF F x s n).files = [] ∧ (makeF F x s n).chg = []) := by
  unfold makeF mkE
  rw [places_one]
  by_cases c1 : placeF F x s ≠ 0
  · rw [if_pos c1, if_pos c1]
    exact ⟨rfl, fun h => (c1 h).elim, fun _ => ⟨rfl, rfl⟩⟩
  · rw [if_neg c1, if_neg c1]
    have c1 : placeF F x s = 0 := Classical.not_not.1 c1
    obtain ⟨k1, k2⟩ := at_look c1
    obtain ⟨p, hp, hpk, -⟩ := place_zero c1
    obtain ⟨d, hd, hpd⟩ := nodeF_of hp
    by_cases c2 : plainB n = false
    · rw [if_pos c2, if_pos c2]
      exact ⟨rfl, (fun h => by cases h), fun _ => ⟨rfl, rfl⟩⟩
    · rw [if_neg c2, if_neg c2]
      cases ha : atF F x s with
      | some a =>
        rw [ha] at k1
        rw [if_pos (show (lookF F x s).2 = 0 from k1), if_pos (show (some a).isSome = true from rfl)]
        exact ⟨rfl, (fun h => by cases h), fun _ => ⟨rfl, rfl⟩⟩
      | none =>
        rw [ha] at k1
        have k1 : (lookF F x s).2 = 2 := k1
        rw [if_neg (show ¬ (lookF F x s).2 = 0 by rw [k1]; decide), if_neg (show ¬ (none : Option At).isSome = true by simp), room_full F hp, hd]
        have hnx := (hO.dev hd).pre.nxt
        show ResP.err (if 16 ≤ d.nodes.length ∨ d.next = 1073741824 ∨ fullF F x = true then errR 28 else _) = (if 16 ≤ d.nodes.length then 28 else if 1073741824 ≤ d.next then 28 else if (!fullF F x) = true then 0 else 28) ∧ _
        by_cases c4 : 16 ≤ d.nodes.length
        · simp only [if_pos (Or.inl c4 : 16 ≤ d.nodes.length ∨ d.next = 1073741824 ∨ fullF F x = true), if_pos c4]
          exact ⟨rfl, (fun h => by cases h), fun _ => ⟨rfl, rfl⟩⟩
        · rw [if_neg c4]
          by_cases c5 : d.next = 1073741824
          · simp only [if_pos (Or.inr (Or.inl c5) : 16 ≤ d.nodes.length ∨ d.next = 1073741824 ∨ fullF F x = true)]
            rw [if_pos (show 1073741824 ≤ d.next by omega)]
            exact ⟨rfl, (fun h => by cases h), fun _ => ⟨rfl, rfl⟩⟩
          · rw [if_neg (show ¬ 1073741824 ≤ d.next by omega)]
            by_cases c6 : fullF F x = true
            · simp only [if_pos (Or.inr (Or.inr c6) : 16 ≤ d.nodes.length ∨ d.next = 1073741824 ∨ fullF F x = true)]
              rw [c6]
              exact ⟨rfl, (fun h => by cases h), fun _ => ⟨rfl, rfl⟩⟩
            · have c7 : ¬ (16 ≤ d.nodes.length ∨ d.next = 1073741824 ∨ fullF F x = true) := by
                rintro (h | h | h)
                · exact c4 h
                · exact c5 h
                · exact c6 h
              simp only [if_neg c7]
              have c6' : fullF F x = false := by simpa using c6
              rw [c6']
              have hT : mkT F x = ⟨x.dev, d.next⟩ := by unfold mkT; rw [hd]
              have hz : mkT F x ≠ zA := fun e => by
                rw [hT] at e
                injection e with _ e
                omega
              have hat : atF (mkF F x n) x s = none := by
                have hp2 : nodeF (mkF F x n) x = some p := by
                  rw [show x = (⟨x.dev, x.ino⟩ : At) from rfl, nodeF_dev (mk_dev hd n)]
                  show nodeL (d.nodes ++ [newN d x.ino n]) x.ino = some p
                  rw [node_app, show nodeL d.nodes x.ino = some p from hpd]
                  rfl
                rw [atF_some hp2]
                rw [atF_some hp] at ha
                exact ha
              refine ⟨rfl, fun _ => ⟨?_, ?_⟩, fun h => (h rfl).elim⟩
              · show _ = dropF1 (pointF (mkF F x n) x s (mkT F x)) (pointC (mkF F x n) x s (mkT F x))
                unfold dropF1
                have e1 : (pointC (mkF F x n) x s (mkT F x)).old = zA := by unfold pointC; rw [hat]; rfl
                rw [e1, point_none (mk_dev hd n) (mk_zero hO hd n), if_neg (by simp)]
                unfold pointF mkF
                rw [if_neg hz, onF_on, hT]
                refine onF_eq hd ?_
                rfl
              · unfold pointC
                rw [hat, hT]
                rfl
end Go.Proofs.Ytafnbpkdenjipaa.fl
namespace Go.Proofs.Ytafnbpkdenjipaa.fl
open Go.RowKit Go.Proofs.Ytafnbpkdenjipaa.cm

theorem makeNode_any (B E : Nat) (fa : Option Addr) (fc : Nat) (cv : Value) (F : FilP) (l : List ChgP) (x : At) (s : ByteArray) (n : NodeP) (ra : Option Addr) (rl rc : Nat) (w : World) (h : EdI B E w fa fc cv F l) (hO : OKF F) :
    Calls Try.prog 47 #[.pointer (some ⟨E, 0, none⟩), .agg #[.int .i64 x.dev, .int .i64 x.ino, .string s], .agg #[.int .i64 n.ino, .int .i64 n.kind, .int .i64 n.mode, .int .i64 n.uid, .int .i64 n.gid, .int .i64 n.parent, .string n.target, .slice ra rl rc]] w (StepR B E (pointF (mkF F x n) x s (mkT F x)) (l ++ [pointC (mkF F x n) x s (mkT F x)]) (mkE F x s n) w) := by
  by_cases hP : placesE F [(x, s)] = 0
  · obtain ⟨pn, hpn⟩ := places_node hP
    obtain ⟨j, k, d, hj, hd, -, -⟩ := node_where hpn
    obtain ⟨xd, xi⟩ := x
    obtain rfl : xd = (j : Int) := hj
    obtain ⟨vn, ev, hf⟩ := h.fil
    obtain ⟨gd, cD, hfv, -, -, -⟩ := hf.gD hd
    injection hfv with hfa hf2 hf3
    clear hf2
    subst hfa
    subst hf3
    have hT : mkT F ⟨(j : Int), xi⟩ = ⟨(j : Int), d.next⟩ := by
      unfold mkT
      rw [show devF F (⟨(j : Int), xi⟩ : At).dev = some d from devF_idx.trans hd]
    rw [hT]
    exact makeNode_ok B E j gd fc cv F l xi s n ra rl rc w d pn h hO hP hd hpn
  · exact makeNode_bad B E fa fc cv F l x s n ra rl rc w h hP _ _

set_option maxRecDepth 100000 in
set_option maxHeartbeats 400000 in
theorem makeClo_any (B E D M Y : Nat) (fa : Option Addr) (fc : Nat) (cv : Value) (F : FilP) (l : List ChgP) (x : At) (s : ByteArray) (n : NodeP) (ra : Option Addr) (rl rc : Nat) (w : World) (h : EdI B E w fa fc cv F l) (hO : OKF F) (h0 : w.cell? ⟨D, 0, none⟩ = some (.int .i64 x.dev)) (h1 : w.cell? ⟨D, 1, none⟩ = some (.int .i64 x.ino)) (h2 : w.cell? ⟨M, 0, none⟩ = some (.string s))
    (hY : TB 43 w Y (ncs n (.slice ra rl rc))) :
    Calls Try.prog 46 #[.pointer (some ⟨E, 0, none⟩), .pointer (some ⟨D, 0, none⟩), .pointer (some ⟨M, 0, none⟩), .pointer (some ⟨Y, 0, none⟩)] w (StepR B E (pointF (mkF F x n) x s (mkT F x)) (l ++ [pointC (mkF F x n) x s (mkT F x)]) (mkE F x s n) w) := by
  have CU := Lib.hid (makeNode_any B E fa fc cv F l x s n ra rl rc w h hO)
  obtain ⟨⟨y0, y1, y2, y3, y4, y5, y6, y7⟩, -⟩ := hY.blk.c8
  clear h hO hY
  go_enter Try.func46, Try.ntmps46
  go_wp2_with fail
  refine CU.out.mono ?_
  intro e w1 hp
  obtain rfl := hp.1
  have HP := Lib.hid hp
  clear hp CU
  go_wp2_with fail
  go_ret
  exact HP.out

set_option maxRecDepth 100000 in
set_option maxHeartbeats 400000 in
theorem Make_any (a : Option Addr) (cap : Nat) (F : FilP) (x : At) (s : ByteArray) (n : NodeP) (ra : Option Addr) (rl rc : Nat) (w : World) (hF : FilesAt w a F) (hO : OKF F) :
    Calls Try.prog 25 #[.agg #[.slice a F.length cap], .agg #[.int .i64 x.dev, .int .i64 x.ino], .string s, .agg #[.int .i64 n.ino, .int .i64 n.kind, .int .i64 n.mode, .int .i64 n.uid, .int .i64 n.gid, .int .i64 n.parent, .string n.target, .slice ra rl rc]] w (EditR w.heap.size (makeF F x s n) w) := by
  obtain ⟨k1, k2, k3⟩ := mk_eq hO x s n
  have hb1 : Below w.heap.size w (w.alloc (.cells #[.slice a F.length cap] 24)) := (Below.refl _ _).alloc (Nat.le_refl _) _
  have hb2 := hb1.alloc hb1.size (.cells #[.int .i64 x.dev, .int .i64 x.ino] 36)
  have hb3 := hb2.alloc hb2.size (.cells #[.string s] 9)
  have hby := hb3.alloc hb3.size (.cells #[.int .i64 n.ino, .int .i64 n.kind, .int .i64 n.mode, .int .i64 n.uid, .int .i64 n.gid, .int .i64 n.parent, .string n.target, .slice ra rl rc] 43)
  have hb4 := hby.alloc hby.size (.cells #[.slice none 0 0] 24)
  obtain ⟨w4, hw4⟩ : ∃ w4, w4 = ((((w.alloc (.cells #[.slice a F.length cap] 24)).alloc (.cells #[.int .i64 x.dev, .int .i64 x.ino] 36)).alloc (.cells #[.string s] 9)).alloc (.cells #[.int .i64 n.ino, .int .i64 n.kind, .int .i64 n.mode, .int .i64 n.uid, .int .i64 n.gid, .int .i64 n.parent, .string n.target, .slice ra rl rc] 43)).alloc (.cells #[.slice none 0 0] 24) := ⟨_, rfl⟩
  have t0 : TB 24 w4 w.heap.size [.slice a F.length cap] := by rw [hw4]; exact ((((TB.new1 w [.slice a F.length cap] _ _ rfl).alloc _).alloc _).alloc _).alloc _
  have tD : TB 36 w4 (w.heap.size + 1) [.int .i64 x.dev, .int .i64 x.ino] := by rw [hw4]; exact (((TB.new1 _ [.int .i64 x.dev, .int .i64 x.ino] _ _ (size_alloc _ _)).alloc _).alloc _).alloc _
  have tM : TB 9 w4 (w.heap.size + 1 + 1) [.string s] := by rw [hw4]; exact ((TB.new1 _ [.string s] _ _ (by rw [size_alloc, size_alloc])).alloc _).alloc _
  have tY : TB 43 w4 (w.heap.size + 1 + 1 + 1) (ncs n (.slice ra rl rc)) := by rw [hw4]; exact (TB.new1 _ (ncs n (.slice ra rl rc)) _ _ (by rw [size_alloc, size_alloc, size_alloc])).alloc _
  have tG : TB 24 w4 (w.heap.size + 1 + 1 + 1 + 1) [.slice none 0 0] := by rw [hw4]; exact TB.new1 _ [.slice none 0 0] _ _ (by rw [size_alloc, size_alloc, size_alloc, size_alloc])
  rw [← hw4] at hb4
  obtain ⟨x0, -⟩ := t0.blk.c1
  have CE := Lib.hid (edited_any 46 #[.pointer (some ⟨w.heap.size + 1, 0, none⟩), .pointer (some ⟨w.heap.size + 1 + 1, 0, none⟩), .pointer (some ⟨w.heap.size + 1 + 1 + 1, 0, none⟩)] (fun _ _ => by kernel_rfl) a cap F w4 (hF.below hb4) hO.sml (makeF F x s n) (pointF (mkF F x n) x s (mkT F x)) [pointC (mkF F x n) x s (mkT F x)]
    (fun W E fa fc hb hE hed hfil => by
      rw [k1]
      exact makeClo_any w4.heap.size E (w.heap.size + 1) (w.heap.size + 1 + 1) (w.heap.size + 1 + 1 + 1) fa fc (.slice none 0 0) F [] x s n ra rl rc W ⟨hfil, hed, OwnC.nil _ _, hO.sml, hO.srt, hO.asc, hO.low, Nat.zero_le _, hb.size, hE⟩ hO (tD.stay hb).blk.c2.1 (tD.stay hb).blk.c2.2.1 (tM.stay hb).blk.c1.1 (tY.stay hb)) k2 k3)
  have hmf : ∀ (fn : Fn) (first cap : Array Value) (w : World), (Instr.makeFunc fn first cap).run Try.prog w = .ok (.func fn first cap) w := fun _ _ _ _ => rfl
  have HW := Lib.hid hw4
  clear hw4 hb1 hb2 hb3 hby hF hO k1 k2 k3
  go_enter Try.func25, Try.ntmps25
  go_wp2_with fail
  rw [← HW.out]
  go_wp2_with fail
  refine CE.out.mono ?_
  rintro e w5 ⟨fv, cv, rfl, h1, h2, h3⟩
  obtain ⟨fa, fc, rfl⟩ : ∃ fa fc, fv = .slice fa (makeF F x s n).files.length fc := by
    obtain ⟨a, c, h, -⟩ := h1.at_
    exact ⟨a, c, h⟩
  have uG := tG.stay h3
  obtain ⟨g0, gf⟩ := uG.blk.c1
  have n0 := (TB.blk (cs := [.slice fa (makeF F x s n).files.length fc]) (uG.set 0 (.slice fa (makeF F x s n).files.length fc))).c1.1
  have HFN := Lib.hid (EditR.out hb4.size hb4 h1 h2 h3 uG (by omega))
  clear h1 h2 h3 CE
  go_wp2_with fail
  exact bodyPost_ret (v := .tuple #[.agg #[.slice fa (makeF F x s n).files.length fc], cv, .int .i64 (makeF F x s n).err]) (by simp [results, Try.f25, go_sem, n0]) rfl HFN.out
end Go.Proofs.Ytafnbpkdenjipaa.fl
