/-
  point of package files: an entry leads elsewhere.
-/
import Derived.Test.YtafnbpkdenjipaaFGi
import Derived.StillTailTactics
import Derived.Laws.StructEq
namespace Go.Proofs.Ytafnbpkdenjipaa.fl
open Go.RowKit Go.Proofs.Ytafnbpkdenjipaa.cm

theorem FilesO.cellN {B : Nat} {w : World} {v : Value} {F : FilP} {vn : Nat → Value} {ev : Nat → Nat → Value} (h : FilesO B w v F vn ev) {i : Nat} {d : DevP} (hi : F[i]? = some d) {k : Nat} {n : NodeP} (hk : d.nodes[k]? = some n) {g : Nat} (hg : (vn i).ownBlock = some g) {c : Nat} (hc : c < 8) : w.cell? ⟨g, k * 8 + c, none⟩ = (ncs n (ev i k))[c]? := by
  obtain ⟨cap, hv⟩ := own_form (h.nodes i d hi) hg
  exact (h.nodes i d hi).cells hv hk c hc
theorem FilesO.ptr {B : Nat} {w : World} {a : Option Addr} {len cap : Nat} {F : FilP} {vn : Nat → Value} {ev : Nat → Nat → Value} (h : FilesO B w (.slice a len cap) F vn ev) {j : Nat} {d : DevP} (hd : F[j]? = some d) {k : Nat} {n : NodeP} (hk : d.nodes[k]? = some n) {p : Addr} (hp : NodePtr w a j k p) : ∃ g, (vn j).ownBlock = some g ∧ p = ⟨g, k * 8, none⟩ := by
  obtain ⟨b, o, b', o', m, c, ha, hc, rfl⟩ := hp
  obtain ⟨gd, cd, hv, -⟩ := h.gD hd
  obtain ⟨gn, cn, hvn, hgn, -⟩ := h.gN hd hk
  injection hv with hv hvl _
  rw [ha] at hv
  injection hv with hv
  injection hv with h1 h2 _
  subst h1; subst h2
  have hl : j < F.length := (List.getElem?_eq_some_iff.1 hd).1
  have hx : (Value.slice a len cap) = .slice (some ⟨b, 0, none⟩) F.length cap := by rw [ha, hvl]
  rw [Nat.zero_add, own_cell h.row hx (by omega), drow_at vn 0 F j d hd 1 (by omega), Nat.zero_add] at hc
  have hc : some (vn j) = some (.slice (some ⟨b', o', none⟩) m c) := hc
  injection hc with hc
  rw [hvn] at hc
  injection hc with hc
  injection hc with hc
  injection hc with h1 h2 _
  subst h1; subst h2
  exact ⟨gn, hgn, by simp⟩
/-- what nodeAt answers of files of the call's own -/
theorem nodeAtO_any (B : Nat) (a : Option Addr) (cap : Nat) (F : FilP) (x : At) (w : World) (vn : Nat → Value) (ev : Nat → Nat → Value) (h : FilesO B w (.slice a F.length cap) F vn ev) (hS : Sml F) :
    Calls Try.prog 39 #[.agg #[.slice a F.length cap], .agg #[.int .i64 x.dev, .int .i64 x.ino]] w fun e w' => Below w.heap.size w w' ∧ ((nodeF F x = none ∧ e = .returned (.pointer none)) ∨
      ∃ (j k : Nat) (d : DevP) (n : NodeP) (g : Nat), x.dev = (j : Int) ∧ F[j]? = some d ∧ idxL d.nodes x.ino = some k ∧ d.nodes[k]? = some n ∧ nodeF F x = some n ∧ (vn j).ownBlock = some g ∧ e = .returned (.pointer (some ⟨g, k * 8, none⟩))) := by
  obtain ⟨a', c', hv, -, -, hF⟩ := h.at_
  injection hv with h1 _ _
  subst h1
  refine (nodeAt_any a cap F x w hF hS).mono ?_
  rintro e w' ⟨hb, h1 | ⟨j, k, d, n, b, o, h1, h2, h3, h4, h5, h6, h7, -⟩⟩
  · exact ⟨hb, .inl h1⟩
  · obtain ⟨g, hg, he⟩ := h.ptr h2 h4 h7
    exact ⟨hb, .inr ⟨j, k, d, n, g, h1, h2, h3, h4, h5, hg, by rw [h6, he]⟩⟩

theorem node_where {F : FilP} {x : At} {n : NodeP} (h : nodeF F x = some n) : ∃ (j k : Nat) (d : DevP), x.dev = (j : Int) ∧ F[j]? = some d ∧ idxL d.nodes x.ino = some k ∧ d.nodes[k]? = some n := by
  obtain ⟨d, hd, hn⟩ := nodeF_of h
  obtain ⟨h1, h2, -⟩ := devF_of hd
  cases hi : idxL d.nodes x.ino with
  | none => have : nodeL d.nodes x.ino = some n := hn; rw [idxL_none hi] at this; cases this
  | some k =>
    obtain ⟨n', h3, -, h4, -⟩ := idxL_node hi
    have : nodeL d.nodes x.ino = some n := hn
    rw [h4] at this
    injection this with this
    subst this
    exact ⟨x.dev.toNat, k, d, by omega, h2, hi, h3⟩
theorem nodeAtO_some (B : Nat) (a : Option Addr) (cap : Nat) (F : FilP) (x : At) (w : World) (vn : Nat → Value) (ev : Nat → Nat → Value) (h : FilesO B w (.slice a F.length cap) F vn ev) (hS : Sml F) {j k g : Nat} {d : DevP} (hx : x.dev = (j : Int)) (hd : F[j]? = some d) (hi : idxL d.nodes x.ino = some k) (hg : (vn j).ownBlock = some g) :
    Calls Try.prog 39 #[.agg #[.slice a F.length cap], .agg #[.int .i64 x.dev, .int .i64 x.ino]] w fun e w' => e = .returned (.pointer (some ⟨g, k * 8, none⟩)) ∧ Below w.heap.size w w' := by
  refine (nodeAtO_any B a cap F x w vn ev h hS).mono ?_
  rintro e w' ⟨hb, ⟨h1, -⟩ | ⟨j', k', d', n', g', h1, h2, h3, -, -, h6, h7⟩⟩
  · exfalso
    obtain ⟨n, -, -, hn, -⟩ := idxL_node hi
    unfold nodeF at h1
    rw [hx, devF_idx, hd] at h1
    have h1 : nodeL d.nodes x.ino = none := h1
    rw [hn] at h1
    cases h1
  · obtain rfl : j = j' := by omega
    rw [hd] at h2
    injection h2 with h2
    subst h2
    rw [hi] at h3
    injection h3 with h3
    subst h3
    rw [hg] at h6
    injection h6 with h6
    subst h6
    exact ⟨h7, hb⟩

/-- blocks but those of files and changes, and but E, are as they were -/
structure SameB (E : Nat) (w w' : World) : Prop where
  size : w.heap.size ≤ w'.heap.size
  block : ∀ (k : Nat) cs T fr, w.heap[k]? = some (.cells cs T fr) → k ≠ E → ¬ (T = 72 ∨ T = 43 ∨ T = 87 ∨ T = 66) → w'.heap[k]? = w.heap[k]?
theorem SameB.of_below {E : Nat} {w w' : World} (h : Below w.heap.size w w') : SameB E w w' := ⟨h.size, fun k _ _ _ hk _ _ => h.block k (Array.getElem?_eq_some_iff.1 hk).1⟩
theorem SameB.refl (E : Nat) (w : World) : SameB E w w := ⟨Nat.le_refl _, fun _ _ _ _ _ _ _ => rfl⟩
theorem SameB.trans {E : Nat} {a b c : World} (h : SameB E a b) (k : SameB E b c) : SameB E a c := ⟨Nat.le_trans h.size k.size, fun i _ _ _ hi hE hT => (k.block i _ _ _ ((h.block i _ _ _ hi hE hT).trans hi) hE hT).trans (h.block i _ _ _ hi hE hT)⟩
theorem TB.sameB {T E : Nat} {w w' : World} {B : Nat} {cs : List Value} (h : TB T w B cs) (hs : SameB E w w') (hne : B ≠ E) (hT : ¬ (T = 72 ∨ T = 43 ∨ T = 87 ∨ T = 66)) : TB T w' B cs := h.keep (hs.block B _ _ _ h hne hT)
theorem SameB.setE {E : Nat} (w : World) (j : Nat) (u : Value) : SameB E w (w.setCell ⟨E, j, none⟩ u) := ⟨by rw [size_set]; exact Nat.le_refl _, fun k _ _ _ _ hE _ => Below.heap_setCell w ⟨E, j, none⟩ u k hE⟩
theorem SameB.setT {E C : Nat} {w : World} {cs : Array Value} {T : Nat} {fr : Nat × Nat} (hC : w.heap[C]? = some (.cells cs T fr)) (hT : T = 72 ∨ T = 43 ∨ T = 87 ∨ T = 66) (j : Nat) (u : Value) : SameB E w (w.setCell ⟨C, j, none⟩ u) :=
  ⟨by rw [size_set]; exact Nat.le_refl _, fun k _ _ _ hk _ hT' => Below.heap_setCell w ⟨C, j, none⟩ u k (by
    show k ≠ C
    rintro rfl
    rw [hC] at hk
    injection hk with hk
    injection hk with _ hk
    exact hT' (hk ▸ hT))⟩
theorem SameB.grown {E : Nat} {w w' : World} {M T size n : Nat} {v : Value} {xs : List Value} (ho : w.ownsRow M T size v n xs) (hT : T = 72 ∨ T = 43 ∨ T = 87 ∨ T = 66) (hg : w.grownBy w' v.ownBlock) : SameB E w w' :=
  ⟨hg.size, fun k _ _ _ hk _ hT' => hg.block k (Array.getElem?_eq_some_iff.1 hk).1 (fun e => by
    obtain ⟨c, fz, h1⟩ := Lib.ownsRow_kind ho k e.symm
    rw [hk] at h1
    injection h1 with h1
    injection h1 with _ h1
    exact hT' (h1 ▸ hT))⟩

def pointF (F : FilP) (x : At) (s : ByteArray) (to : At) : FilP := onF F x.dev fun d => modD d x.ino (if to = zA then remF s else insF s to.ino)
def pointC (F : FilP) (x : At) (s : ByteArray) (to : At) : ChgP := ⟨x, s, (atF F x s).getD zA, to⟩
def AscF (F : FilP) : Prop := ∀ d ∈ F, AscL d.nodes
theorem OKF.asc {F : FilP} (h : OKF F) : AscF F := fun d hd => (h.2 d hd).pre.asc
theorem modL_none {l : List NodeP} {g : Int} (f : NodeP → NodeP) (h : ∀ n ∈ l, n.ino ≠ g) : modL l g f = l := by
  unfold modL
  rw [List.map_congr_left (g := id) (fun n hn => by rw [if_neg (h n hn)]; rfl), List.map_id]
theorem set_mod {l : List NodeP} (h : AscL l) {g : Int} {k : Nat} {n : NodeP} (hk : l[k]? = some n) (hg : n.ino = g) (f : NodeP → NodeP) : l.set k (f n) = modL l g f := by
  induction l generalizing k with
  | nil => simp at hk
  | cons x l ih =>
    have h' := List.pairwise_cons.1 h
    rw [mod_cons]
    cases k with
    | zero =>
      simp at hk
      subst hk
      rw [List.set_cons_zero, if_pos hg, modL_none f (fun m hm => by have := h'.1 m hm; omega)]
    | succ k =>
      have hk' : l[k]? = some n := by simpa using hk
      have := h'.1 n (List.mem_of_getElem? hk')
      rw [List.set_cons_succ, if_neg (by omega), ih h'.2 hk']
theorem set_on {F : FilP} {j : Nat} {d : DevP} (hd : F[j]? = some d) (f : DevP → DevP) : F.set j (f d) = onF F (j : Int) f := by
  unfold onF
  apply List.ext_getElem?
  intro t
  rw [List.getElem?_set, List.getElem?_modify]
  have hl : j < F.length := (List.getElem?_eq_some_iff.1 hd).1
  simp only [Int.toNat_natCast]
  by_cases e : j = t
  · subst e
    obtain ⟨_, rfl⟩ := List.getElem?_eq_some_iff.1 hd
    simp [hl]
  · simp [e]
/-- a node of files turned, as the plain functions say it -/
theorem setN_on {F : FilP} (hA : AscF F) {x : At} {j : Nat} (hx : x.dev = (j : Int)) {d : DevP} (hd : F[j]? = some d) {k : Nat} (hi : idxL d.nodes x.ino = some k) {n : NodeP} (hk : d.nodes[k]? = some n) (f : NodeP → NodeP) : F.set j (setN d k (f n)) = onF F x.dev fun d => modD d x.ino f := by
  rw [hx, ← set_on hd (fun d => modD d x.ino f)]
  congr 1
  unfold setN modD
  congr 1
  obtain ⟨n', h1, h2, -⟩ := idxL_node hi
  rw [hk] at h1
  injection h1 with h1
  subst h1
  exact set_mod (hA d (List.mem_of_getElem? hd)) hk h2 f

-- files as values are compared
def sameA (x y : At) : Bool := x.dev == y.dev && x.ino == y.ino
theorem sameA_iff {x y : At} : sameA x y = true ↔ x = y := by
  unfold sameA
  rw [Bool.and_eq_true, beq_iff_eq, beq_iff_eq]
  exact ⟨fun h => At.ext' h.1 h.2, fun h => by rw [h]; exact ⟨rfl, rfl⟩⟩
theorem sameA_dec (x y : At) : sameA x y = decide (x = y) := by rw [Bool.eq_iff_iff, decide_eq_true_eq]; exact sameA_iff
theorem eq_file (a b c d : Int) (W : World) : (binOp .eql 36 (.agg #[.int .i64 a, .int .i64 b]) (.agg #[.int .i64 c, .int .i64 d])).run Try.prog W = .ok (.bool (a == c && b == d)) W := by
  rw [run_eql_struct, run_equalIn_agg _ _ _ _ _ (by kernel_rfl) (by kernel_rfl)]
  simp [Op.eqFields, go_sem]
  by_cases a1 : a = c
  · by_cases a2 : b = d
    · simp [a1, a2]
    · simp [a1, a2]
  · simp [a1]
theorem neq_file (a b c d : Int) (W : World) : (binOp .neq 36 (.agg #[.int .i64 a, .int .i64 b]) (.agg #[.int .i64 c, .int .i64 d])).run Try.prog W = .ok (.bool (!(a == c && b == d))) W := by
  rw [run_neq_struct, run_equalIn_agg _ _ _ _ _ (by kernel_rfl) (by kernel_rfl)]
  simp [Op.eqFields, go_sem]
  by_cases a1 : a = c
  · by_cases a2 : b = d
    · simp [a1, a2]
    · simp [a1, a2]
  · simp [a1]

theorem SameB.setNew {E C : Nat} {w0 w : World} (h : SameB E w0 w) (hC : w0.heap.size ≤ C) (j : Nat) (u : Value) : SameB E w0 (w.setCell ⟨C, j, none⟩ u) :=
  ⟨by rw [size_set]; exact h.size, fun k _ _ _ hk hE hT => (Below.heap_setCell w ⟨C, j, none⟩ u k (by have := (Array.getElem?_eq_some_iff.1 hk).1; show k ≠ C; omega)).trans (h.block k _ _ _ hk hE hT)⟩
/-- what stands between the steps of point -/
structure MidP (B E C : Nat) (w0 wx : World) (fv cv : Value) (F : FilP) (vn : Nat → Value) (ev : Nat → Nat → Value) (j : Nat) (d : DevP) (k : Nat) (n : NodeP) (l : List ChgP) (x : At) (s : ByteArray) (to : At) (es : List EntP) (old : At) : Prop where
  fil : FilesO B wx fv (F.set j (setN d k { n with ents := es })) vn ev
  ed : TB 100 wx E [fv, cv]
  pl : TB 82 wx w0.heap.size [.int .i64 x.dev, .int .i64 x.ino, .string s]
  tt : TB 36 wx (w0.heap.size + 1) [.int .i64 to.dev, .int .i64 to.ino]
  ch : TB 66 wx C [.int .i64 x.dev, .int .i64 x.ino, .string s, .int .i64 old.dev, .int .i64 old.ino, .int .i64 to.dev, .int .i64 to.ino]
  chn : cv.ownBlock ≠ some C
  chl : w0.heap.size ≤ C
  own : OwnC B wx cv l
  same : SameB E w0 wx
  bel : Below B w0 wx
section
variable {B E C : Nat} {w0 wx w' : World} {fv cv : Value} {F : FilP} {vn : Nat → Value} {ev : Nat → Nat → Value} {j : Nat} {d : DevP} {k : Nat} {n : NodeP} {l : List ChgP} {x : At} {s : ByteArray} {to : At} {es : List EntP} {old : At}
theorem setN_at (hd : F[j]? = some d) (x : DevP) : (F.set j x)[j]? = some x := by
  have := (List.getElem?_eq_some_iff.1 hd).1
  rw [List.getElem?_set]; simp [this]
theorem setN_node (hk : d.nodes[k]? = some n) (m : NodeP) : (setN d k m).nodes[k]? = some m := by
  have := (List.getElem?_eq_some_iff.1 hk).1
  unfold setN
  rw [List.getElem?_set]; simp [this]
theorem MidP.stay (h : MidP B E C w0 wx fv cv F vn ev j d k n l x s to es old) (hb : Below wx.heap.size wx w') (hB : B ≤ wx.heap.size) : MidP B E C w0 w' fv cv F vn ev j d k n l x s to es old :=
  ⟨h.fil.stay hb, h.ed.stay hb, h.pl.stay hb, h.tt.stay hb, h.ch.stay hb, h.chn, h.chl, own_keep h.own fun g hg => hb.block g (own_lt h.own hg).2, h.same.trans (.of_below hb), h.bel.trans (hb.mono hB)⟩
/-- the entry's old node is noted -/
theorem MidP.note (h : MidP B E C w0 wx fv cv F vn ev j d k n l x s to es old) (hB : B ≤ w0.heap.size) (hE : E ≠ C) (new : At) : MidP B E C w0 ((wx.setCell ⟨C, 3, none⟩ (.int .i64 new.dev)).setCell ⟨C, 4, none⟩ (.int .i64 new.ino)) fv cv F vn ev j d k n l x s to es new := by
  have hne1 : w0.heap.size ≠ C := fun e => by
    have h1 : wx.heap[w0.heap.size]? = _ := h.pl
    have h2 : wx.heap[C]? = _ := h.ch
    rw [e, h2] at h1
    injection h1 with h1
    injection h1 with _ h1
    exact absurd h1 (by decide)
  have hne2 : w0.heap.size + 1 ≠ C := fun e => by
    have h1 : wx.heap[w0.heap.size + 1]? = _ := h.tt
    have h2 : wx.heap[C]? = _ := h.ch
    rw [e, h2] at h1
    injection h1 with h1
    injection h1 with _ h1
    exact absurd h1 (by decide)
  have c1 := h.ch.set 3 (.int .i64 new.dev)
  have s1 := h.ch.same (by decide) 3 (.int .i64 new.dev)
  exact ⟨(h.fil.same s1).same (c1.same (by decide) 4 (.int .i64 new.ino)), (h.ed.other hE 3 _).other hE 4 _, (h.pl.other hne1 3 _).other hne1 4 _, (h.tt.other hne2 3 _).other hne2 4 _, c1.set 4 (.int .i64 new.ino), h.chn, h.chl,
    own_other (own_other h.own h.chn 3 _) h.chn 4 _, (h.same.setNew h.chl 3 _).setNew h.chl 4 _, below_set (below_set h.bel (Nat.le_trans hB h.chl) 3 _) (Nat.le_trans hB h.chl) 4 _⟩
/-- the entries are other ones -/
theorem MidP.step (h : MidP B E C w0 wx fv cv F vn ev j d k n l x s to es old) (hd : F[j]? = some d) (hk : d.nodes[k]? = some n) (hB : B ≤ wx.heap.size) (hg : wx.grownBy w' (ev j k).ownBlock) {ve : Value} {es' : List EntP} (ho : OwnE B w' ve es')
    (hb : ∀ g, ve.ownBlock = some g → (ev j k).ownBlock = some g ∨ wx.heap.size ≤ g) {g : Nat} (hgn : (vn j).ownBlock = some g) : MidP B E C w0 (w'.setCell ⟨g, k * 8 + 7, none⟩ ve) fv cv F vn (updE ev j k ve) j d k n l x s to es' old := by
  have hd' := setN_at hd (setN d k { n with ents := es })
  have hk' := setN_node hk { n with ents := es }
  have hrow := h.fil.ents j _ k _ hd' hk'
  have hN := h.fil.nodes j _ hd'
  have hN' : w'.ownsRow B 43 8 (vn j) (setN d k { n with ents := es }).nodes.length (nrow (ev j) 0 (setN d k { n with ents := es }).nodes) := own_keep hN fun g' hg' => hg.block g' (own_lt hN hg').2 (fun e => own_types hN hrow (by decide) hg' e.symm)
  have hC' : w'.ownsRow B 66 7 cv l.length (crow l) := own_keep h.own fun g' hg' => hg.block g' (own_lt h.own hg').2 (fun e => own_types h.own hrow (by decide) hg' e.symm)
  obtain ⟨cc, fz, hgc⟩ := Lib.ownsRow_kind hN' g hgn
  have key : ∀ {T : Nat} {Z : Nat} {cs : List Value}, TB T wx Z cs → T ≠ 87 → T ≠ 43 → TB T (w'.setCell ⟨g, k * 8 + 7, none⟩ ve) Z cs := fun h1 h2 h3 => (h1.grown hrow h2 hg).other (fun e => (h1.grown hrow h2 hg).ne hN' h3 (e ▸ hgn)) _ _
  refine ⟨?_, key h.ed (by decide) (by decide), key h.pl (by decide) (by decide), key h.tt (by decide) (by decide), key h.ch (by decide) (by decide), h.chn, h.chl, own_other hC' (own_types hN' hC' (by decide) hgn) _ _, (h.same.trans (.grown hrow (.inr (.inr (.inl rfl))) hg)).trans (.setT hgc (.inr (.inl rfl)) _ _), ?_⟩
  · have := h.fil.setEnts hd' hk' hg ho hb hgn
    have e1 : (F.set j (setN d k { n with ents := es })).set j (setN (setN d k { n with ents := es }) k { ({ n with ents := es } : NodeP) with ents := es' }) = F.set j (setN d k { n with ents := es' }) := by
      rw [List.set_set]
      congr 1
      unfold setN
      simp only [List.set_set]
    rw [e1] at this
    exact this
  · exact below_set (h.bel.trans ((Below.refl B wx).grown hg hB (fun g' hg' => (own_lt hrow hg').1))) (own_lt hN hgn).1 _ _
/-- where the entries' slice lies -/
theorem MidP.cell7 (h : MidP B E C w0 wx fv cv F vn ev j d k n l x s to es old) (hd : F[j]? = some d) (hk : d.nodes[k]? = some n) (hg : wx.grownBy w' (ev j k).ownBlock) {g : Nat} (hgn : (vn j).ownBlock = some g) : w'.cell? ⟨g, k * 8 + 7, none⟩ = some (ev j k) ∧ w'.frozen? ⟨g, k * 8 + 7, none⟩ = false := by
  have hd' := setN_at hd (setN d k { n with ents := es })
  have hk' := setN_node hk { n with ents := es }
  have hrow := h.fil.ents j _ k _ hd' hk'
  have hN := h.fil.nodes j _ hd'
  have hN' : OwnN B w' (vn j) (ev j) (setN d k { n with ents := es }).nodes := own_keep hN fun g' hg' => hg.block g' (own_lt hN hg').2 (fun e => own_types hN hrow (by decide) hg' e.symm)
  obtain ⟨cap, hv⟩ := own_form hN' hgn
  refine ⟨?_, ?_⟩
  · rw [hN'.cells hv hk' 7 (by omega)]; rfl
  · have h2 : w'.ownsRow B 43 8 (vn j) (setN d k { n with ents := es }).nodes.length (nrow (ev j) 0 (setN d k { n with ents := es }).nodes) := hN'
    rw [hv] at h2
    exact h2.frozenAt _
theorem MidP.drew (h : MidP B E C w0 wx fv cv F vn ev j d k n l x s to es old) (hB : B ≤ wx.heap.size) : MidP B E C w0 wx.drew fv cv F vn ev j d k n l x s to es old := h.stay (Below.refl _ _).drew hB
theorem MidP.row (h : MidP B E C w0 wx fv cv F vn ev j d k n l x s to es old) (hd : F[j]? = some d) (hk : d.nodes[k]? = some n) : wx.ownsRow B 87 2 (ev j k) es.length (erow es) := h.fil.ents j _ k _ (setN_at hd _) (setN_node hk { n with ents := es })
theorem updE_same (ev : Nat → Nat → Value) (j k : Nat) (x : Value) : updE ev j k x j k = x := by unfold updE; rw [if_pos ⟨rfl, rfl⟩]
end
end Go.Proofs.Ytafnbpkdenjipaa.fl
