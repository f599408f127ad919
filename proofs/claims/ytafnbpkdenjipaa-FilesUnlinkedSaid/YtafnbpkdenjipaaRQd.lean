/-
  The reference of files: a node is added to files of the call's own, and a whole node is stored; as plain data.
  The reference of files: Rename and below, as plain data.
  The reference of files: below.
  The reference of files: Set.
-/
import Derived.Test.YtafnbpkdenjipaaRQb
import Derived.Test.YtafnbpkdenjipaaFMz
import Derived.Test.YtafnbpkdenjipaaFSa
import Derived.Test.YtafnbpkdenjipaaRQa
import Derived.Test.YtafnbpkdenjipaaRQc
namespace Go.Proofs.Ytafnbpkdenjipaa.fl
open Go.RowKit Go.Proofs.Ytafnbpkdenjipaa.cm

/-- a node has been added to files of the call's own -/
theorem OutF.add {B gd j : Nat} {w1 wA : World} {fv v' : Value} {F : FilP} {vn : Nat → Value} {ev : Nat → Nat → Value} {d : DevP} {m : NodeP} (hf : FilesO B w1 fv F vn ev)
    (hd : F[j]? = some d) (hgd : fv.ownBlock = some gd) (hg : w1.grownBy wA (vn j).ownBlock) (ho : wA.ownsRow B 43 8 v' (d.nodes.length + 1) (nrow (ev j) 0 d.nodes ++ ncs m (.slice none 0 0))) (hat : v'.ownBlock = (vn j).ownBlock ∨ v'.ownBlock = some w1.heap.size) (hm : m.ents = []) (hB : B ≤ w1.heap.size) :
    (∃ ev', FilesO B ((wA.setCell ⟨gd, j * 2 + 1, none⟩ v').setCell ⟨gd, j * 2 + 0, none⟩ (.int .i64 (d.next + 1))) fv (F.set j ⟨d.next + 1, d.nodes ++ [m]⟩) (updN vn j v') ev') ∧
    Below B w1 ((wA.setCell ⟨gd, j * 2 + 1, none⟩ v').setCell ⟨gd, j * 2 + 0, none⟩ (.int .i64 (d.next + 1))) ∧
    ∀ T D cs, T ≠ 43 → T ≠ 72 → TB T w1 D cs → TB T ((wA.setCell ⟨gd, j * 2 + 1, none⟩ v').setCell ⟨gd, j * 2 + 0, none⟩ (.int .i64 (d.next + 1))) D cs := by
  have hN := hf.nodes j d hd
  have hup : ∀ k, k ≠ d.nodes.length → upd1 (ev j) d.nodes.length (.slice none 0 0) k = ev j k := fun k hk => upd1_other _ _ hk
  have hups : ∀ k g, (upd1 (ev j) d.nodes.length (.slice none 0 0) k).ownBlock = some g → (ev j k).ownBlock = some g := fun k g hg' => by
    by_cases c : k = d.nodes.length
    · rw [c, upd1_same] at hg'; cases hg'
    · rwa [hup k c] at hg'
  have ho2 : OwnN B wA v' (upd1 (ev j) d.nodes.length (.slice none 0 0)) (d.nodes ++ [m]) := by
    unfold OwnN
    rw [List.length_append, nrow_app, Nat.zero_add, nrow_ext (ev' := ev j) 0 d.nodes (fun k _ h => hup k (by omega))]
    have : nrow (upd1 (ev j) d.nodes.length (.slice none 0 0)) d.nodes.length [m] = ncs m (.slice none 0 0) := by simp [nrow, upd1_same]
    rw [this]
    exact ho
  have f1 := hf.setNodes hd hg ho2 (fun k n hk => by
    rw [List.getElem?_append] at hk
    split at hk
    · rename_i hlt
      rw [hup k (by omega)]
      have he := hf.ents j d k n hd hk
      exact own_keep he fun g' hg' => hg.block g' (own_lt he hg').2 (fun e => own_types he hN (by decide) hg' e.symm)
    · have hkk : k = d.nodes.length := by
        have := (List.getElem?_eq_some_iff.1 hk).1
        simp at this
        omega
      rw [hkk] at hk ⊢
      simp at hk
      rw [upd1_same, ← hk, hm]
      exact OwnE.nil _ _) (fun k m' g' h1 h2 => (hf.injE j k j m' g' (hups k g' h1) (hups m' g' h2)).2) (fun k g' h1 => ⟨k, hups k g' h1⟩) (fun g' hg' => by
    rcases hat with h | h
    · exact .inl (h ▸ hg')
    · rw [h] at hg'; injection hg' with hg'; exact .inr (by omega)) hgd
  have f2 := f1.setNext (setN_at hd _) (d.next + 1) hgd
  rw [List.set_set] at f2
  have hBd := (own_lt hf.row hgd).1
  refine ⟨⟨_, f2⟩, below_set (below_set ((Below.refl B w1).grown hg hB (fun g hg' => (own_lt hN hg').1)) hBd _ _) hBd _ _, fun T D cs h1 h2 ht => ?_⟩
  have hDd : D ≠ gd := fun e => ht.ne hf.row h2 (e ▸ hgd)
  exact ((ht.grown hN h1 hg).other hDd _ _).other hDd _ _

/-- enter in the words of the plain functions, with what it leaves alone -/
theorem renter_G (B : Nat) (fa : Option Addr) (fc : Nat) (F : FilP) (x : At) (s : ByteArray) (tg : At) (w : World) (vn : Nat → Value) (ev : Nat → Nat → Value) (h : FilesO B w (.slice fa F.length fc) F vn ev) (hS : Sml F) (hA : AscF F) (hT : SrtF F) (hL : LowF F) {n : NodeP} (hn : nodeF F x = some n) (hB : B ≤ w.heap.size) (htg : tg = zA ↔ tg.ino = 0) :
    Calls Try.prog 52 #[.agg #[.slice fa F.length fc], .agg #[.int .i64 x.dev, .int .i64 x.ino], .string s, .int .i64 tg.ino] w fun e w' => GoR B w (.slice fa F.length fc) (pointF F x s tg) e w' ∧ ∀ T D cs, (∀ i, (vn i).ownBlock ≠ some D) → TB T w D cs → TB T w' D cs := by
  obtain ⟨j, k, d, hj, hd, hi, hk⟩ := node_where hn
  obtain ⟨gd, c1, hv, -⟩ := h.gD hd
  obtain ⟨gn, cn, hvn, -⟩ := h.gN hd hk
  obtain ⟨va, cva, hev, -⟩ := own_slice (h.ents j d k n hd hk)
  injection hv with h1 h2 h3
  subst h1
  have e1 : F.set j (setN d k { n with ents := goE s tg.ino (decide (tg.ino = 0)) n.ents }) = pointF F x s tg := by
    unfold pointF
    rw [← setN_on hA hj hd hi hk]
    congr 2
    by_cases c : tg = zA
    · rw [if_pos c, decide_eq_true (htg.1 c), goE_true]; rfl
    · rw [if_neg c, decide_eq_false (fun h => c (htg.2 h)), goE_false _ _ _ (hT d (List.mem_of_getElem? hd) n (List.mem_of_getElem? hk))]; rfl
  obtain ⟨xd, xi⟩ := x
  obtain rfl : xd = (j : Int) := hj
  have CE := renter_ok B gd fc j k gn cn va cva F xi s tg.ino w d n vn ev h hS hd hi hk hvn hev hB (hL d (List.mem_of_getElem? hd) n (List.mem_of_getElem? hk))
  refine CE.mono ?_
  rintro e w' ⟨rfl, hg, ev', hf⟩
  rw [e1] at hf
  exact ⟨⟨rfl, (Below.refl B w).grown hg hB (fun g hg' => (own_lt (h.nodes j d hd) hg').1), ⟨vn, ev', hf⟩, fun T D cs h1 _ ht => ht.grown (h.nodes j d hd) h1 hg⟩, fun T D cs h1 ht => ht.keep (hg.block D ht.lt (fun e => h1 j e.symm))⟩

/-- Make as two steps: a node more, then its entry -/
theorem make_parts {F : FilP} {x : At} {s : ByteArray} {n : NodeP} {d : DevP} (hd : devF F x.dev = some d) (hO : OKF F) (c1 : placeF F x s = 0) (c2 : plainB n = true) (c3 : (lookF F x s).2 ≠ 0) (c4 : ¬ (16 ≤ d.nodes.length ∨ d.next = 1073741824 ∨ fullF F x = true)) :
    makeF F x s n = ⟨pointF (mkF F x n) x s ⟨x.dev, d.next⟩, [⟨x, s, zA, ⟨x.dev, d.next⟩⟩], 0⟩ := by
  unfold makeF
  rw [if_neg (fun h => h c1), if_neg (by rw [c2]; decide), if_neg c3, hd]
  simp only [if_neg c4]
  have hz : (⟨x.dev, d.next⟩ : At) ≠ zA := fun e => by
    injection e with _ e
    have := (hO.dev hd).pre.nxt
    omega
  unfold pointF mkF
  rw [if_neg hz, onF_on]
  rw [onF_eq hd (g := fun d_1 => modD (addD d_1 (newN d_1 x.ino n)) x.ino (insF s d.next)) rfl]
theorem make_err {F : FilP} {x : At} {s : ByteArray} {n : NodeP} {d : DevP} (hd : devF F x.dev = some d) (c1 : placeF F x s = 0) (c2 : plainB n = true) (c3 : (lookF F x s).2 ≠ 0) (c4 : 16 ≤ d.nodes.length ∨ d.next = 1073741824 ∨ fullF F x = true) : makeF F x s n = errR 28 := by
  unfold makeF
  rw [if_neg (fun h => h c1), if_neg (by rw [c2]; decide), if_neg c3, hd]
  simp only [if_pos c4]

/-- no entries where there is no node -/
def cleanE (F : FilP) (ev : Nat → Nat → Value) : Nat → Nat → Value := fun j m => match F[j]? with | some d => if m < d.nodes.length then ev j m else .slice none 0 0 | none => .slice none 0 0
theorem FilesO.clean {B : Nat} {w : World} {v : Value} {F : FilP} {vn : Nat → Value} {ev : Nat → Nat → Value} (h : FilesO B w v F vn ev) : FilesO B w v F vn (cleanE F ev) ∧ ∀ j m g, (cleanE F ev j m).ownBlock = some g → B ≤ g := by
  have hin : ∀ j m g, (cleanE F ev j m).ownBlock = some g → (ev j m).ownBlock = some g ∧ ∃ d n, F[j]? = some d ∧ d.nodes[m]? = some n := fun j m g hg => by
    unfold cleanE at hg
    cases hd : F[j]? with
    | none => rw [hd] at hg; cases hg
    | some d =>
      rw [hd] at hg
      dsimp only at hg
      split at hg
      · rename_i hl
        exact ⟨hg, d, _, rfl, List.getElem?_eq_getElem hl⟩
      · cases hg
  have heq : ∀ j d m, F[j]? = some d → m < d.nodes.length → cleanE F ev j m = ev j m := fun j d m hd hm => by
    unfold cleanE
    rw [hd]
    dsimp only
    rw [if_pos hm]
  refine ⟨⟨h.row, fun j d hd => ?_, fun j d m n hd hm => ?_, h.injN, fun j m j' m' g h1 h2 => h.injE j m j' m' g (hin j m g h1).1 (hin j' m' g h2).1, h.ltN, fun j m g hg => h.ltE j m g (hin j m g hg).1⟩, fun j m g hg => ?_⟩
  · unfold OwnN
    rw [nrow_ext (ev' := ev j) 0 d.nodes (fun k _ hk => heq j d k hd (by omega))]
    exact h.nodes j d hd
  · rw [heq j d m hd (List.getElem?_eq_some_iff.1 hm).1]
    exact h.ents j d m n hd hm
  · obtain ⟨h1, d, n, hd, hn⟩ := hin j m g hg
    exact (own_lt (h.ents j d m n hd hn) h1).1

/-- a whole node is stored: three fields are other ones, the entries are a copy made before -/
theorem FilesO.setWhole {B B0 : Nat} {w : World} {v ve : Value} {F : FilP} {vn : Nat → Value} {ev : Nat → Nat → Value} (h0 : FilesO B w v F vn ev) (hB : B0 ≤ B) {j : Nat} {d : DevP} (hd : F[j]? = some d) {k : Nat} {n : NodeP} (hk : d.nodes[k]? = some n) {g : Nat} (hg : (vn j).ownBlock = some g) (m u r : Int)
    (ho : OwnE B0 w ve n.ents) (hx : ∀ g, ve.ownBlock = some g → g < B) (hc : ∀ j m g, (ev j m).ownBlock = some g → B ≤ g) :
    OutF B0 ((((((((w.setCell ⟨g, k * 8 + 0, none⟩ (.int .i64 n.ino)).setCell ⟨g, k * 8 + 1, none⟩ (.int .i64 n.kind)).setCell ⟨g, k * 8 + 2, none⟩ (.int .i64 m)).setCell ⟨g, k * 8 + 3, none⟩ (.int .i64 u)).setCell ⟨g, k * 8 + 4, none⟩ (.int .i64 r)).setCell ⟨g, k * 8 + 5, none⟩ (.int .i64 n.parent)).setCell ⟨g, k * 8 + 6, none⟩ (.string n.target)).setCell ⟨g, k * 8 + 7, none⟩ ve) v (F.set j (setN d k (attF m u r n))) := by
  have h := h0.mono hB
  have e : ∀ a b : NodeP, (F.set j (setN d k a)).set j (setN (setN d k a) k b) = F.set j (setN d k b) := fun a b => by
    rw [List.set_set]
    congr 1
    unfold setN
    simp only [List.set_set]
  have hne : ∀ W : World, W.ownsRow B0 43 8 (vn j) d.nodes.length (nrow (ev j) 0 d.nodes) → OwnE B0 W ve n.ents → ve.ownBlock ≠ some g := fun W h1 h2 => own_types h1 h2 (by decide) hg
  have hvg := hne w (h.nodes j d hd) ho
  have ho2 : ∀ (W : World) c x, OwnE B0 W ve n.ents → OwnE B0 (W.setCell ⟨g, k * 8 + c, none⟩ x) ve n.ents := fun W c x h1 => own_other h1 hvg _ _
  have f0 := h.setNode hd hk (n' := n) (c := 0) (by omega) (u := .int .i64 n.ino) (fun _ => rfl) rfl hg
  have f1 := f0.setNode (setN_at hd _) (setN_node hk _) (n' := n) (c := 1) (by omega) (u := .int .i64 n.kind) (fun _ => rfl) rfl hg
  rw [e] at f1
  have f2 := f1.setNode (setN_at hd _) (setN_node hk _) (n' := { n with mode := m }) (c := 2) (by omega) (u := .int .i64 m) (fun _ => rfl) rfl hg
  rw [e] at f2
  have f3 := f2.setNode (setN_at hd _) (setN_node hk _) (n' := { n with mode := m, uid := u }) (c := 3) (by omega) (u := .int .i64 u) (fun _ => rfl) rfl hg
  rw [e] at f3
  have f4 := f3.setNode (setN_at hd _) (setN_node hk _) (n' := attF m u r n) (c := 4) (by omega) (u := .int .i64 r) (fun _ => rfl) rfl hg
  rw [e] at f4
  have f5 := f4.setNode (setN_at hd _) (setN_node hk _) (n' := attF m u r n) (c := 5) (by omega) (u := .int .i64 n.parent) (fun _ => rfl) rfl hg
  rw [e] at f5
  have f6 := f5.setNode (setN_at hd _) (setN_node hk _) (n' := attF m u r n) (c := 6) (by omega) (u := .string n.target) (fun _ => rfl) rfl hg
  rw [e] at f6
  have f7 := f6.setEntsG (setN_at hd _) (setN_node hk _) (World.grownBy.refl _ _) (ve := ve) (es := n.ents) (ho2 _ 6 _ (ho2 _ 5 _ (ho2 _ 4 _ (ho2 _ 3 _ (ho2 _ 2 _ (ho2 _ 1 _ (ho2 _ 0 _ ho))))))) (fun g' hg' => .inr fun j' m' e' => by have := hc j' m' g' e'; have := hx g' hg'; omega) hg
  rw [e] at f7
  exact ⟨_, _, f7⟩
end Go.Proofs.Ytafnbpkdenjipaa.fl
namespace Go.Proofs.Ytafnbpkdenjipaa.fl
open Go.Proofs.Ytafnbpkdenjipaa.pt

/-- the parent that below reads: 0 where there is no node -/
def parN (F : FilP) (x : At) : Int := match nodeF F x with | some n => n.parent | none => 0
/-- what is left of below with n rounds to go -/
def belowN (F : FilP) (dev top : Int) : Nat → Int → Bool
  | 0, _ => false
  | n + 1, c => decide (c = top) || belowN F dev top n (parN F ⟨dev, c⟩)
theorem any_range_succ (n : Nat) (f : Nat → Bool) : (List.range (n + 1)).any f = (f 0 || (List.range n).any fun k => f (k + 1)) := by
  rw [List.range_succ_eq_map, List.any_cons, List.any_map]
  rfl
theorem belowN_dev {F : FilP} {dev : Int} {d : DevP} (hd : devF F dev = some d) (top : Int) : ∀ (n : Nat) (c : Int), belowN F dev top n c = (List.range n).any fun k => decide (upD d k c = top)
  | 0, _ => rfl
  | n + 1, c => by
    have e : parN F ⟨dev, c⟩ = parD d c := by unfold parN parD; rw [nodeF_dev hd]; rfl
    rw [any_range_succ, belowN, e, belowN_dev hd top n]
    rfl
theorem belowN_none {F : FilP} {dev : Int} (hd : devF F dev = none) (top : Int) : ∀ (n : Nat) (c : Int), belowN F dev top n c = (List.range n).any fun k => decide ((if k = 0 then c else 0) = top)
  | 0, _ => rfl
  | n + 1, c => by
    have e : parN F ⟨dev, c⟩ = 0 := by unfold parN nodeF; rw [hd]; rfl
    rw [any_range_succ, belowN, e, belowN_none hd top n]
    congr 1
    congr 1
    funext k
    by_cases h : k = 0
    · subst h; rfl
    · simp [h]
theorem below_N (F : FilP) (x top : At) : belowF F x top = (decide (x.dev = top.dev) && belowN F x.dev top.ino 17 x.ino) := by
  unfold belowF
  cases hd : devF F x.dev with
  | none => rw [belowN_none hd]
  | some d => rw [belowN_dev hd]

/-- the parent of a node is another one -/
def parX (F : FilP) (a : At) (e : Int) : FilP := onF F a.dev fun d => modD d a.ino (parF e)
theorem two_on (F : FilP) {x y a : At} (hx : x.dev = y.dev) (ha : a ≠ zA) (s t : ByteArray) : pointF (pointF F x s zA) y t a = onF F y.dev fun d => modD (modD d x.ino (remF s)) y.ino (insF t a.ino) := by
  unfold pointF
  rw [if_pos rfl, if_neg ha, hx, onF_on]
theorem drop_on {F : FilP} {k : Int} {d : DevP} (hd : devF F k = some d) (f : DevP → DevP) {o : At} (ho : o.dev = k) {n : NodeP} (hn : nodeD (f d) o.ino = some n) (y : At) (t : ByteArray) (a : At) : dropF1 (onF F k f) ⟨y, t, o, a⟩ = onF F k fun d => freeD (f d) o.ino := by
  have e1 : devF (onF F k f) k = some (f d) := by rw [devF_on hd, if_pos rfl]
  have e2 : nodeF (onF F k f) o = some n := by
    have := nodeF_dev e1 o.ino
    rw [hn, ← ho] at this
    rw [← ho]
    exact this
  have e3 : linksF (onF F k f) o = linksD (f d) o.ino := by
    unfold linksF
    rw [ho, e1]
    dsimp only
    rw [hn]
    rfl
  unfold dropF1
  rw [e2, e3]
  by_cases z : linksD (f d) o.ino = 0
  · rw [if_pos ⟨rfl, z⟩, ho, onF_on]
    exact onF_eq hd (by unfold freeD; rw [if_pos z])
  · rw [if_neg (fun h => z h.2)]
    exact onF_eq hd (by unfold freeD; rw [if_neg z])
theorem par_on (F : FilP) {k : Int} (f : DevP → DevP) {a : At} (ha : a.dev = k) (e : Int) : parX (onF F k f) a e = onF F k fun d => modD (f d) a.ino (parF e) := by
  unfold parX
  rw [ha, onF_on]

/-- what is known of the places of a Rename that goes on -/
structure RenP (F : FilP) (x : At) (s : ByteArray) (y : At) (t : ByteArray) (a : At) : Prop where
  dev : x.dev = y.dev
  ad : a.dev = y.dev
  hx : ∃ n, nodeF F x = some n
  hy : ∃ n, nodeF F y = some n
  hy2 : ∃ n, nodeF (pointF F x s zA) y = some n
  ha : ∃ n, nodeF F a = some n
  az : a ≠ zA
theorem ren_parts {F : FilP} (hO : OKF F) {x y : At} {s t : ByteArray} (c1 : placeF F x s = 0) (c2 : placeF F y t = 0) (c3 : (lookF F x s).2 = 0) (c4 : x.dev = y.dev) : RenP F x s y t (lookF F x s).1 := by
  obtain ⟨p, hp, hpk, -⟩ := place_zero c1
  obtain ⟨q, hq, hqk, -⟩ := place_zero c2
  obtain ⟨d, hd, hpd⟩ := nodeF_of hp
  obtain ⟨a, ha, hla⟩ := look_zero_of hp hpk c3
  have hOd := hO.dev hd
  obtain ⟨ha1, ⟨m, hm⟩, -, -⟩ := hOd.pre.look hpd ha
  have hmF : nodeF F ⟨x.dev, a⟩ = some m := by rw [nodeF_dev hd]; exact hm
  have hqd : nodeD d y.ino = some q := by
    have := nodeF_dev hd y.ino
    rw [← this, c4]
    exact hq
  rw [hla]
  refine ⟨c4, c4, ⟨p, hp⟩, ⟨q, hq⟩, ?_, ⟨m, hmF⟩, fun e => ?_⟩
  · have e1 : devF (pointF F x s zA) y.dev = some (modD d x.ino (remF s)) := by
      unfold pointF
      rw [if_pos rfl, devF_on hd, if_pos c4.symm]
    have e2 := nodeF_dev e1 y.ino
    have e3 : nodeL (modL d.nodes x.ino (remF s)) y.ino = some (if y.ino = x.ino then remF s q else q) := by
      rw [node_mod d.nodes x.ino (remF s) (fun _ => rfl) y.ino, show nodeL d.nodes y.ino = some q from hqd]; rfl
    exact ⟨_, e2.trans e3⟩
  · have := hO.zero
    rw [← e, hmF] at this
    cases this
/-- the node is there, whatever was pointed elsewhere -/
theorem point_some {F : FilP} {x z : At} {s : ByteArray} {y : At} (hx : ∃ n, nodeF F x = some n) (h : ∃ n, nodeF F z = some n) : ∃ n, nodeF (pointF F x s y) z = some n := by
  obtain ⟨n, hn⟩ := h
  obtain ⟨nx, hnx⟩ := hx
  obtain ⟨d, hd, hnd⟩ := nodeF_of hn
  obtain ⟨d', hd', -⟩ := nodeF_of hnx
  unfold pointF nodeF
  rw [devF_on hd']
  by_cases e : z.dev = x.dev
  · rw [if_pos e]
    rw [e, hd'] at hd
    injection hd with hd
    subst hd
    have hf : ∀ m : NodeP, ((if y = zA then remF s else insF s y.ino) m).ino = m.ino := fun m => by split <;> rfl
    have e3 := node_mod d'.nodes x.ino (if y = zA then remF s else insF s y.ino) hf z.ino
    rw [show nodeL d'.nodes z.ino = some n from hnd] at e3
    exact ⟨_, e3⟩
  · rw [if_neg e, hd]
    exact ⟨n, hnd⟩
theorem drop_some {F : FilP} {c : ChgP} {z : At} (h : ∃ n, nodeF F z = some n) (hne : z ≠ c.old) : ∃ n, nodeF (dropF1 F c) z = some n := by
  obtain ⟨n, hn⟩ := h
  unfold dropF1
  split
  · rename_i hc
    obtain ⟨m, hm⟩ := Option.isSome_iff_exists.1 hc.1
    obtain ⟨d', hd', -⟩ := nodeF_of hm
    obtain ⟨d, hd, hnd⟩ := nodeF_of hn
    unfold nodeF
    rw [devF_on hd']
    by_cases e : z.dev = c.old.dev
    · rw [if_pos e]
      rw [e, hd'] at hd
      injection hd with hd
      subst hd
      refine ⟨n, ?_⟩
      show nodeL (dropL d'.nodes c.old.ino) z.ino = some n
      rw [node_drop, if_neg (fun k => hne (by cases z; cases c; rename_i o _; cases o; simp_all))]
      exact hnd
    · rw [if_neg e, hd]
      exact ⟨n, hnd⟩
  · exact ⟨n, hn⟩

/-- what Rename leaves, step by step -/
def renG (F : FilP) (x : At) (s : ByteArray) (y : At) (t : ByteArray) (a : At) : FilP := pointF (pointF F x s zA) y t a
def renP (G : FilP) (a : At) (e : Int) (b : Bool) : FilP := if b then parX G a e else G
theorem ren_free {F : FilP} {x y : At} {s t : ByteArray} (hP : RenP F x s y t (lookF F x s).1) : (onF F y.dev fun d => moveD d x.ino s y.ino t (lookF F x s).1.ino (dirF F (lookF F x s).1)) = renP (renG F x s y t (lookF F x s).1) (lookF F x s).1 y.ino (dirF F (lookF F x s).1) := by
  unfold renP renG moveD
  rw [two_on F hP.dev hP.az]
  cases dirF F (lookF F x s).1 with
  | true => rw [if_pos rfl, par_on F _ hP.ad]; rfl
  | false => rfl
theorem ren_repl {F : FilP} (hO : OKF F) {x y : At} {s t : ByteArray} (hP : RenP F x s y t (lookF F x s).1) (c2 : placeF F y t = 0) (c6 : (lookF F y t).2 = 0) :
    (∃ n, nodeF F (lookF F y t).1 = some n) ∧ (onF F y.dev fun d => replD d x.ino s y.ino t (lookF F x s).1.ino (dirF F (lookF F x s).1) (lookF F y t).1.ino) = renP (dropF1 (renG F x s y t (lookF F x s).1) ⟨y, t, (lookF F y t).1, (lookF F x s).1⟩) (lookF F x s).1 y.ino (dirF F (lookF F x s).1) := by
  obtain ⟨q, hq, hqk, -⟩ := place_zero c2
  obtain ⟨d, hd, hqd⟩ := nodeF_of hq
  obtain ⟨o, ho, hlo⟩ := look_zero_of hq hqk c6
  obtain ⟨-, ⟨m, hm⟩, -, -⟩ := (hO.dev hd).pre.look hqd ho
  have hno : ∃ n, nodeF F (lookF F y t).1 = some n := ⟨m, by rw [hlo, nodeF_dev hd]; exact hm⟩
  refine ⟨hno, ?_⟩
  have hg : ∃ n, nodeF (renG F x s y t (lookF F x s).1) (lookF F y t).1 = some n := point_some hP.hy2 (point_some hP.hx hno)
  have e0 : renG F x s y t (lookF F x s).1 = onF F y.dev fun d => modD (modD d x.ino (remF s)) y.ino (insF t (lookF F x s).1.ino) := two_on F hP.dev hP.az s t
  have hod : (lookF F y t).1.dev = y.dev := by rw [hlo]
  obtain ⟨n, hn⟩ := hg
  rw [e0] at hn ⊢
  have e1 : devF (onF F y.dev fun d => modD (modD d x.ino (remF s)) y.ino (insF t (lookF F x s).1.ino)) y.dev = some (modD (modD d x.ino (remF s)) y.ino (insF t (lookF F x s).1.ino)) := by rw [devF_on hd, if_pos rfl]
  have hoe : (lookF F y t).1 = ⟨y.dev, (lookF F y t).1.ino⟩ := by rw [← hod]
  have e2 := nodeF_dev e1 (lookF F y t).1.ino
  rw [← hoe] at e2
  have hn2 := e2.symm.trans hn
  rw [drop_on hd _ hod hn2]
  unfold renP replD
  cases dirF F (lookF F x s).1 with
  | true => rw [if_pos rfl, par_on F _ hP.ad]; rfl
  | false => rfl
theorem ren_node {F : FilP} {x y a : At} {s t : ByteArray} (hP : RenP F x s y t a) {z : At} (h : ∃ n, nodeF F z = some n) : ∃ n, nodeF (renG F x s y t a) z = some n := point_some hP.hy2 (point_some hP.hx h)
end Go.Proofs.Ytafnbpkdenjipaa.fl
namespace Go.Proofs.Ytafnbpkdenjipaa.fl
open Go.RowKit Go.Proofs.Ytafnbpkdenjipaa.cm

/-- Node, where its parent alone matters -/
theorem rNode_par (a : Option Addr) (cap : Nat) (F : FilP) (x : At) (w : World) (hF : FilesAt w a F) (hS : Sml F) :
    Calls Try.prog 18 #[.agg #[.slice a F.length cap], .agg #[.int .i64 x.dev, .int .i64 x.ino]] w fun e w' => ∃ (m : NodeP) (va : Option Addr) (vl vc : Nat) (ok : Bool), e = .returned (.tuple #[.agg #[.int .i64 m.ino, .int .i64 m.kind, .int .i64 m.mode, .int .i64 m.uid, .int .i64 m.gid, .int .i64 m.parent, .string m.target, .slice va vl vc], .bool ok]) ∧ m.parent = parN F x ∧ Below w.heap.size w w' := by
  refine (rNode_any a cap F x w hF hS).mono ?_
  rintro e w' ⟨v, rfl, hv, hb⟩
  obtain ⟨va, vc, rfl, -⟩ := OwnE.at_ hv
  refine ⟨(nodeF F x).getD noN, va, _, vc, _, rfl, ?_, hb⟩
  unfold parN
  cases nodeF F x <;> rfl

set_option maxRecDepth 100000 in
set_option maxHeartbeats 2000000 in
theorem rbelow_any (a : Option Addr) (cap : Nat) (F : FilP) (x y : At) (w : World) (hF : FilesAt w a F) (hS : Sml F) :
    Calls Try.prog 81 #[.agg #[.slice a F.length cap], .agg #[.int .i64 x.dev, .int .i64 x.ino], .agg #[.int .i64 y.dev, .int .i64 y.ino]] w fun e w' => e = .returned (.bool (belowF F x y)) ∧ Below w.heap.size w w' := by
  have hb1 : Below w.heap.size w (w.alloc (.cells #[.slice a F.length cap] 24)) := (Below.refl _ _).alloc (Nat.le_refl _) _
  have hb2 := hb1.alloc hb1.size (.cells #[.int .i64 x.dev, .int .i64 x.ino] 36)
  have hb3 := hb2.alloc hb2.size (.cells #[.int .i64 y.dev, .int .i64 y.ino] 36)
  obtain ⟨w3, hw3⟩ : ∃ w3, w3 = ((w.alloc (.cells #[.slice a F.length cap] 24)).alloc (.cells #[.int .i64 x.dev, .int .i64 x.ino] 36)).alloc (.cells #[.int .i64 y.dev, .int .i64 y.ino] 36) := ⟨_, rfl⟩
  have tF : TB 24 w3 w.heap.size [.slice a F.length cap] := by rw [hw3]; exact ((TB.new1 w [.slice a F.length cap] _ _ rfl).alloc _).alloc _
  have tX : TB 36 w3 (w.heap.size + 1) [.int .i64 x.dev, .int .i64 x.ino] := by rw [hw3]; exact (TB.new1 _ [.int .i64 x.dev, .int .i64 x.ino] _ _ (size_alloc _ _)).alloc _
  have tY : TB 36 w3 (w.heap.size + 1 + 1) [.int .i64 y.dev, .int .i64 y.ino] := by rw [hw3]; exact TB.new1 _ [.int .i64 y.dev, .int .i64 y.ino] _ _ (by rw [size_alloc, size_alloc])
  rw [← hw3] at hb3
  have HFW := Lib.hid (fun W (hb : Below w.heap.size w W) => hF.below hb)
  have HS := Lib.hid hS
  have HR := Lib.hid (below_N F x y)
  have HW := Lib.hid hw3
  have HX : Hid (w.heap.size + 1 < w3.heap.size) := Lib.hid tX.lt
  obtain ⟨xd, xi⟩ := x
  obtain ⟨yd, yi⟩ := y
  clear hw3 hb1 hb2 hF hS
  by_cases hdev : xd = yd
  · subst hdev
    have HR2 : Hid (belowF F ⟨xd, xi⟩ ⟨xd, yi⟩ = belowN F xd yi 17 xi) := Lib.hid (by rw [HR.out, decide_eq_true rfl]; rfl)
    rw [HR2.out]
    obtain ⟨R, hR⟩ : ∃ R, R = belowN F xd yi 17 xi := ⟨_, rfl⟩
    rw [← hR]
    have HB0 : Hid (belowN F xd yi (17 - 0) xi = R) := Lib.hid hR.symm
    clear HR HR2 hR
    have e0 : (xd == xd) = true := by simp
    go_enter Try.func81, Try.ntmps81
    go_wp2_with fail
    rw [← HW.out]
    go_wp2_with fail
    go_loopw [7] (fun i wr => ∃ (t : Nat) (c : Int), t ≤ 17 ∧ i = .int .i64 t ∧ Hid (belowN F xd yi (17 - t) c = R) ∧ Below w.heap.size w wr ∧ TB 24 wr w.heap.size [.slice a F.length cap] ∧ TB 36 wr (w.heap.size + 1) [.int .i64 xd, .int .i64 c] ∧ TB 36 wr (w.heap.size + 1 + 1) [.int .i64 xd, .int .i64 yi]) (fun i _ => 17 - (intOf i).toNat)
    case atStart => exact ⟨0, xi, Nat.zero_le _, rfl, HB0, hb3, tF, tX, tY⟩
    case round =>
      obtain ⟨t, c, ht, rfl, HI, hb, qF, qX, qY⟩ := hrel
      clear HB0 hb3 tF tX tY
      have f0 := qF.blk.c1.1
      obtain ⟨x1, x2, xf1, xf2⟩ := qX.blk.c2
      obtain ⟨y1, y2, -⟩ := qY.blk.c2
      by_cases hlt : t < 17
      · have e1 : decide ((t : Int) ≤ 16) = true := decide_eq_true (by omega)
        have HI2 : Hid ((decide (c = yi) || belowN F xd yi (17 - (t + 1)) (parN F ⟨xd, c⟩)) = R) := Lib.hid (by
          have := HI.out
          rw [show 17 - t = (17 - (t + 1)) + 1 by omega] at this
          exact this)
        clear HI
        by_cases hc : c = yi
        · have e2 : (c == yi) = true := by simpa using hc
          have HF : Hid (R = true) := Lib.hid (by rw [← HI2.out, decide_eq_true hc]; rfl)
          clear HI2
          have NF := fun W => eq_file xd c xd yi W
          go_wp2_with fail
          go_ret
          exact ⟨ret_bool HF.out.symm, hb⟩
        · have e2 : (c == yi) = false := by simpa using hc
          have HI3 : Hid (belowN F xd yi (17 - (t + 1)) (parN F ⟨xd, c⟩) = R) := Lib.hid (by rw [← HI2.out, decide_eq_false hc]; rfl)
          have NF := fun W => eq_file xd c xd yi W
          have CN := Lib.hid (rNode_par a cap F ⟨xd, c⟩ wr (HFW.out wr hb) HS.out)
          have KEEP := Lib.hid (And.intro hb (And.intro qF (And.intro qX qY)))
          clear HI2 hc qF qX qY hb
          go_wp2_with fail
          refine CN.out.mono ?_
          rintro e w4 ⟨m, va, vl, vc, ok, rfl, hm, hb4⟩
          have hbA : Below wr.heap.size wr (w4.alloc (.cells #[.int .i64 m.ino, .int .i64 m.kind, .int .i64 m.mode, .int .i64 m.uid, .int .i64 m.gid, .int .i64 m.parent, .string m.target, .slice va vl vc] 43)) := hb4.alloc hb4.size _
          obtain ⟨wA, hwA⟩ : ∃ wA, wA = w4.alloc (.cells #[.int .i64 m.ino, .int .i64 m.kind, .int .i64 m.mode, .int .i64 m.uid, .int .i64 m.gid, .int .i64 m.parent, .string m.target, .slice va vl vc] 43) := ⟨_, rfl⟩
          have tM : TB 43 wA w4.heap.size [.int .i64 m.ino, .int .i64 m.kind, .int .i64 m.mode, .int .i64 m.uid, .int .i64 m.gid, .int .i64 m.parent, .string m.target, .slice va vl vc] := by rw [hwA]; exact TB.new1 w4 [.int .i64 m.ino, .int .i64 m.kind, .int .i64 m.mode, .int .i64 m.uid, .int .i64 m.gid, .int .i64 m.parent, .string m.target, .slice va vl vc] _ _ rfl
          rw [← hwA] at hbA
          have HWA := Lib.hid hwA
          have HM := Lib.hid hm
          have rb := KEEP.out.1.trans (hbA.mono KEEP.out.1.size)
          have rF := KEEP.out.2.1.stay hbA
          have rX := KEEP.out.2.2.1.stay hbA
          have rY := KEEP.out.2.2.2.stay hbA
          have m5 := tM.blk.c8.1.2.2.2.2.2.1
          clear hwA hm f0 x1 x2 xf1 xf2 y1 y2 CN hb4 hbA tM
          obtain ⟨x1, x2, xf1, xf2⟩ := rX.blk.c2
          have HB2 := Lib.hid (And.intro (below_set rb (show w.heap.size ≤ w.heap.size + 1 by omega) 1 (.int .i64 m.parent)) (And.intro (rF.other (show w.heap.size ≠ w.heap.size + 1 by omega) 1 (.int .i64 m.parent)) (And.intro (show TB 36 _ (w.heap.size + 1) [.int .i64 xd, .int .i64 m.parent] from rX.set 1 (.int .i64 m.parent)) (rY.other (show w.heap.size + 1 + 1 ≠ w.heap.size + 1 by omega) 1 (.int .i64 m.parent)))))
          clear rb rF rX rY
          go_upto_region 7 with fail
          rw [← HWA.out]
          go_wp2_with fail
          exact ⟨⟨t + 1, m.parent, by omega, by go_num, by rw [HM.out]; exact HI3, HB2.out.1, HB2.out.2.1, HB2.out.2.2.1, HB2.out.2.2.2⟩, by simp [intOf]; omega⟩
      · have e1 : decide ((t : Int) ≤ 16) = false := decide_eq_false (by omega)
        obtain rfl : t = 17 := by omega
        have HF : Hid (R = false) := Lib.hid (by rw [← HI.out]; rfl)
        clear HI hlt
        go_wp2_with fail
        go_ret
        exact ⟨ret_bool HF.out.symm, hb⟩
  · have e0 : (xd == yd) = false := by simpa using hdev
    have HF : Hid (belowF F ⟨xd, xi⟩ ⟨yd, yi⟩ = false) := Lib.hid (by rw [HR.out, decide_eq_false hdev]; rfl)
    have f0 := tF.blk.c1.1
    obtain ⟨x1, x2, -⟩ := tX.blk.c2
    obtain ⟨y1, y2, -⟩ := tY.blk.c2
    clear HR hdev
    go_enter Try.func81, Try.ntmps81
    go_wp2_with fail
    rw [← HW.out]
    go_wp2_with fail
    go_loopw [7] (fun i wr => i = .int .i64 0 ∧ wr = w3) (fun _ _ => 1)
    case atStart => exact ⟨rfl, rfl⟩
    case round =>
      obtain ⟨rfl, rfl⟩ := hrel
      go_wp2_with fail
      go_ret
      exact ⟨ret_bool HF.out.symm, hb3⟩
end Go.Proofs.Ytafnbpkdenjipaa.fl
namespace Go.Proofs.Ytafnbpkdenjipaa.fl
open Go.RowKit Go.Proofs.Ytafnbpkdenjipaa.cm

set_option maxRecDepth 100000 in
set_option maxHeartbeats 4000000 in
theorem rSet_any (a : Option Addr) (cap : Nat) (F : FilP) (x : At) (m u g : Int) (w : World) (hF : FilesAt w a F) (hO : OKF F) :
    Calls Try.prog 32 #[.agg #[.slice a F.length cap], .agg #[.int .i64 x.dev, .int .i64 x.ino], .int .i64 m, .int .i64 u, .int .i64 g] w (SetR w.heap.size (setFF F x m u g) w) := by
  have hb1 : Below w.heap.size w (w.alloc (.cells #[.slice a F.length cap] 24)) := (Below.refl _ _).alloc (Nat.le_refl _) _
  have hb2 := hb1.alloc hb1.size (.cells #[.int .i64 x.dev, .int .i64 x.ino] 36)
  have hb3 := hb2.alloc hb2.size (.cells #[.slice none 0 0] 24)
  obtain ⟨w3, hw3⟩ : ∃ w3, w3 = ((w.alloc (.cells #[.slice a F.length cap] 24)).alloc (.cells #[.int .i64 x.dev, .int .i64 x.ino] 36)).alloc (.cells #[.slice none 0 0] 24) := ⟨_, rfl⟩
  have tF : TB 24 w3 w.heap.size [.slice a F.length cap] := by rw [hw3]; exact ((TB.new1 w [.slice a F.length cap] _ _ rfl).alloc _).alloc _
  have tD : TB 36 w3 (w.heap.size + 1) [.int .i64 x.dev, .int .i64 x.ino] := by rw [hw3]; exact (TB.new1 _ [.int .i64 x.dev, .int .i64 x.ino] _ _ (size_alloc _ _)).alloc _
  have tG : TB 24 w3 (w.heap.size + 1 + 1) [.slice none 0 0] := by rw [hw3]; exact TB.new1 _ [.slice none 0 0] _ _ (by rw [size_alloc, size_alloc])
  rw [← hw3] at hb3
  have hFW : ∀ W, Below w3.heap.size w3 W → FilesAt W a F := fun W hb => hF.below (hb3.trans (hb.mono hb3.size))
  have HFW := Lib.hid hFW
  have HOK := Lib.hid hO
  have ERR : Hid (∀ (e : Int) W, Below w3.heap.size w3 W → SetR w.heap.size ([], e) w (.returned (.tuple #[.agg #[.slice none 0 0], .int .i64 e])) (W.setCell ⟨w.heap.size + 1 + 1, 0, none⟩ (.slice none 0 0))) := Lib.hid (fun e W hb => ⟨_, rfl, OutF.nil _ _, below_set (hb3.trans (hb.mono hb3.size)) (by omega) 0 _⟩)
  have KEEP := Lib.hid (And.intro tF (And.intro tD tG))
  obtain ⟨x0, -⟩ := tF.blk.c1
  obtain ⟨x1, x2, -⟩ := tD.blk.c2
  have HB3 := Lib.hid hb3
  have HW := Lib.hid hw3
  obtain ⟨R, hR⟩ : ∃ R, R = setFF F x m u g := ⟨_, rfl⟩
  rw [← hR]
  unfold setFF at hR
  clear hw3 hb1 hb2 hb3 hF hO hFW tF tD tG
  cases hn : nodeF F x with
  | none =>
    rw [hn] at hR
    have HR := Lib.hid hR
    have CN := Lib.hid (rNode_none a cap F x w3 (HFW.out w3 (Below.refl _ _)) HOK.out.sml hn)
    clear hR hn
    go_enter Try.func32, Try.ntmps32
    go_wp2_with fail
    rw [← HW.out]
    go_wp2_with fail
    refine CN.out.mono ?_
    rintro e w5 ⟨va, vc, rfl, hb5⟩
    have hb6 := hb5.alloc hb5.size (.cells #[.int .i64 0, .int .i64 0, .int .i64 0, .int .i64 0, .int .i64 0, .int .i64 0, .string ⟨#[]⟩, .slice va 0 vc] 43)
    clear CN hb5 x0 x1 x2
    have uG := KEEP.out.2.2.stay hb6
    obtain ⟨g0, gf⟩ := uG.blk.c1
    have n0 := (TB.blk (cs := [.slice none 0 0]) (uG.set 0 (.slice none 0 0))).c1.1
    have HFN := Lib.hid (ERR.out 2 _ hb6)
    rw [show ([], 2) = R from HR.out.symm] at HFN
    clear uG  hb6
    go_wp2_with fail
    exact bodyPost_ret (v := .tuple #[.agg #[.slice none 0 0], .int .i64 2]) (by simp [results, Try.f32, go_sem, n0]) rfl HFN.out
  | some n =>
    rw [hn] at hR
    have HR : Hid (R = if plainB (attF m u g n) = false then ([], 22) else (onF F x.dev fun d => modD d x.ino (attF m u g), 0)) := Lib.hid hR
    have HPP : Hid (n.target.size ≤ 100000) := Lib.hid (by
      obtain ⟨d, hd, hnd⟩ := nodeF_of hn
      have := (HOK.out.dev hd).pre.plain n (mem_of hnd)
      unfold plainB at this
      rw [Bool.and_eq_true] at this
      have h2 := this.2
      split at h2
      · unfold targetB at h2
        rw [Bool.and_eq_true, decide_eq_true_eq] at h2
        omega
      · rw [decide_eq_true_eq] at h2
        omega)
    have CN := Lib.hid (rNode_some a cap F x w3 (HFW.out w3 (Below.refl _ _)) HOK.out.sml hn)
    have HNF := Lib.hid hn
    obtain ⟨j, k, d, hj, hd, hi, hk⟩ := node_where hn
    have HD := Lib.hid hd
    have HI := Lib.hid hi
    have HK := Lib.hid hk
    have hjl : (j : Int) < (F.length : Int) := by
      have := (List.getElem?_eq_some_iff.1 hd).1
      omega
    have hkl : (k : Int) < (d.nodes.length : Int) := by
      have := (List.getElem?_eq_some_iff.1 hk).1
      omega
    obtain ⟨xd, xi⟩ := x
    obtain rfl : xd = (j : Int) := hj
    clear hR hn hd hi hk
    go_enter Try.func32, Try.ntmps32
    go_wp2_with fail
    rw [← HW.out]
    go_wp2_with fail
    refine CN.out.mono ?_
    rintro e w5 ⟨va, vc, rfl, ho5, hb5⟩
    have hb6 := hb5.alloc hb5.size (.cells #[.int .i64 n.ino, .int .i64 n.kind, .int .i64 n.mode, .int .i64 n.uid, .int .i64 n.gid, .int .i64 n.parent, .string n.target, .slice va n.ents.length vc] 43)
    have hs5 := hb5.size
    obtain ⟨w6, hw6⟩ : ∃ w6, w6 = w5.alloc (.cells #[.int .i64 n.ino, .int .i64 n.kind, .int .i64 n.mode, .int .i64 n.uid, .int .i64 n.gid, .int .i64 n.parent, .string n.target, .slice va n.ents.length vc] 43) := ⟨_, rfl⟩
    have tN : TB 43 w6 w5.heap.size [.int .i64 n.ino, .int .i64 n.kind, .int .i64 n.mode, .int .i64 n.uid, .int .i64 n.gid, .int .i64 n.parent, .string n.target, .slice va n.ents.length vc] := by rw [hw6]; exact TB.new1 w5 [.int .i64 n.ino, .int .i64 n.kind, .int .i64 n.mode, .int .i64 n.uid, .int .i64 n.gid, .int .i64 n.parent, .string n.target, .slice va n.ents.length vc] 43 w5.heap.size rfl
    have hb56 : Below w5.heap.size w5 w6 := by rw [hw6]; exact (Below.refl _ _).alloc (Nat.le_refl _) _
    rw [← hw6] at hb6
    have HW6 := Lib.hid hw6
    have HO5 := Lib.hid ho5
    clear hw6 x0 x1 x2 hb5 CN ho5
    obtain ⟨⟨-, -, m2, m3, m4, -⟩, -, -, mf2, mf3, mf4, -⟩ := tN.blk.c8
    go_upto_region 2 with fail
    rw [← HW6.out]
    obtain ⟨w7, hw7⟩ : ∃ w7, w7 = ((w6.setCell ⟨w5.heap.size, 2, none⟩ (.int .i64 m)).setCell ⟨w5.heap.size, 3, none⟩ (.int .i64 u)).setCell ⟨w5.heap.size, 4, none⟩ (.int .i64 g) := ⟨_, rfl⟩
    have tM : TB 43 w7 w5.heap.size [.int .i64 n.ino, .int .i64 n.kind, .int .i64 m, .int .i64 u, .int .i64 g, .int .i64 n.parent, .string n.target, .slice va n.ents.length vc] := by rw [hw7]; exact ((tN.set 2 (.int .i64 m)).set 3 (.int .i64 u)).set 4 (.int .i64 g)
    have hb7 : Below w3.heap.size w3 w7 := by rw [hw7]; exact below_set (below_set (below_set hb6 hs5 _ _) hs5 _ _) hs5 _ _
    have hb57 : Below w5.heap.size w5 w7 := by rw [hw7]; exact below_set (below_set (below_set hb56 (Nat.le_refl _) _ _) (Nat.le_refl _) _ _) (Nat.le_refl _) _ _
    have HW7 := Lib.hid hw7
    clear hw7 tN hb6 hb56
    go_upto_region 5 with fail
    rw [← HW7.out]
    clear m2 m3 m4 mf2 mf3 mf4 HW6 HW7
    obtain ⟨⟨m0, m1, m2, m3, m4, m5, m6, m7⟩, -⟩ := tM.blk.c8
    have CPl := Lib.hid (rplain_any (attF m u g n) va n.ents.length vc w7 HPP.out)
    unfold attF at CPl
    have HPB : Hid (plainB (attF m u g n) = plainB { n with mode := m, uid := u, gid := g }) := Lib.hid rfl
    rw [HPB.out] at HR
    generalize plainB { n with mode := m, uid := u, gid := g } = pb at *
    dsimp only at CPl
    go_wp2_with fail
    refine CPl.out.mono ?_
    rintro e w75 ⟨rfl, hb75'⟩
    have hb75 : Below w3.heap.size w3 w75 := hb7.trans (hb75'.mono hb7.size)
    have tM75 := tM.stay hb75'
    have hb575 : Below w5.heap.size w5 w75 := hb57.trans (hb75'.mono hb57.size)
    clear m0 m1 m2 m3 m4 m5 m6 m7 CPl tM hb7 hb57 hb75'
    cases pb with
    | false =>
      have uG := KEEP.out.2.2.stay hb75
      obtain ⟨g0, gf⟩ := uG.blk.c1
      have n0 := (TB.blk (cs := [.slice none 0 0]) (uG.set 0 (.slice none 0 0))).c1.1
      have HFN := Lib.hid (ERR.out 22 _ hb75)
      rw [show ([], 22) = R from (HR.out.trans (if_pos rfl)).symm] at HFN
      clear uG
      go_wp2_with fail
      exact bodyPost_ret (v := .tuple #[.agg #[.slice none 0 0], .int .i64 22]) (by simp [results, Try.f32, go_sem, n0]) rfl HFN.out
    | true =>
      have HR2 := Lib.hid (HR.out.trans (if_neg (by decide)))
      clear HR
      have CC := Lib.hid (rCopy_any a cap F w75 (HFW.out w75 hb75) HOK.out.sml)
      obtain ⟨x0, -⟩ := (KEEP.out.1.stay hb75).blk.c1
      go_wp2_with fail
      refine CC.out.mono ?_
      rintro e w8 ⟨v, rfl, ho8, hb8'⟩
      obtain ⟨vn, ev0, hf8⟩ := ho8
      obtain ⟨hf8, hcl⟩ := hf8.clean
      generalize cleanE F ev0 = ev at *
      obtain ⟨gd, fc, rfl, -, -⟩ := hf8.gD HD.out
      obtain ⟨gn, cn, hgv, hgn, -, -⟩ := hf8.gN HD.out HK.out
      have hb8 : Below w3.heap.size w3 w8 := hb75.trans (hb8'.mono hb75.size)
      have hs8 := hb8.size
      have hb9 := hb8.alloc hb8.size (.cells #[.slice (some ⟨gd, 0, none⟩) F.length fc] 24)
      have hbx : Below w8.heap.size w8 (w8.alloc (.cells #[.slice (some ⟨gd, 0, none⟩) F.length fc] 24)) := (Below.refl w8.heap.size w8).alloc (Nat.le_refl _) _
      have tO := TB.new1 w8 [.slice (some ⟨gd, 0, none⟩) F.length fc] 24 w8.heap.size rfl
      have hf9 := hf8.stay hbx
      have tM9 := (tM75.stay hb8').stay hbx
      have hb59 : Below w5.heap.size w5 (w8.alloc (.cells #[.slice (some ⟨gd, 0, none⟩) F.length fc] 24)) := (hb575.trans (hb8'.mono hb575.size)).alloc (by have := hb575.size; have := hb8'.size; omega) _
      obtain ⟨w9, hw9⟩ : ∃ w9, w9 = w8.alloc (.cells #[.slice (some ⟨gd, 0, none⟩) F.length fc] 24) := ⟨_, rfl⟩
      replace tO : TB 24 w9 w8.heap.size [.slice (some ⟨gd, 0, none⟩) F.length fc] := by rw [hw9]; exact tO
      have hs75 : w75.heap.size ≤ w8.heap.size := hb8'.size
      have hs575 := hb575.size
      have hs57 := tM75.lt
      rw [← hw9] at hb9 hf9 tM9 hb59
      have HW9 := Lib.hid hw9
      have hgd : w75.heap.size ≤ gd ∧ gd < w8.heap.size := own_lt hf8.row rfl
      have hgnb : w75.heap.size ≤ gn ∧ gn < w8.heap.size := own_lt (hf8.nodes j d HD.out) hgn
      have hgdn : gd ≠ gn := fun e => own_types hf8.row (hf8.nodes j d HD.out) (by decide) (g := gd) rfl (by rw [e]; exact hgn)
      clear hw9 x0 CC hf8 hb8' hb8 hbx tM75 hb575
      have tD9 := KEEP.out.2.1.stay hb9
      have tG9 := KEEP.out.2.2.stay hb9
      have hs9 := hb9.size
      have hlG := KEEP.out.2.2.lt
      have KS : Hid (∀ W, Below w9.heap.size w9 W → W.cell? ⟨w8.heap.size, 0, none⟩ = some (.slice (some ⟨gd, 0, none⟩) F.length fc) ∧ W.cell? ⟨w.heap.size + 1, 0, none⟩ = some (.int .i64 (j : Int)) ∧ W.cell? ⟨w.heap.size + 1, 1, none⟩ = some (.int .i64 xi) ∧ W.cell? ⟨gd, j * 2 + 1, none⟩ = some (.slice (some ⟨gn, 0, none⟩) d.nodes.length cn) ∧ W.cell? ⟨w5.heap.size, 0, none⟩ = some (.int .i64 n.ino) ∧ W.cell? ⟨w5.heap.size, 1, none⟩ = some (.int .i64 n.kind) ∧ W.cell? ⟨w5.heap.size, 2, none⟩ = some (.int .i64 m) ∧ W.cell? ⟨w5.heap.size, 3, none⟩ = some (.int .i64 u) ∧ W.cell? ⟨w5.heap.size, 4, none⟩ = some (.int .i64 g) ∧ W.cell? ⟨w5.heap.size, 5, none⟩ = some (.int .i64 n.parent) ∧ W.cell? ⟨w5.heap.size, 6, none⟩ = some (.string n.target) ∧ W.cell? ⟨w5.heap.size, 7, none⟩ = some (.slice va n.ents.length vc)) := Lib.hid (fun W hb => by
        obtain ⟨⟨q0, q1, q2, q3, q4, q5, q6, q7⟩, -⟩ := (tM9.stay hb).blk.c8
        exact ⟨(tO.stay hb).blk.c1.1, (tD9.stay hb).blk.c2.1, (tD9.stay hb).blk.c2.2.1, by rw [← hgv]; exact (hf9.stay hb).cellY HD.out rfl, q0, q1, q2, q3, q4, q5, q6, q7⟩)
      have CI := Lib.hid (fun W (hb : Below w9.heap.size w9 W) => rindex_any (some ⟨gd, 0, none⟩) fc F ⟨(j : Int), xi⟩ W (by
        obtain ⟨a', c', hv, -, -, hF⟩ := (hf9.stay hb).at_
        injection hv with hv _ _
        subst hv
        exact hF) HOK.out.sml)
      rw [ix_some HD.out HI.out] at CI
      have hne8 : w8.heap.size ≠ gn := by omega
      have hne5 : w5.heap.size ≠ gn := by omega
      have hneD : w.heap.size + 1 ≠ gn := by omega
      have hneG : w.heap.size + 1 + 1 ≠ gn := by omega
      have HB : ∀ (W : World) (q : Nat), q ≠ gn → ((((((((W.setCell ⟨gn, k * 8, none⟩ (.int .i64 n.ino)).setCell ⟨gn, k * 8 + 1, none⟩ (.int .i64 n.kind)).setCell ⟨gn, k * 8 + 2, none⟩ (.int .i64 m)).setCell ⟨gn, k * 8 + 3, none⟩ (.int .i64 u)).setCell ⟨gn, k * 8 + 4, none⟩ (.int .i64 g)).setCell ⟨gn, k * 8 + 5, none⟩ (.int .i64 n.parent)).setCell ⟨gn, k * 8 + 6, none⟩ (.string n.target)).setCell ⟨gn, k * 8 + 7, none⟩ (.slice va n.ents.length vc)).heap[q]? = W.heap[q]? := fun W q hq => by
        rw [Below.heap_setCell _ ⟨gn, _, none⟩ _ q hq, Below.heap_setCell _ ⟨gn, _, none⟩ _ q hq, Below.heap_setCell _ ⟨gn, _, none⟩ _ q hq, Below.heap_setCell _ ⟨gn, _, none⟩ _ q hq, Below.heap_setCell _ ⟨gn, _, none⟩ _ q hq, Below.heap_setCell _ ⟨gn, _, none⟩ _ q hq, Below.heap_setCell _ ⟨gn, _, none⟩ _ q hq, Below.heap_setCell _ ⟨gn, _, none⟩ _ q hq]
      have HST : Hid (∀ (W : World), (W.cell? ⟨w8.heap.size, 0, none⟩ = some (.slice (some ⟨gd, 0, none⟩) F.length fc) ∧ W.cell? ⟨w.heap.size + 1, 0, none⟩ = some (.int .i64 (j : Int)) ∧ W.cell? ⟨w.heap.size + 1, 1, none⟩ = some (.int .i64 xi) ∧ W.cell? ⟨gd, j * 2 + 1, none⟩ = some (.slice (some ⟨gn, 0, none⟩) d.nodes.length cn) ∧ W.cell? ⟨w5.heap.size, 0, none⟩ = some (.int .i64 n.ino) ∧ W.cell? ⟨w5.heap.size, 1, none⟩ = some (.int .i64 n.kind) ∧ W.cell? ⟨w5.heap.size, 2, none⟩ = some (.int .i64 m) ∧ W.cell? ⟨w5.heap.size, 3, none⟩ = some (.int .i64 u) ∧ W.cell? ⟨w5.heap.size, 4, none⟩ = some (.int .i64 g) ∧ W.cell? ⟨w5.heap.size, 5, none⟩ = some (.int .i64 n.parent) ∧ W.cell? ⟨w5.heap.size, 6, none⟩ = some (.string n.target) ∧ W.cell? ⟨w5.heap.size, 7, none⟩ = some (.slice va n.ents.length vc)) → (((((((((W.setCell ⟨gn, k * 8, none⟩ (.int .i64 n.ino)).setCell ⟨gn, k * 8 + 1, none⟩ (.int .i64 n.kind)).setCell ⟨gn, k * 8 + 2, none⟩ (.int .i64 m)).setCell ⟨gn, k * 8 + 3, none⟩ (.int .i64 u)).setCell ⟨gn, k * 8 + 4, none⟩ (.int .i64 g)).setCell ⟨gn, k * 8 + 5, none⟩ (.int .i64 n.parent)).setCell ⟨gn, k * 8 + 6, none⟩ (.string n.target)).setCell ⟨gn, k * 8 + 7, none⟩ (.slice va n.ents.length vc)).cell? ⟨w8.heap.size, 0, none⟩ = some (.slice (some ⟨gd, 0, none⟩) F.length fc) ∧ ((((((((W.setCell ⟨gn, k * 8, none⟩ (.int .i64 n.ino)).setCell ⟨gn, k * 8 + 1, none⟩ (.int .i64 n.kind)).setCell ⟨gn, k * 8 + 2, none⟩ (.int .i64 m)).setCell ⟨gn, k * 8 + 3, none⟩ (.int .i64 u)).setCell ⟨gn, k * 8 + 4, none⟩ (.int .i64 g)).setCell ⟨gn, k * 8 + 5, none⟩ (.int .i64 n.parent)).setCell ⟨gn, k * 8 + 6, none⟩ (.string n.target)).setCell ⟨gn, k * 8 + 7, none⟩ (.slice va n.ents.length vc)).cell? ⟨w.heap.size + 1, 0, none⟩ = some (.int .i64 (j : Int)) ∧ ((((((((W.setCell ⟨gn, k * 8, none⟩ (.int .i64 n.ino)).setCell ⟨gn, k * 8 + 1, none⟩ (.int .i64 n.kind)).setCell ⟨gn, k * 8 + 2, none⟩ (.int .i64 m)).setCell ⟨gn, k * 8 + 3, none⟩ (.int .i64 u)).setCell ⟨gn, k * 8 + 4, none⟩ (.int .i64 g)).setCell ⟨gn, k * 8 + 5, none⟩ (.int .i64 n.parent)).setCell ⟨gn, k * 8 + 6, none⟩ (.string n.target)).setCell ⟨gn, k * 8 + 7, none⟩ (.slice va n.ents.length vc)).cell? ⟨w.heap.size + 1, 1, none⟩ = some (.int .i64 xi) ∧ ((((((((W.setCell ⟨gn, k * 8, none⟩ (.int .i64 n.ino)).setCell ⟨gn, k * 8 + 1, none⟩ (.int .i64 n.kind)).setCell ⟨gn, k * 8 + 2, none⟩ (.int .i64 m)).setCell ⟨gn, k * 8 + 3, none⟩ (.int .i64 u)).setCell ⟨gn, k * 8 + 4, none⟩ (.int .i64 g)).setCell ⟨gn, k * 8 + 5, none⟩ (.int .i64 n.parent)).setCell ⟨gn, k * 8 + 6, none⟩ (.string n.target)).setCell ⟨gn, k * 8 + 7, none⟩ (.slice va n.ents.length vc)).cell? ⟨gd, j * 2 + 1, none⟩ = some (.slice (some ⟨gn, 0, none⟩) d.nodes.length cn) ∧ ((((((((W.setCell ⟨gn, k * 8, none⟩ (.int .i64 n.ino)).setCell ⟨gn, k * 8 + 1, none⟩ (.int .i64 n.kind)).setCell ⟨gn, k * 8 + 2, none⟩ (.int .i64 m)).setCell ⟨gn, k * 8 + 3, none⟩ (.int .i64 u)).setCell ⟨gn, k * 8 + 4, none⟩ (.int .i64 g)).setCell ⟨gn, k * 8 + 5, none⟩ (.int .i64 n.parent)).setCell ⟨gn, k * 8 + 6, none⟩ (.string n.target)).setCell ⟨gn, k * 8 + 7, none⟩ (.slice va n.ents.length vc)).cell? ⟨w5.heap.size, 0, none⟩ = some (.int .i64 n.ino) ∧ ((((((((W.setCell ⟨gn, k * 8, none⟩ (.int .i64 n.ino)).setCell ⟨gn, k * 8 + 1, none⟩ (.int .i64 n.kind)).setCell ⟨gn, k * 8 + 2, none⟩ (.int .i64 m)).setCell ⟨gn, k * 8 + 3, none⟩ (.int .i64 u)).setCell ⟨gn, k * 8 + 4, none⟩ (.int .i64 g)).setCell ⟨gn, k * 8 + 5, none⟩ (.int .i64 n.parent)).setCell ⟨gn, k * 8 + 6, none⟩ (.string n.target)).setCell ⟨gn, k * 8 + 7, none⟩ (.slice va n.ents.length vc)).cell? ⟨w5.heap.size, 1, none⟩ = some (.int .i64 n.kind) ∧ ((((((((W.setCell ⟨gn, k * 8, none⟩ (.int .i64 n.ino)).setCell ⟨gn, k * 8 + 1, none⟩ (.int .i64 n.kind)).setCell ⟨gn, k * 8 + 2, none⟩ (.int .i64 m)).setCell ⟨gn, k * 8 + 3, none⟩ (.int .i64 u)).setCell ⟨gn, k * 8 + 4, none⟩ (.int .i64 g)).setCell ⟨gn, k * 8 + 5, none⟩ (.int .i64 n.parent)).setCell ⟨gn, k * 8 + 6, none⟩ (.string n.target)).setCell ⟨gn, k * 8 + 7, none⟩ (.slice va n.ents.length vc)).cell? ⟨w5.heap.size, 2, none⟩ = some (.int .i64 m) ∧ ((((((((W.setCell ⟨gn, k * 8, none⟩ (.int .i64 n.ino)).setCell ⟨gn, k * 8 + 1, none⟩ (.int .i64 n.kind)).setCell ⟨gn, k * 8 + 2, none⟩ (.int .i64 m)).setCell ⟨gn, k * 8 + 3, none⟩ (.int .i64 u)).setCell ⟨gn, k * 8 + 4, none⟩ (.int .i64 g)).setCell ⟨gn, k * 8 + 5, none⟩ (.int .i64 n.parent)).setCell ⟨gn, k * 8 + 6, none⟩ (.string n.target)).setCell ⟨gn, k * 8 + 7, none⟩ (.slice va n.ents.length vc)).cell? ⟨w5.heap.size, 3, none⟩ = some (.int .i64 u) ∧ ((((((((W.setCell ⟨gn, k * 8, none⟩ (.int .i64 n.ino)).setCell ⟨gn, k * 8 + 1, none⟩ (.int .i64 n.kind)).setCell ⟨gn, k * 8 + 2, none⟩ (.int .i64 m)).setCell ⟨gn, k * 8 + 3, none⟩ (.int .i64 u)).setCell ⟨gn, k * 8 + 4, none⟩ (.int .i64 g)).setCell ⟨gn, k * 8 + 5, none⟩ (.int .i64 n.parent)).setCell ⟨gn, k * 8 + 6, none⟩ (.string n.target)).setCell ⟨gn, k * 8 + 7, none⟩ (.slice va n.ents.length vc)).cell? ⟨w5.heap.size, 4, none⟩ = some (.int .i64 g) ∧ ((((((((W.setCell ⟨gn, k * 8, none⟩ (.int .i64 n.ino)).setCell ⟨gn, k * 8 + 1, none⟩ (.int .i64 n.kind)).setCell ⟨gn, k * 8 + 2, none⟩ (.int .i64 m)).setCell ⟨gn, k * 8 + 3, none⟩ (.int .i64 u)).setCell ⟨gn, k * 8 + 4, none⟩ (.int .i64 g)).setCell ⟨gn, k * 8 + 5, none⟩ (.int .i64 n.parent)).setCell ⟨gn, k * 8 + 6, none⟩ (.string n.target)).setCell ⟨gn, k * 8 + 7, none⟩ (.slice va n.ents.length vc)).cell? ⟨w5.heap.size, 5, none⟩ = some (.int .i64 n.parent) ∧ ((((((((W.setCell ⟨gn, k * 8, none⟩ (.int .i64 n.ino)).setCell ⟨gn, k * 8 + 1, none⟩ (.int .i64 n.kind)).setCell ⟨gn, k * 8 + 2, none⟩ (.int .i64 m)).setCell ⟨gn, k * 8 + 3, none⟩ (.int .i64 u)).setCell ⟨gn, k * 8 + 4, none⟩ (.int .i64 g)).setCell ⟨gn, k * 8 + 5, none⟩ (.int .i64 n.parent)).setCell ⟨gn, k * 8 + 6, none⟩ (.string n.target)).setCell ⟨gn, k * 8 + 7, none⟩ (.slice va n.ents.length vc)).cell? ⟨w5.heap.size, 6, none⟩ = some (.string n.target) ∧ ((((((((W.setCell ⟨gn, k * 8, none⟩ (.int .i64 n.ino)).setCell ⟨gn, k * 8 + 1, none⟩ (.int .i64 n.kind)).setCell ⟨gn, k * 8 + 2, none⟩ (.int .i64 m)).setCell ⟨gn, k * 8 + 3, none⟩ (.int .i64 u)).setCell ⟨gn, k * 8 + 4, none⟩ (.int .i64 g)).setCell ⟨gn, k * 8 + 5, none⟩ (.int .i64 n.parent)).setCell ⟨gn, k * 8 + 6, none⟩ (.string n.target)).setCell ⟨gn, k * 8 + 7, none⟩ (.slice va n.ents.length vc)).cell? ⟨w5.heap.size, 7, none⟩ = some (.slice va n.ents.length vc))) := Lib.hid (fun W h => by
        have hc : ∀ q c, q ≠ gn → ((((((((W.setCell ⟨gn, k * 8, none⟩ (.int .i64 n.ino)).setCell ⟨gn, k * 8 + 1, none⟩ (.int .i64 n.kind)).setCell ⟨gn, k * 8 + 2, none⟩ (.int .i64 m)).setCell ⟨gn, k * 8 + 3, none⟩ (.int .i64 u)).setCell ⟨gn, k * 8 + 4, none⟩ (.int .i64 g)).setCell ⟨gn, k * 8 + 5, none⟩ (.int .i64 n.parent)).setCell ⟨gn, k * 8 + 6, none⟩ (.string n.target)).setCell ⟨gn, k * 8 + 7, none⟩ (.slice va n.ents.length vc)).cell? ⟨q, c, none⟩ = W.cell? ⟨q, c, none⟩ := fun q c hq => World.cell?_of_block (a := ⟨q, c, none⟩) (HB W q hq)
        obtain ⟨a0, a1, a2, a3, b0, b1, b2, b3, b4, b5, b6, b7⟩ := h
        exact ⟨(hc _ 0 hne8).trans a0, (hc _ 0 hneD).trans a1, (hc _ 1 hneD).trans a2, (hc _ _ hgdn).trans a3, (hc _ 0 hne5).trans b0, (hc _ 1 hne5).trans b1, (hc _ 2 hne5).trans b2, (hc _ 3 hne5).trans b3, (hc _ 4 hne5).trans b4, (hc _ 5 hne5).trans b5, (hc _ 6 hne5).trans b6, (hc _ 7 hne5).trans b7⟩)
      have FIN : Hid (∀ W, Below w9.heap.size w9 W → (W.frozen? ⟨gn, k * 8, none⟩ = false ∧ W.frozen? ⟨gn, k * 8 + 1, none⟩ = false ∧ W.frozen? ⟨gn, k * 8 + 2, none⟩ = false ∧ W.frozen? ⟨gn, k * 8 + 3, none⟩ = false ∧ W.frozen? ⟨gn, k * 8 + 4, none⟩ = false ∧ W.frozen? ⟨gn, k * 8 + 5, none⟩ = false ∧ W.frozen? ⟨gn, k * 8 + 6, none⟩ = false ∧ W.frozen? ⟨gn, k * 8 + 7, none⟩ = false) ∧ (W.cell? ⟨gn, k * 8, none⟩ = some (.int .i64 n.ino) ∧ W.cell? ⟨gn, k * 8 + 1, none⟩ = some (.int .i64 n.kind) ∧ W.cell? ⟨gn, k * 8 + 2, none⟩ = some (.int .i64 n.mode) ∧ W.cell? ⟨gn, k * 8 + 3, none⟩ = some (.int .i64 n.uid) ∧ W.cell? ⟨gn, k * 8 + 4, none⟩ = some (.int .i64 n.gid) ∧ W.cell? ⟨gn, k * 8 + 5, none⟩ = some (.int .i64 n.parent) ∧ W.cell? ⟨gn, k * 8 + 6, none⟩ = some (.string n.target) ∧ W.cell? ⟨gn, k * 8 + 7, none⟩ = some (ev j k)) ∧ ((((((((W.setCell ⟨gn, k * 8, none⟩ (.int .i64 n.ino)).setCell ⟨gn, k * 8 + 1, none⟩ (.int .i64 n.kind)).setCell ⟨gn, k * 8 + 2, none⟩ (.int .i64 m)).setCell ⟨gn, k * 8 + 3, none⟩ (.int .i64 u)).setCell ⟨gn, k * 8 + 4, none⟩ (.int .i64 g)).setCell ⟨gn, k * 8 + 5, none⟩ (.int .i64 n.parent)).setCell ⟨gn, k * 8 + 6, none⟩ (.string n.target)).setCell ⟨gn, k * 8 + 7, none⟩ (.slice va n.ents.length vc)).cell? ⟨w8.heap.size, 0, none⟩ = some (.slice (some ⟨gd, 0, none⟩) F.length fc) ∧ ((((((((W.setCell ⟨gn, k * 8, none⟩ (.int .i64 n.ino)).setCell ⟨gn, k * 8 + 1, none⟩ (.int .i64 n.kind)).setCell ⟨gn, k * 8 + 2, none⟩ (.int .i64 m)).setCell ⟨gn, k * 8 + 3, none⟩ (.int .i64 u)).setCell ⟨gn, k * 8 + 4, none⟩ (.int .i64 g)).setCell ⟨gn, k * 8 + 5, none⟩ (.int .i64 n.parent)).setCell ⟨gn, k * 8 + 6, none⟩ (.string n.target)).setCell ⟨gn, k * 8 + 7, none⟩ (.slice va n.ents.length vc)).cell? ⟨w.heap.size + 1 + 1, 0, none⟩ = some (.slice none 0 0) ∧ ((((((((W.setCell ⟨gn, k * 8, none⟩ (.int .i64 n.ino)).setCell ⟨gn, k * 8 + 1, none⟩ (.int .i64 n.kind)).setCell ⟨gn, k * 8 + 2, none⟩ (.int .i64 m)).setCell ⟨gn, k * 8 + 3, none⟩ (.int .i64 u)).setCell ⟨gn, k * 8 + 4, none⟩ (.int .i64 g)).setCell ⟨gn, k * 8 + 5, none⟩ (.int .i64 n.parent)).setCell ⟨gn, k * 8 + 6, none⟩ (.string n.target)).setCell ⟨gn, k * 8 + 7, none⟩ (.slice va n.ents.length vc)).frozen? ⟨w.heap.size + 1 + 1, 0, none⟩ = false ∧ (((((((((W.setCell ⟨gn, k * 8, none⟩ (.int .i64 n.ino)).setCell ⟨gn, k * 8 + 1, none⟩ (.int .i64 n.kind)).setCell ⟨gn, k * 8 + 2, none⟩ (.int .i64 m)).setCell ⟨gn, k * 8 + 3, none⟩ (.int .i64 u)).setCell ⟨gn, k * 8 + 4, none⟩ (.int .i64 g)).setCell ⟨gn, k * 8 + 5, none⟩ (.int .i64 n.parent)).setCell ⟨gn, k * 8 + 6, none⟩ (.string n.target)).setCell ⟨gn, k * 8 + 7, none⟩ (.slice va n.ents.length vc)).setCell ⟨w.heap.size + 1 + 1, 0, none⟩ (.slice (some ⟨gd, 0, none⟩) F.length fc)).cell? ⟨w.heap.size + 1 + 1, 0, none⟩ = some (.slice (some ⟨gd, 0, none⟩) F.length fc) ∧ SetR w.heap.size R w (.returned (.tuple #[.agg #[.slice (some ⟨gd, 0, none⟩) F.length fc], .int .i64 0])) (((((((((W.setCell ⟨gn, k * 8, none⟩ (.int .i64 n.ino)).setCell ⟨gn, k * 8 + 1, none⟩ (.int .i64 n.kind)).setCell ⟨gn, k * 8 + 2, none⟩ (.int .i64 m)).setCell ⟨gn, k * 8 + 3, none⟩ (.int .i64 u)).setCell ⟨gn, k * 8 + 4, none⟩ (.int .i64 g)).setCell ⟨gn, k * 8 + 5, none⟩ (.int .i64 n.parent)).setCell ⟨gn, k * 8 + 6, none⟩ (.string n.target)).setCell ⟨gn, k * 8 + 7, none⟩ (.slice va n.ents.length vc)).setCell ⟨w.heap.size + 1 + 1, 0, none⟩ (.slice (some ⟨gd, 0, none⟩) F.length fc))) := Lib.hid (fun W hb => by
        have f1 := hf9.stay hb
        have hrow := f1.nodes j d HD.out
        have hrow2 : W.ownsRow w75.heap.size 43 8 (.slice (some ⟨gn, 0, none⟩) d.nodes.length cn) d.nodes.length (nrow (ev j) 0 d.nodes) := by have := hrow; unfold OwnN at this; rw [hgv] at this; exact this
        have hve : OwnE w3.heap.size W (.slice va n.ents.length vc) n.ents := own_keep HO5.out fun q hq => (hb59.trans (hb.mono hb59.size)).block q (own_lt HO5.out hq).2
        have tGW : TB 24 ((((((((W.setCell ⟨gn, k * 8, none⟩ (.int .i64 n.ino)).setCell ⟨gn, k * 8 + 1, none⟩ (.int .i64 n.kind)).setCell ⟨gn, k * 8 + 2, none⟩ (.int .i64 m)).setCell ⟨gn, k * 8 + 3, none⟩ (.int .i64 u)).setCell ⟨gn, k * 8 + 4, none⟩ (.int .i64 g)).setCell ⟨gn, k * 8 + 5, none⟩ (.int .i64 n.parent)).setCell ⟨gn, k * 8 + 6, none⟩ (.string n.target)).setCell ⟨gn, k * 8 + 7, none⟩ (.slice va n.ents.length vc)) (w.heap.size + 1 + 1) [.slice none 0 0] := (tG9.stay hb).keep (HB W _ hneG)
        have tOW : TB 24 ((((((((W.setCell ⟨gn, k * 8, none⟩ (.int .i64 n.ino)).setCell ⟨gn, k * 8 + 1, none⟩ (.int .i64 n.kind)).setCell ⟨gn, k * 8 + 2, none⟩ (.int .i64 m)).setCell ⟨gn, k * 8 + 3, none⟩ (.int .i64 u)).setCell ⟨gn, k * 8 + 4, none⟩ (.int .i64 g)).setCell ⟨gn, k * 8 + 5, none⟩ (.int .i64 n.parent)).setCell ⟨gn, k * 8 + 6, none⟩ (.string n.target)).setCell ⟨gn, k * 8 + 7, none⟩ (.slice va n.ents.length vc)) w8.heap.size [.slice (some ⟨gd, 0, none⟩) F.length fc] := (tO.stay hb).keep (HB W _ hne8)
        have o1 := f1.setWhole (B0 := w3.heap.size) (ve := .slice va n.ents.length vc) hb75.size HD.out HK.out hgn m u g hve (fun q hq => by have := (own_lt HO5.out hq).2; omega) hcl
        have e1 : F.set j (setN d k (attF m u g n)) = onF F (j : Int) fun d => modD d xi (attF m u g) := setN_on (x := ⟨(j : Int), xi⟩) HOK.out.asc rfl HD.out HI.out HK.out (attF m u g)
        rw [e1] at o1
        have hbW : Below w.heap.size w W := HB3.out.trans ((hb9.trans (hb.mono hs9)).mono HB3.out.size)
        have h3 := HB3.out.size
        have hgw : w.heap.size ≤ gn := by omega
        have hbS : Below w.heap.size w ((((((((W.setCell ⟨gn, k * 8, none⟩ (.int .i64 n.ino)).setCell ⟨gn, k * 8 + 1, none⟩ (.int .i64 n.kind)).setCell ⟨gn, k * 8 + 2, none⟩ (.int .i64 m)).setCell ⟨gn, k * 8 + 3, none⟩ (.int .i64 u)).setCell ⟨gn, k * 8 + 4, none⟩ (.int .i64 g)).setCell ⟨gn, k * 8 + 5, none⟩ (.int .i64 n.parent)).setCell ⟨gn, k * 8 + 6, none⟩ (.string n.target)).setCell ⟨gn, k * 8 + 7, none⟩ (.slice va n.ents.length vc)) := below_set (below_set (below_set (below_set (below_set (below_set (below_set (below_set hbW hgw _ _) hgw _ _) hgw _ _) hgw _ _) hgw _ _) hgw _ _) hgw _ _) hgw _ _
        have nc := fun (c : Nat) (hc : c < 8) => f1.cellN HD.out HK.out hgn (c := c) hc
        refine ⟨⟨hrow2.frozenAt _, hrow2.frozenAt _, hrow2.frozenAt _, hrow2.frozenAt _, hrow2.frozenAt _, hrow2.frozenAt _, hrow2.frozenAt _, hrow2.frozenAt _⟩, ⟨nc 0 (by omega), nc 1 (by omega), nc 2 (by omega), nc 3 (by omega), nc 4 (by omega), nc 5 (by omega), nc 6 (by omega), nc 7 (by omega)⟩, tOW.blk.c1.1, tGW.blk.c1.1, tGW.blk.c1.2, (TB.blk (cs := [.slice (some ⟨gd, 0, none⟩) F.length fc]) (tGW.set 0 (.slice (some ⟨gd, 0, none⟩) F.length fc))).c1.1, ?_⟩
        rw [HR2.out]
        exact ⟨_, rfl, (o1.mono h3).same (tGW.same (by decide) 0 _), below_set hbS (by omega) 0 _⟩)
      have K4 := KS.out w9 (Below.refl _ _)
      have hbd : Below w9.heap.size w9 w9.drew := (Below.refl w9.heap.size w9).drew
      clear tO tM9 tD9 tG9 hf9 hb59 hb9 hgd hgnb hcl hgv hgn hb75 HB HNF
      go_upto_region 8 with fail
      rw [← HW9.out]
      clear HW9
      generalize ev j k = evk at *
      go_region_held3 (fun (W : World) => W.cell? ⟨w8.heap.size, 0, none⟩ = some (.slice (some ⟨gd, 0, none⟩) F.length fc) ∧ W.cell? ⟨w.heap.size + 1, 0, none⟩ = some (.int .i64 (j : Int)) ∧ W.cell? ⟨w.heap.size + 1, 1, none⟩ = some (.int .i64 xi) ∧ W.cell? ⟨gd, j * 2 + 1, none⟩ = some (.slice (some ⟨gn, 0, none⟩) d.nodes.length cn) ∧ W.cell? ⟨w5.heap.size, 0, none⟩ = some (.int .i64 n.ino) ∧ W.cell? ⟨w5.heap.size, 1, none⟩ = some (.int .i64 n.kind) ∧ W.cell? ⟨w5.heap.size, 2, none⟩ = some (.int .i64 m) ∧ W.cell? ⟨w5.heap.size, 3, none⟩ = some (.int .i64 u) ∧ W.cell? ⟨w5.heap.size, 4, none⟩ = some (.int .i64 g) ∧ W.cell? ⟨w5.heap.size, 5, none⟩ = some (.int .i64 n.parent) ∧ W.cell? ⟨w5.heap.size, 6, none⟩ = some (.string n.target) ∧ W.cell? ⟨w5.heap.size, 7, none⟩ = some (.slice va n.ents.length vc))
        (first
          | (with_reducible exact K4)
          | (with_reducible exact K5)
          | (with_reducible exact K6)
          | go_keep)
        ((go_at_call 41; (with_reducible refine (CI.out _ hbd).mono ?_); rintro e w10 ⟨rfl, hb10⟩; have hb11 : Below w9.heap.size w9 w10 := hbd.trans hb10; have K5 := KS.out w10 hb11; have F5 := FIN.out w10 hb11; obtain ⟨⟨f0, f1, f2, f3, f4, f5, f6, f7⟩, ⟨s0, s1, s2, s3, s4, s5, s6, s7⟩, r0, r1, r2, n0, hfn⟩ := F5; have HFN := Lib.hid hfn; have K6 := HST.out w10 K5; clear hfn))
      all_goals
        clear K4 K5 K6 f0 f1 f2 f3 f4 f5 f6 f7 s0 s1 s2 s3 s4 s5 s6 s7
        go_wp2_with fail
        exact bodyPost_ret (v := .tuple #[.agg #[.slice (some ⟨gd, 0, none⟩) F.length fc], .int .i64 0]) (by simp [results, Try.f32, go_sem, n0]) rfl HFN.out
end Go.Proofs.Ytafnbpkdenjipaa.fl
