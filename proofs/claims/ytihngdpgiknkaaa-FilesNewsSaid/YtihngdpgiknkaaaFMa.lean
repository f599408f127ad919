/-
  makeNode of package files: what stands when a node has been added.
-/
import Derived.Test.YtihngdpgiknkaaaFGu
namespace Go.Proofs.Ytihngdpgiknkaaa.fl
open Go.RowKit Go.Proofs.Ytihngdpgiknkaaa.cm

/-- files with one node more -/
def mkF (F : FilP) (x : At) (n : NodeP) : FilP := onF F x.dev fun d => addD d (newN d x.ino n)
def mkT (F : FilP) (x : At) : At := ⟨x.dev, match devF F x.dev with | some d => d.next | none => 0⟩
def mkE (F : FilP) (x : At) (s : ByteArray) (n : NodeP) : Int :=
  if placesE F [(x, s)] ≠ 0 then placesE F [(x, s)] else if plainB n = false then 22 else if (atF F x s).isSome then 17 else
  match devF F x.dev with
  | none => 28
  | some d => if 16 ≤ d.nodes.length then 28 else if 1073741824 ≤ d.next then 28 else if roomF F x then 0 else 28

theorem set_add {F : FilP} {x : At} {j : Nat} {d : DevP} (hx : x.dev = (j : Int)) (hd : F[j]? = some d) (n : NodeP) : F.set j ⟨d.next + 1, d.nodes ++ [newN d x.ino n]⟩ = mkF F x n := by
  unfold mkF
  rw [hx]
  exact set_on hd (fun d => addD d (newN d x.ino n))
theorem mkF_mem {F : FilP} {x : At} {n : NodeP} {d : DevP} (h : d ∈ mkF F x n) : d ∈ F ∨ ∃ d0 ∈ F, d = addD d0 (newN d0 x.ino n) := onF_mem2 h
theorem mkF_len (F : FilP) (x : At) (n : NodeP) : (mkF F x n).length = F.length := onF_len _ _ _
theorem asc_snoc {l : List NodeP} (h : AscL l) {m : NodeP} (hm : ∀ n ∈ l, n.ino < m.ino) : AscL (l ++ [m]) := by
  unfold AscL
  rw [List.pairwise_append]
  exact ⟨h, by simp, fun a ha b hb => by simp at hb; subst hb; exact hm a ha⟩
structure AddF (F : FilP) : Prop where
  sml : Sml F
  srt : SrtF F
  asc : AscF F
  low : LowF F
theorem AddF.of {F : FilP} (hO : OKF F) (x : At) (n : NodeP) : AddF (mkF F x n) := by
  have hm : ∀ d ∈ mkF F x n, ∃ d0 ∈ F, d.nodes.length ≤ d0.nodes.length + 1 ∧ AscL d.nodes ∧ ∀ m ∈ d.nodes, m ∈ d0.nodes ∨ m.ents = [] := fun d hd => by
    rcases mkF_mem hd with h | ⟨d0, h0, rfl⟩
    · exact ⟨d, h, Nat.le_succ _, hO.asc d h, fun m hm => .inl hm⟩
    · refine ⟨d0, h0, ?_, asc_snoc (hO.asc d0 h0) (fun m hm => ((hO.2 d0 h0).pre.low m hm).2), fun m hm => ?_⟩
      · show (d0.nodes ++ [_]).length ≤ _
        simp
      · have hm : m ∈ d0.nodes ++ [newN d0 x.ino n] := hm
        rcases List.mem_append.1 hm with h | h
        · exact .inl h
        · simp at h
          subst h
          exact .inr rfl
  refine ⟨⟨by rw [mkF_len]; exact hO.sml.len, fun d hd => ?_, fun d hd m hmm => ?_⟩, fun d hd m hmm => ?_, fun d hd => ?_, fun d hd m hmm => ?_⟩
  · obtain ⟨d0, h0, h1, -⟩ := hm d hd
    have := (hO.2 d0 h0).pre.few
    omega
  · obtain ⟨d0, h0, -, -, h1⟩ := hm d hd
    rcases h1 m hmm with h | h
    · exact hO.sml.ents d0 h0 m h
    · rw [h]; simp
  · obtain ⟨d0, h0, -, -, h1⟩ := hm d hd
    rcases h1 m hmm with h | h
    · exact hO.srt d0 h0 m h
    · rw [h]; exact List.Pairwise.nil
  · exact (hm d hd).choose_spec.2.2.1
  · obtain ⟨d0, h0, -, -, h1⟩ := hm d hd
    rcases h1 m hmm with h | h
    · have := ((hO.2 d0 h0).pre.dir m h).1
      omega
    · rw [h]; simp

/-- a node has been added -/
theorem EdI.add {B E gd j : Nat} {w1 wA : World} {fa : Option Addr} {fc : Nat} {cv v' : Value} {F : FilP} {l : List ChgP} {vn : Nat → Value} {ev : Nat → Nat → Value} {d : DevP} {m : NodeP} (hf : FilesO B w1 (.slice fa F.length fc) F vn ev) (hE : TB 100 w1 E [.slice fa F.length fc, cv]) (hC : OwnC B w1 cv l)
    (hd : F[j]? = some d) (hgd : (Value.slice fa F.length fc).ownBlock = some gd) (hg : w1.grownBy wA (vn j).ownBlock) (ho : wA.ownsRow B 43 8 v' (d.nodes.length + 1) (nrow (ev j) 0 d.nodes ++ ncs m (.slice none 0 0))) (hat : v'.ownBlock = (vn j).ownBlock ∨ v'.ownBlock = some w1.heap.size) (hm : m.ents = []) (hB : B ≤ w1.heap.size) :
    OutF B ((wA.setCell ⟨gd, j * 2 + 1, none⟩ v').setCell ⟨gd, j * 2 + 0, none⟩ (.int .i64 (d.next + 1))) (.slice fa F.length fc) (F.set j ⟨d.next + 1, d.nodes ++ [m]⟩) ∧
    TB 100 ((wA.setCell ⟨gd, j * 2 + 1, none⟩ v').setCell ⟨gd, j * 2 + 0, none⟩ (.int .i64 (d.next + 1))) E [.slice fa F.length fc, cv] ∧ OwnC B ((wA.setCell ⟨gd, j * 2 + 1, none⟩ v').setCell ⟨gd, j * 2 + 0, none⟩ (.int .i64 (d.next + 1))) cv l ∧
    SameB E w1 ((wA.setCell ⟨gd, j * 2 + 1, none⟩ v').setCell ⟨gd, j * 2 + 0, none⟩ (.int .i64 (d.next + 1))) ∧ Below B w1 ((wA.setCell ⟨gd, j * 2 + 1, none⟩ v').setCell ⟨gd, j * 2 + 0, none⟩ (.int .i64 (d.next + 1))) := by
  have hN := hf.nodes j d hd
  have hup : ∀ k, k ≠ d.nodes.length → upd1 (ev j) d.nodes.length (.slice none 0 0) k = ev j k := fun k hk => upd1_other _ _ hk
  have hups : ∀ k g, (upd1 (ev j) d.nodes.length (.slice none 0 0) k).ownBlock = some g → (ev j k).ownBlock = some g := fun k g hg' => by
    by_cases c : k = d.nodes.length
    · rw [c, upd1_same] at hg'; cases hg'
    · rwa [hup k c] at hg'
  have ho2 : OwnN B wA v' (upd1 (ev j) d.nodes.length (.slice none 0 0)) (d.nodes ++ [m]) := by
    unfold OwnN
    rw [List.length_append, nrow_app, Nat.zero_add, nrow_ext (ev' := ev j) 0 d.nodes (fun k _ h => hup k (by omega))]
    have : nrow (upd1 (ev j) d.nodes.length (.slice none 0 0)) d.nodes.length [m] = ncs m (.slice none 0 0) := by simp [nrow, upd1_same]
    rw [this]
    exact ho
  have f1 := hf.setNodes hd hg ho2 (fun k n hk => by
    rw [List.getElem?_append] at hk
    split at hk
    · rename_i hlt
      rw [hup k (by omega)]
      have he := hf.ents j d k n hd hk
      exact own_keep he fun g' hg' => hg.block g' (own_lt he hg').2 (fun e => own_types he hN (by decide) hg' e.symm)
    · have hkk : k = d.nodes.length := by
        have := (List.getElem?_eq_some_iff.1 hk).1
        simp at this
        omega
      rw [hkk] at hk ⊢
      simp at hk
      rw [upd1_same, ← hk, hm]
      exact OwnE.nil _ _) (fun k m' g' h1 h2 => (hf.injE j k j m' g' (hups k g' h1) (hups m' g' h2)).2) (fun k g' h1 => ⟨k, hups k g' h1⟩) (fun g' hg' => by
    rcases hat with h | h
    · exact .inl (h ▸ hg')
    · rw [h] at hg'; injection hg' with hg'; exact .inr (by omega)) hgd
  have f2 := f1.setNext (setN_at hd _) (d.next + 1) hgd
  rw [List.set_set] at f2
  obtain ⟨cc, fz, hkd⟩ := Lib.ownsRow_kind hf.row gd hgd
  have hEd : E ≠ gd := fun e => hE.ne hf.row (by decide) (e ▸ hgd)
  have oC : OwnC B wA cv l := own_keep hC fun g' hg' => hg.block g' (own_lt hC hg').2 (fun e => own_types hC hN (by decide) hg' e.symm)
  have kd : wA.ownsRow B 72 2 (.slice fa F.length fc) F.length (drow vn 0 F) := own_keep hf.row fun g' hg' => hg.block g' (own_lt hf.row hg').2 (fun e => own_types hf.row hN (by decide) hg' e.symm)
  obtain ⟨cc2, fz2, hkd2⟩ := Lib.ownsRow_kind kd gd hgd
  have hnC : cv.ownBlock ≠ some gd := own_types kd oC (by decide) hgd
  have s1 : SameB E wA (wA.setCell ⟨gd, j * 2 + 1, none⟩ v') := .setT hkd2 (.inl rfl) _ _
  have kd3 := own_store kd hgd (j * 2 + 1) v'
  obtain ⟨cc3, fz3, hkd3⟩ := Lib.ownsRow_kind kd3 gd hgd
  have hBd := (own_lt hf.row hgd).1
  refine ⟨⟨_, _, f2⟩, ((hE.grown hN (by decide) hg).other hEd _ _).other hEd _ _, own_other (own_other oC hnC _ _) hnC _ _, ((SameB.grown hN (.inr (.inl rfl)) hg).trans s1).trans (.setT hkd3 (.inl rfl) _ _), below_set (below_set ((Below.refl B w1).grown hg hB (fun g hg' => (own_lt hN hg').1)) hBd _ _) hBd _ _⟩
/-- a step ends with a point, of other files than those that it began with -/
theorem StepR.of_point2 {B E : Nat} {w w1 : World} {fa : Option Addr} {fc : Nat} {F : FilP} {l : List ChgP} {x : At} {s : ByteArray} {tg : At} (hA : AddF F) (hl : l.length ≤ 900) (hb : SameB E w w1) (hb2 : Below B w w1) {w2 : World} {e : Ending} (hp : PointR B E fa fc F l x s tg w1 e w2) :
    StepR B E (pointF F x s tg) (l ++ [pointC F x s tg]) 0 w (.returned (.int .i64 0)) w2 := by
  obtain ⟨-, cv', h1, h2, h3, h4, h5⟩ := hp
  refine ⟨rfl, hb.trans h4, hb2.trans h5, fun _ => ⟨fa, fc, cv', ?_, ?_, h3, hA.sml.point hA.low x s tg, hA.asc.point x s tg, ?_⟩⟩
  · rw [pointF_len]; exact h2
  · rw [pointF_len]; exact h1
  · rw [List.length_append]; simp; omega
end Go.Proofs.Ytihngdpgiknkaaa.fl
