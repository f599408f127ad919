/-
  dropLost of package files: as plain data, and what the removal of one node leaves.
-/
import Derived.Test.YtafnbpkdenjipaaFPt
namespace Go.Proofs.Ytafnbpkdenjipaa.fl
open Go.RowKit Go.Proofs.Ytafnbpkdenjipaa.cm

def dropF1 (F : FilP) (c : ChgP) : FilP := if (nodeF F c.old).isSome = true ∧ linksF F c.old = 0 then onF F c.old.dev (fun d => dropD d c.old.ino) else F
def dropsF (F : FilP) (l : List ChgP) : FilP := l.foldl dropF1 F
theorem dropsF_take {F : FilP} {l : List ChgP} {k : Nat} {c : ChgP} (h : l[k]? = some c) : dropsF F (l.take (k + 1)) = dropF1 (dropsF F (l.take k)) c := by
  unfold dropsF
  rw [List.take_add_one, h, List.foldl_append]
  rfl
theorem dropF1_len (F : FilP) (c : ChgP) : (dropF1 F c).length = F.length := by
  unfold dropF1
  split
  · exact onF_len _ _ _
  · rfl
theorem dropF1_mem {F : FilP} {c : ChgP} {d : DevP} (h : d ∈ dropF1 F c) : ∃ d0 ∈ F, d.next = d0.next ∧ d.nodes.Sublist d0.nodes := by
  unfold dropF1 at h
  split at h
  · unfold onF at h
    obtain ⟨i, hi⟩ := List.mem_iff_getElem?.1 h
    rw [List.getElem?_modify] at hi
    cases hf : F[i]? with
    | none => rw [hf] at hi; simp at hi
    | some d0 =>
      rw [hf] at hi
      refine ⟨d0, List.mem_of_getElem? hf, ?_⟩
      by_cases e : c.old.dev.toNat = i
      · simp [e] at hi
        subst hi
        exact ⟨rfl, List.filter_sublist⟩
      · simp [e] at hi
        subst hi
        exact ⟨rfl, .refl _⟩
  · exact ⟨d, h, rfl, .refl _⟩
theorem Sml.drop1 {F : FilP} (h : Sml F) (c : ChgP) : Sml (dropF1 F c) :=
  ⟨by rw [dropF1_len]; exact h.len, fun d hd => by obtain ⟨d0, h0, -, h1⟩ := dropF1_mem hd; exact Nat.le_trans h1.length_le (h.nodes d0 h0), fun d hd n hn => by obtain ⟨d0, h0, -, h1⟩ := dropF1_mem hd; exact h.ents d0 h0 n (h1.subset hn)⟩
theorem AscF.drop1 {F : FilP} (h : AscF F) (c : ChgP) : AscF (dropF1 F c) := fun d hd => by obtain ⟨d0, h0, -, h1⟩ := dropF1_mem hd; exact (h d0 h0).sublist h1
theorem drops_keep {F : FilP} (hS : Sml F) (hA : AscF F) : ∀ (l : List ChgP), (dropsF F l).length = F.length ∧ Sml (dropsF F l) ∧ AscF (dropsF F l) := by
  intro l
  induction l generalizing F with
  | nil => exact ⟨rfl, hS, hA⟩
  | cons c l ih =>
    have := ih (hS.drop1 c) (hA.drop1 c)
    exact ⟨this.1.trans (dropF1_len F c), this.2⟩
theorem erase_drop {l : List NodeP} (h : AscL l) {g : Int} {k : Nat} {n : NodeP} (hk : l[k]? = some n) (hg : n.ino = g) : l.eraseIdx k = dropL l g := by
  induction l generalizing k with
  | nil => simp at hk
  | cons x l ih =>
    have h' := List.pairwise_cons.1 h
    cases k with
    | zero =>
      simp at hk
      subst hk
      unfold dropL
      rw [List.eraseIdx_zero, List.filter_cons_of_neg (by simp [hg]), List.tail_cons]
      symm
      rw [List.filter_eq_self]
      intro m hm
      have := h'.1 m hm
      simp
      omega
    | succ k =>
      have hk' : l[k]? = some n := by simpa using hk
      have := h'.1 n (List.mem_of_getElem? hk')
      rw [List.eraseIdx_cons_succ, ih h'.2 hk']
      unfold dropL
      rw [List.filter_cons_of_pos (by simp; omega)]
theorem nrow_one (ev : Nat → Value) : ∀ (s : Nat) (l : List NodeP), (∀ k, s ≤ k → k < s + l.length → (ev k).oneCell' = true) → ∀ u ∈ nrow ev s l, u.oneCell' = true
  | _, [], _, _, h => by simp [nrow] at h
  | s, n :: l, he, u, h => by
    unfold nrow at h
    rcases List.mem_append.1 h with h | h
    · simp only [ncs, List.mem_cons, List.not_mem_nil, or_false] at h
      rcases h with h | h | h | h | h | h | h | h
      all_goals first | (subst h; rfl) | (rw [h]; exact he s (Nat.le_refl _) (by simp))
    · exact nrow_one ev (s + 1) l (fun k h1 h2 => he k (by omega) (by simp; omega)) u h
theorem shift_inj {ev : Nat → Value} (h : ∀ k m g, (ev k).ownBlock = some g → (ev m).ownBlock = some g → k = m) (q : Nat) : ∀ k m g, (shiftV ev q k).ownBlock = some g → (shiftV ev q m).ownBlock = some g → k = m := by
  intro k m g h1 h2
  unfold shiftV at h1 h2
  split at h1 <;> split at h2
  · exact h _ _ g h1 h2
  · have := h _ _ g h1 h2; omega
  · have := h _ _ g h1 h2; omega
  · have := h _ _ g h1 h2; omega

/-- what stands while the lost nodes are removed -/
structure DrS (B E : Nat) (w0 wx : World) (fv cv : Value) (F : FilP) (l : List ChgP) (vn : Nat → Value) (ev : Nat → Nat → Value) : Prop where
  fil : FilesO B wx fv F vn ev
  ed : TB 100 wx E [fv, cv]
  own : OwnC B wx cv l
  same : SameB E w0 wx
  bel : Below B w0 wx
section
variable {B E : Nat} {w0 wx w' : World} {fv cv : Value} {F : FilP} {l : List ChgP} {vn : Nat → Value} {ev : Nat → Nat → Value}
theorem DrS.stay (h : DrS B E w0 wx fv cv F l vn ev) (hb : Below wx.heap.size wx w') (hB : B ≤ wx.heap.size) : DrS B E w0 w' fv cv F l vn ev :=
  ⟨h.fil.stay hb, h.ed.stay hb, own_keep h.own fun g hg => hb.block g (own_lt h.own hg).2, h.same.trans (.of_below hb), h.bel.trans (hb.mono hB)⟩
theorem DrS.one (h : DrS B E w0 wx fv cv F l vn ev) {j : Nat} {d : DevP} (hd : F[j]? = some d) : ∀ u ∈ nrow (ev j) 0 d.nodes, u.oneCell' = true := nrow_one (ev j) 0 d.nodes fun k _ hk => by
  have hk' : k < d.nodes.length := by omega
  obtain ⟨a, c, hv, -⟩ := own_slice (h.fil.ents j d k _ hd (List.getElem?_eq_getElem hk'))
  rw [hv]; rfl
/-- where the nodes' slice lies -/
theorem DrS.cellD (h : DrS B E w0 wx fv cv F l vn ev) {j : Nat} {d : DevP} (hd : F[j]? = some d) {gd : Nat} (hgd : fv.ownBlock = some gd) : wx.cell? ⟨gd, j * 2 + 1, none⟩ = some (vn j) := by
  obtain ⟨g, cap, hv, h1, -⟩ := h.fil.gD hd
  rw [hgd] at h1
  injection h1 with h1
  subst h1
  have hl : j < F.length := (List.getElem?_eq_some_iff.1 hd).1
  rw [own_cell h.fil.row hv (by omega), drow_at vn 0 F j d hd 1 (by omega), Nat.zero_add]
  rfl
theorem DrS.cellG (h : DrS B E w0 wx fv cv F l vn ev) {j : Nat} {d : DevP} (hd : F[j]? = some d) {gd : Nat} (hgd : fv.ownBlock = some gd) (hg : wx.grownBy w' (vn j).ownBlock) : w'.cell? ⟨gd, j * 2 + 1, none⟩ = some (vn j) ∧ w'.frozen? ⟨gd, j * 2 + 1, none⟩ = false := by
  have hD : w'.ownsRow B 72 2 fv F.length (drow vn 0 F) := own_keep h.fil.row fun g' hg' => hg.block g' (own_lt h.fil.row hg').2 (fun e => own_types h.fil.row (h.fil.nodes j d hd) (by decide) hg' e.symm)
  obtain ⟨cap, hv⟩ := own_form hD hgd
  have hl : j < F.length := (List.getElem?_eq_some_iff.1 hd).1
  refine ⟨?_, ?_⟩
  · rw [own_cell hD hv (by omega), drow_at vn 0 F j d hd 1 (by omega), Nat.zero_add]
    rfl
  · rw [hv] at hD
    exact hD.frozenAt _
/-- one node is removed -/
theorem DrS.drop (h : DrS B E w0 wx fv cv F l vn ev) (hA : AscF F) {x : At} {j : Nat} (hx : x.dev = (j : Int)) {d : DevP} (hd : F[j]? = some d) {k : Nat} (hi : idxL d.nodes x.ino = some k) (hB : B ≤ wx.heap.size) {g cap : Nat} (hv : vn j = .slice (some ⟨g, 0, none⟩) d.nodes.length cap)
    (hg : wx.grownBy w' (some g)) (ho : w'.ownsRow B 43 8 (.slice (some ⟨g, 0, none⟩) (d.nodes.length - 1) cap) (d.nodes.length - 1) ((nrow (ev j) 0 d.nodes).take (k * 8) ++ (nrow (ev j) 0 d.nodes).drop ((k + 1) * 8))) {gd : Nat} (hgd : fv.ownBlock = some gd) :
    ∃ vn' ev', DrS B E w0 (w'.setCell ⟨gd, j * 2 + 1, none⟩ (.slice (some ⟨g, 0, none⟩) (d.nodes.length - 1) cap)) fv cv (onF F x.dev (fun d => dropD d x.ino)) l vn' ev' := by
  obtain ⟨n, hk, hn, -, hkl⟩ := idxL_node hi
  have hgv : wx.grownBy w' (vn j).ownBlock := by rw [hv]; exact hg
  have hN := h.fil.nodes j d hd
  have hAd := hA d (List.mem_of_getElem? hd)
  have hel : (d.nodes.eraseIdx k).length = d.nodes.length - 1 := List.length_eraseIdx_of_lt hkl
  have hO : OwnN B w' (.slice (some ⟨g, 0, none⟩) (d.nodes.length - 1) cap) (shiftV (ev j) k) (d.nodes.eraseIdx k) := by
    unfold OwnN
    have := nrow_erase (ev j) 0 d.nodes k
    rw [Nat.zero_add] at this
    rw [this, hel]
    exact ho
  have hF := h.fil.setNodes hd hgv hO (fun m n' hm => by
      rw [List.getElem?_eraseIdx] at hm
      have key : ∀ t, d.nodes[t]? = some n' → OwnE B w' (ev j t) n'.ents := fun t ht => own_keep (h.fil.ents j d t n' hd ht) fun g' hg' => hg.block g' (own_lt (h.fil.ents j d t n' hd ht) hg').2 (fun e => own_types (h.fil.ents j d t n' hd ht) hN (by decide) hg' (by rw [hv]; exact e.symm))
      unfold shiftV
      split at hm
      · rename_i h1; rw [if_pos h1]; exact key m hm
      · rename_i h1; rw [if_neg h1]; exact key (m + 1) hm)
    (shift_inj (fun a b g' h1 h2 => (h.fil.injE j a j b g' h1 h2).2) k) (fun m g' hg' => by
      unfold shiftV at hg'
      split at hg'
      · exact ⟨m, hg'⟩
      · exact ⟨m + 1, hg'⟩) (fun g' hg' => .inl (by rw [hv]; exact hg')) hgd
  have hset : F.set j { d with nodes := d.nodes.eraseIdx k } = onF F x.dev (fun d => dropD d x.ino) := by
    rw [hx, ← set_on hd]
    congr 1
    unfold dropD
    rw [erase_drop hAd hk hn]
  rw [hset] at hF
  have hD : w'.ownsRow B 72 2 fv F.length (drow vn 0 F) := own_keep h.fil.row fun g' hg' => hg.block g' (own_lt h.fil.row hg').2 (fun e => own_types h.fil.row hN (by decide) hg' (by rw [hv]; exact e.symm))
  have hC : w'.ownsRow B 66 7 cv l.length (crow l) := own_keep h.own fun g' hg' => hg.block g' (own_lt h.own hg').2 (fun e => own_types h.own hN (by decide) hg' (by rw [hv]; exact e.symm))
  have hE := h.ed.grown hN (by decide) hgv
  obtain ⟨cc, fz, hgc⟩ := Lib.ownsRow_kind hD gd hgd
  exact ⟨_, _, hF, hE.other (fun e => hE.ne hD (by decide) (e ▸ hgd)) _ _, own_other hC (own_types hD hC (by decide) hgd) _ _, (h.same.trans (.grown hN (.inr (.inl rfl)) hgv)).trans (.setT hgc (.inl rfl) _ _),
    below_set (h.bel.trans ((Below.refl B wx).grown hgv hB (fun g' hg' => (own_lt hN hg').1))) (own_lt h.fil.row hgd).1 _ _⟩
end
end Go.Proofs.Ytafnbpkdenjipaa.fl
