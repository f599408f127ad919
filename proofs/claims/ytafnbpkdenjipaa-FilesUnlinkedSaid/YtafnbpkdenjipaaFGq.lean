/-
  The steps of package files as plain data are the calls of the chapter.
  The step of Link as plain data is the call of the chapter.
-/
import Derived.Test.YtafnbpkdenjipaaFGu
import Derived.Test.YtafnbpkdenjipaaFGp
namespace Go.Proofs.Ytafnbpkdenjipaa.fl
open Go.Proofs.Ytafnbpkdenjipaa.pt

theorem places_one (F : FilP) (x : At) (s : ByteArray) : placesE F [(x, s)] = placeF F x s := by
  unfold placesE dirsE placeF dirF
  cases hn : nodeF F x with
  | none => simp [hn]
  | some n =>
    by_cases hk : n.kind = 2
    · by_cases hm : nm s = true
      · simp [hn, hk, hm]
      · simp [hn, hk, hm]
    · simp [hn, hk]
theorem at_look {F : FilP} {x : At} {s : ByteArray} (h : placeF F x s = 0) : (lookF F x s).2 = (if (atF F x s).isSome then 0 else 2) ∧ (lookF F x s).1 = (atF F x s).getD zA := by
  obtain ⟨n, hn, hk, -⟩ := place_zero h
  rw [look_zero hn hk, atF_some hn]
  cases findE n.ents s with
  | none => exact ⟨rfl, rfl⟩
  | some i => exact ⟨rfl, rfl⟩
theorem void_empty (F : FilP) (x : At) : voidF F x = emptyF F x := by
  unfold voidF emptyF
  cases nodeF F x with
  | none => rfl
  | some n => simp only; rw [decide_eq_decide]; exact List.length_eq_zero_iff
theorem room_full (F : FilP) {x : At} {n : NodeP} (h : nodeF F x = some n) : roomF F x = !fullF F x := by
  unfold roomF fullF
  rw [h]
  simp only
  by_cases hl : n.ents.length < 12
  · have : ¬ 12 ≤ n.ents.length := by omega
    simp [hl, this]
  · have : 12 ≤ n.ents.length := by omega
    simp [hl, this]
theorem onF_on (F : FilP) (k : Int) (f g : DevP → DevP) : onF (onF F k f) k g = onF F k (fun d => g (f d)) := by
  unfold onF
  rw [List.modify_modify_eq]
  rfl
theorem onF_eq {F : FilP} {k : Int} {d : DevP} (h : devF F k = some d) {f g : DevP → DevP} (e : f d = g d) : onF F k f = onF F k g := by
  obtain ⟨h0, h1, -⟩ := devF_of h
  unfold onF
  apply List.ext_getElem?
  intro t
  rw [List.getElem?_modify, List.getElem?_modify]
  by_cases ht : k.toNat = t
  · subst ht
    rw [h1]
    simp [e]
  · simp [ht]
theorem drop_no {l : List NodeP} {i : Int} (h : nodeL l i = none) : dropL l i = l := by
  unfold dropL
  rw [List.filter_eq_self]
  intro n hn
  simpa using node_none.1 h n hn
/-- a step that removes an entry is goneF -/
theorem gone_eq {F : FilP} {x : At} {s : ByteArray} (h : placeF F x s = 0) (h2 : (lookF F x s).2 = 0) : (goneF F x s).files = dropsF (pointF F x s zA) [pointC F x s zA] ∧ (goneF F x s).chg = [pointC F x s zA] := by
  obtain ⟨n, hn, hk, -⟩ := place_zero h
  obtain ⟨d, hd, hnd⟩ := nodeF_of hn
  have hl := (at_look h).2
  obtain ⟨i, hi, hl1⟩ := look_zero_of hn hk h2
  unfold goneF pointC
  rw [← hl, hl1]
  refine ⟨?_, rfl⟩
  show _ = dropF1 (pointF F x s zA) ⟨x, s, ⟨x.dev, i⟩, zA⟩
  have e1 : pointF F x s zA = onF F x.dev fun d => modD d x.ino (remF s) := by unfold pointF; rw [if_pos rfl]
  have e2 : devF (pointF F x s zA) x.dev = some (modD d x.ino (remF s)) := by rw [e1, devF_on hd, if_pos rfl]
  unfold dropF1
  have e3 : nodeF (pointF F x s zA) ⟨x.dev, i⟩ = nodeD (modD d x.ino (remF s)) i := nodeF_dev e2 i
  have e4 : linksF (pointF F x s zA) ⟨x.dev, i⟩ = if (nodeD (modD d x.ino (remF s)) i).isSome then linksD (modD d x.ino (remF s)) i else 0 := by
    unfold linksF
    rw [e2]
  show onF F x.dev (fun d => freeD (modD d x.ino (remF s)) i) = if (nodeF (pointF F x s zA) ⟨x.dev, i⟩).isSome = true ∧ linksF (pointF F x s zA) ⟨x.dev, i⟩ = 0 then onF (pointF F x s zA) x.dev (fun d => dropD d i) else pointF F x s zA
  rw [e3, e4]
  cases hm : nodeD (modD d x.ino (remF s)) i with
  | none =>
    rw [if_neg (by simp), e1]
    refine onF_eq hd ?_
    show freeD (modD d x.ino (remF s)) i = modD d x.ino (remF s)
    unfold freeD
    split
    · unfold dropD
      rw [drop_no hm]
    · rfl
  | some m =>
    by_cases hz : linksD (modD d x.ino (remF s)) i = 0
    · rw [if_pos ⟨rfl, (if_pos (show (some m).isSome = true from rfl)).trans hz⟩, e1, onF_on]
      refine onF_eq hd ?_
      show freeD (modD d x.ino (remF s)) i = dropD (modD d x.ino (remF s)) i
      unfold freeD
      rw [if_pos hz]
    · rw [if_neg (fun h => hz ((if_pos (show (some m).isSome = true from rfl)).symm.trans h.2)), e1]
      refine onF_eq hd ?_
      show freeD (modD d x.ino (remF s)) i = modD d x.ino (remF s)
      unfold freeD
      rw [if_neg hz]
theorem unl_eq (F : FilP) (x : At) (s : ByteArray) : (unlinkF F x s).err = unlE F x s ∧ ((unlinkF F x s).err = 0 → (unlinkF F x s).files = dropsF (pointF F x s zA) [pointC F x s zA] ∧ (unlinkF F x s).chg = [pointC F x s zA]) ∧ ((unlinkF F x s).err ≠ 0 → (unlinkF F x s).files = [] ∧ (unlinkF F x s).chg = []) := by
  unfold unlinkF unlE
  rw [places_one]
  by_cases c1 : placeF F x s ≠ 0
  · rw [if_pos c1, if_pos c1]
    exact ⟨rfl, fun h => (c1 h).elim, fun _ => ⟨rfl, rfl⟩⟩
  · rw [if_neg c1, if_neg c1]
    have c1 : placeF F x s = 0 := Classical.not_not.1 c1
    obtain ⟨k1, k2⟩ := at_look c1
    cases ha : atF F x s with
    | none =>
      rw [ha] at k1
      rw [if_pos (by rw [k1]; decide), k1]
      exact ⟨rfl, (fun h => by cases h), fun _ => ⟨rfl, rfl⟩⟩
    | some a =>
      rw [ha] at k1 k2
      have k1 : (lookF F x s).2 = 0 := k1
      have k2 : (lookF F x s).1 = a := k2
      rw [if_neg (fun h => h k1), k2]
      by_cases hd : dirF F a = true
      · rw [if_pos hd]
        refine ⟨by simp [errR, hd], (fun h => by cases h), fun _ => ⟨rfl, rfl⟩⟩
      · rw [if_neg hd]
        obtain ⟨g1, g2⟩ := gone_eq c1 k1
        refine ⟨by simp [hd, goneF], fun _ => ⟨g1, g2⟩, fun h => (h rfl).elim⟩
theorem rmd_eq (F : FilP) (x : At) (s : ByteArray) : (rmdirF F x s).err = rmdE F x s ∧ ((rmdirF F x s).err = 0 → (rmdirF F x s).files = dropsF (pointF F x s zA) [pointC F x s zA] ∧ (rmdirF F x s).chg = [pointC F x s zA]) ∧ ((rmdirF F x s).err ≠ 0 → (rmdirF F x s).files = [] ∧ (rmdirF F x s).chg = []) := by
  unfold rmdirF rmdE
  rw [places_one]
  by_cases c1 : placeF F x s ≠ 0
  · rw [if_pos c1, if_pos c1]
    exact ⟨rfl, fun h => (c1 h).elim, fun _ => ⟨rfl, rfl⟩⟩
  · rw [if_neg c1, if_neg c1]
    have c1 : placeF F x s = 0 := Classical.not_not.1 c1
    obtain ⟨k1, k2⟩ := at_look c1
    cases ha : atF F x s with
    | none =>
      rw [ha] at k1
      rw [if_pos (by rw [k1]; decide), k1]
      exact ⟨rfl, (fun h => by cases h), fun _ => ⟨rfl, rfl⟩⟩
    | some a =>
      rw [ha] at k1 k2
      have k1 : (lookF F x s).2 = 0 := k1
      have k2 : (lookF F x s).1 = a := k2
      rw [if_neg (fun h => h k1), k2]
      by_cases hd : dirF F a = false
      · rw [if_pos hd]
        refine ⟨by simp [errR, hd], (fun h => by cases h), fun _ => ⟨rfl, rfl⟩⟩
      · rw [if_neg hd]
        have hd' : dirF F a = true := by simpa using hd
        by_cases he : emptyF F a = false
        · rw [if_pos he]
          refine ⟨by simp [errR, hd', he, void_empty], (fun h => by cases h), fun _ => ⟨rfl, rfl⟩⟩
        · rw [if_neg he]
          have he' : emptyF F a = true := by simpa using he
          obtain ⟨g1, g2⟩ := gone_eq c1 k1
          refine ⟨by simp [hd', he', void_empty, goneF], fun _ => ⟨g1, g2⟩, fun h => (h rfl).elim⟩
end Go.Proofs.Ytafnbpkdenjipaa.fl
namespace Go.Proofs.Ytafnbpkdenjipaa.fl
open Go.Proofs.Ytafnbpkdenjipaa.pt

theorem OKF.zero {F : FilP} (h : OKF F) : nodeF F zA = none := by
  cases hn : nodeF F zA with
  | none => rfl
  | some n =>
    obtain ⟨d, hd, hx⟩ := nodeF_of hn
    have hd2 := h.dev hd
    have h1 : n ∈ d.nodes ∧ n.ino = 0 := by
      have hx : nodeL d.nodes 0 = some n := hx
      unfold nodeL at hx
      exact ⟨List.mem_of_find?_eq_some hx, by simpa using List.find?_some hx⟩
    have := (hd2.pre.low n h1.1).1
    omega
theorem point_none {F : FilP} {x z : At} {s : ByteArray} {y : At} {d : DevP} (hd : devF F x.dev = some d) (h : nodeF F z = none) : nodeF (pointF F x s y) z = none := by
  unfold nodeF pointF
  rw [devF_on hd]
  unfold nodeF at h
  by_cases e : z.dev = x.dev
  · rw [if_pos e]
    rw [e, hd] at h
    show nodeL (modL d.nodes x.ino (if y = zA then remF s else insF s y.ino)) z.ino = none
    rw [node_mod _ _ _ (fun n => by split <;> rfl), show nodeL d.nodes z.ino = none from h]
    rfl
  · rw [if_neg e]
    exact h
theorem lnk_eq {F : FilP} (hO : OKF F) (x : At) (s : ByteArray) (y : At) : (linkF F x s y).err = lnkE F x s y ∧ ((linkF F x s y).err = 0 → (linkF F x s y).files = dropsF (pointF F x s y) [pointC F x s y] ∧ (linkF F x s y).chg = [pointC F x s y]) ∧ ((linkF F x s y).err ≠ 0 → (linkF F x s y).files = [] ∧ (linkF F x s y).chg = []) := by
  unfold linkF lnkE
  rw [places_one]
  by_cases c1 : placeF F x s ≠ 0
  · rw [if_pos c1, if_pos c1]
    exact ⟨rfl, fun h => (c1 h).elim, fun _ => ⟨rfl, rfl⟩⟩
  · rw [if_neg c1, if_neg c1]
    have c1 : placeF F x s = 0 := Classical.not_not.1 c1
    obtain ⟨k1, k2⟩ := at_look c1
    obtain ⟨p, hp, hpk, -⟩ := place_zero c1
    obtain ⟨d, hd, -⟩ := nodeF_of hp
    cases hn : nodeF F y with
    | none => exact ⟨rfl, (fun h => by cases h), fun _ => ⟨rfl, rfl⟩⟩
    | some n =>
      have hy : y ≠ zA := fun e => by rw [e, hO.zero] at hn; cases hn
      simp only [Option.isNone_some, Bool.false_eq_true, if_false]
      by_cases c2 : y.dev ≠ x.dev
      · rw [if_pos c2, if_pos c2]
        exact ⟨rfl, (fun h => by cases h), fun _ => ⟨rfl, rfl⟩⟩
      · rw [if_neg c2, if_neg c2]
        have hdir : dirF F y = decide (n.kind = 2) := by unfold dirF; rw [hn]
        by_cases c3 : n.kind = 2
        · rw [if_pos c3, if_pos (show dirF F y = true by rw [hdir]; simpa using c3)]
          exact ⟨rfl, (fun h => by cases h), fun _ => ⟨rfl, rfl⟩⟩
        · rw [if_neg c3, if_neg (show ¬ dirF F y = true by rw [hdir]; simpa using c3)]
          cases ha : atF F x s with
          | some a =>
            rw [ha] at k1
            rw [if_pos (show (lookF F x s).2 = 0 from k1), if_pos (show (some a).isSome = true from rfl)]
            exact ⟨rfl, (fun h => by cases h), fun _ => ⟨rfl, rfl⟩⟩
          | none =>
            rw [ha] at k1
            have k1 : (lookF F x s).2 = 2 := k1
            rw [if_neg (show ¬ (lookF F x s).2 = 0 by rw [k1]; decide), if_neg (show ¬ (none : Option At).isSome = true by simp), room_full F hp]
            by_cases c4 : fullF F x = true
            · rw [if_pos c4]
              exact ⟨by simp [errR, c4], (fun h => by cases h), fun _ => ⟨rfl, rfl⟩⟩
            · rw [if_neg c4]
              have c4' : fullF F x = false := by simpa using c4
              refine ⟨by simp [c4'], fun _ => ⟨?_, ?_⟩, fun h => (h rfl).elim⟩
              · show _ = dropF1 (pointF F x s y) (pointC F x s y)
                unfold dropF1
                have e1 : (pointC F x s y).old = zA := by unfold pointC; rw [ha]; rfl
                rw [e1, point_none hd hO.zero, if_neg (by simp)]
                unfold pointF
                rw [if_neg hy]
              · unfold pointC
                rw [ha]
                rfl
end Go.Proofs.Ytafnbpkdenjipaa.fl
