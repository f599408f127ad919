/-
  The step of Make as plain data is the call of the chapter.
-/
import Derived.Test.YtihngdpgiknkaaaFMa
import Derived.Test.YtihngdpgiknkaaaFGq
namespace Go.Proofs.Ytihngdpgiknkaaa.fl
open Go.Proofs.Ytihngdpgiknkaaa.pt

theorem mk_dev {F : FilP} {x : At} {d : DevP} (hd : devF F x.dev = some d) (n : NodeP) : devF (mkF F x n) x.dev = some (addD d (newN d x.ino n)) := by
  unfold mkF
  rw [devF_on hd, if_pos rfl]
theorem mk_zero {F : FilP} (hO : OKF F) {x : At} {d : DevP} (hd : devF F x.dev = some d) (n : NodeP) : nodeF (mkF F x n) zA = none := by
  unfold nodeF mkF
  rw [devF_on hd]
  have h0 := hO.zero
  unfold nodeF at h0
  by_cases e : zA.dev = x.dev
  · rw [if_pos e]
    rw [e, hd] at h0
    show nodeL (d.nodes ++ [newN d x.ino n]) 0 = none
    rw [node_app, show nodeL d.nodes 0 = none from h0]
    have := (hO.dev hd).pre.nxt
    rw [if_neg (show ¬ (newN d x.ino n).ino = 0 by show ¬ d.next = 0; omega)]
    rfl
  · rw [if_neg e]
    exact h0
theorem mk_eq {F : FilP} (hO : OKF F) (x : At) (s : ByteArray) (n : NodeP) : (makeF F x s n).err = mkE F x s n ∧ ((makeF F x s n).err = 0 → (makeF F x s n).files = dropsF (pointF (mkF F x n) x s (mkT F x)) [pointC (mkF F x n) x s (mkT F x)] ∧ (makeF F x s n).chg = [pointC (mkF F x n) x s (mkT F x)]) ∧ ((makeF F x s n).err ≠ 0 → (makeF F x s n).files = [] ∧ (makeF F x s n).chg = []) := by
  unfold makeF mkE
  rw [places_one]
  by_cases c1 : placeF F x s ≠ 0
  · rw [if_pos c1, if_pos c1]
    exact ⟨rfl, fun h => (c1 h).elim, fun _ => ⟨rfl, rfl⟩⟩
  · rw [if_neg c1, if_neg c1]
    have c1 : placeF F x s = 0 := Classical.not_not.1 c1
    obtain ⟨k1, k2⟩ := at_look c1
    obtain ⟨p, hp, hpk, -⟩ := place_zero c1
    obtain ⟨d, hd, hpd⟩ := nodeF_of hp
    by_cases c2 : plainB n = false
    · rw [if_pos c2, if_pos c2]
      exact ⟨rfl, (fun h => by cases h), fun _ => ⟨rfl, rfl⟩⟩
    · rw [if_neg c2, if_neg c2]
      cases ha : atF F x s with
      | some a =>
        rw [ha] at k1
        rw [if_pos (show (lookF F x s).2 = 0 from k1), if_pos (show (some a).isSome = true from rfl)]
        exact ⟨rfl, (fun h => by cases h), fun _ => ⟨rfl, rfl⟩⟩
      | none =>
        rw [ha] at k1
        have k1 : (lookF F x s).2 = 2 := k1
        rw [if_neg (show ¬ (lookF F x s).2 = 0 by rw [k1]; decide), if_neg (show ¬ (none : Option At).isSome = true by simp), room_full F hp, hd]
        have hnx := (hO.dev hd).pre.nxt
        show ResP.err (if 16 ≤ d.nodes.length ∨ d.next = 1073741824 ∨ fullF F x = true then errR 28 else _) = (if 16 ≤ d.nodes.length then 28 else if 1073741824 ≤ d.next then 28 else if (!fullF F x) = true then 0 else 28) ∧ _
        by_cases c4 : 16 ≤ d.nodes.length
        · simp only [if_pos (Or.inl c4 : 16 ≤ d.nodes.length ∨ d.next = 1073741824 ∨ fullF F x = true), if_pos c4]
          exact ⟨rfl, (fun h => by cases h), fun _ => ⟨rfl, rfl⟩⟩
        · rw [if_neg c4]
          by_cases c5 : d.next = 1073741824
          · simp only [if_pos (Or.inr (Or.inl c5) : 16 ≤ d.nodes.length ∨ d.next = 1073741824 ∨ fullF F x = true)]
            rw [if_pos (show 1073741824 ≤ d.next by omega)]
            exact ⟨rfl, (fun h => by cases h), fun _ => ⟨rfl, rfl⟩⟩
          · rw [if_neg (show ¬ 1073741824 ≤ d.next by omega)]
            by_cases c6 : fullF F x = true
            · simp only [if_pos (Or.inr (Or.inr c6) : 16 ≤ d.nodes.length ∨ d.next = 1073741824 ∨ fullF F x = true)]
              rw [c6]
              exact ⟨rfl, (fun h => by cases h), fun _ => ⟨rfl, rfl⟩⟩
            · have c7 : ¬ (16 ≤ d.nodes.length ∨ d.next = 1073741824 ∨ fullF F x = true) := by
                rintro (h | h | h)
                · exact c4 h
                · exact c5 h
                · exact c6 h
              simp only [if_neg c7]
              have c6' : fullF F x = false := by simpa using c6
              rw [c6']
              have hT : mkT F x = ⟨x.dev, d.next⟩ := by unfold mkT; rw [hd]
              have hz : mkT F x ≠ zA := fun e => by
                rw [hT] at e
                injection e with _ e
                omega
              have hat : atF (mkF F x n) x s = none := by
                have hp2 : nodeF (mkF F x n) x = some p := by
                  rw [show x = (⟨x.dev, x.ino⟩ : At) from rfl, nodeF_dev (mk_dev hd n)]
                  show nodeL (d.nodes ++ [newN d x.ino n]) x.ino = some p
                  rw [node_app, show nodeL d.nodes x.ino = some p from hpd]
                  rfl
                rw [atF_some hp2]
                rw [atF_some hp] at ha
                exact ha
              refine ⟨rfl, fun _ => ⟨?_, ?_⟩, fun h => (h rfl).elim⟩
              · show _ = dropF1 (pointF (mkF F x n) x s (mkT F x)) (pointC (mkF F x n) x s (mkT F x))
                unfold dropF1
                have e1 : (pointC (mkF F x n) x s (mkT F x)).old = zA := by unfold pointC; rw [hat]; rfl
                rw [e1, point_none (mk_dev hd n) (mk_zero hO hd n), if_neg (by simp)]
                unfold pointF mkF
                rw [if_neg hz, onF_on, hT]
                refine onF_eq hd ?_
                rfl
              · unfold pointC
                rw [hat, hT]
                rfl
end Go.Proofs.Ytihngdpgiknkaaa.fl
