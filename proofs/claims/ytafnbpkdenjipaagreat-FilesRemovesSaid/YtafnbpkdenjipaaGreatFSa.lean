/-
  Set of package files.
  Set of package files.
-/
import Derived.Test.YtafnbpkdenjipaaGreatFGa
import Derived.Test.YtafnbpkdenjipaaGreatFVl
namespace Go.Proofs.YtafnbpkdenjipaaGreat.fl
open Go.RowKit Go.Proofs.YtafnbpkdenjipaaGreat.cm

def setAt (F : FilP) (x : At) (m u g : Int) : FilP := onF F x.dev fun d => modD d x.ino (attF m u g)
def setE (F : FilP) (x : At) (m u g : Int) : Int := if (nodeF F x).isNone then 2 else if rightsB m u g then 0 else 22
theorem setAt_mem {F : FilP} {x : At} {m u g : Int} {d : DevP} (h : d ∈ setAt F x m u g) : ∃ d0 ∈ F, d.nodes.length = d0.nodes.length ∧ (AscL d0.nodes → AscL d.nodes) ∧ ∀ n ∈ d.nodes, ∃ k ∈ d0.nodes, n.ents = k.ents := by
  unfold setAt at h
  rcases onF_mem2 h with h | ⟨d0, h0, rfl⟩
  · exact ⟨d, h, rfl, id, fun n hn => ⟨n, hn, rfl⟩⟩
  · refine ⟨d0, h0, mod_len _ _ _, fun ha => asc_modL ha _ _ (fun n => rfl), fun n hn => ?_⟩
    rcases mod_mem hn with h | ⟨k, hk, e⟩
    · exact ⟨n, h, rfl⟩
    · exact ⟨k, hk, by rw [e]; rfl⟩
theorem AscF.setAt {F : FilP} (h : AscF F) (x : At) (m u g : Int) : AscF (setAt F x m u g) := fun d hd => by
  obtain ⟨d0, h0, -, h1, -⟩ := setAt_mem hd
  exact h1 (h d0 h0)
theorem Sml.setAt {F : FilP} (h : Sml F) (x : At) (m u g : Int) : Sml (setAt F x m u g) := by
  refine ⟨by unfold fl.setAt; rw [onF_len]; exact h.len, fun d hd => ?_, fun d hd n hn => ?_⟩
  · obtain ⟨d0, h0, e, -⟩ := setAt_mem hd
    rw [e]
    exact h.nodes d0 h0
  · obtain ⟨d0, h0, -, -, e⟩ := setAt_mem hd
    obtain ⟨k, hk, e⟩ := e n hn
    rw [e]
    exact h.ents d0 h0 k hk

theorem FilesO.frozN {B : Nat} {w : World} {v : Value} {F : FilP} {vn : Nat → Value} {ev : Nat → Nat → Value} (h : FilesO B w v F vn ev) {j : Nat} {d : DevP} (hd : F[j]? = some d) {g : Nat} (hg : (vn j).ownBlock = some g) (o : Nat) : w.frozen? ⟨g, o, none⟩ = false := by
  have hN := h.nodes j d hd
  obtain ⟨cap, hv⟩ := own_form hN hg
  have h2 : w.ownsRow B 53 8 (vn j) d.nodes.length (nrow (ev j) 0 d.nodes) := hN
  rw [hv] at h2
  exact h2.frozenAt _
/-- three fields of a node -/
theorem FilesO.setAtt {B : Nat} {w : World} {v : Value} {F : FilP} {vn : Nat → Value} {ev : Nat → Nat → Value} (h : FilesO B w v F vn ev) {j : Nat} {d : DevP} (hd : F[j]? = some d) {k : Nat} {n : NodeP} (hk : d.nodes[k]? = some n) {g : Nat} (hg : (vn j).ownBlock = some g) (m u r : Int) :
    FilesO B (((w.setCell ⟨g, k * 8 + 2, none⟩ (.int .i64 m)).setCell ⟨g, k * 8 + 3, none⟩ (.int .i64 u)).setCell ⟨g, k * 8 + 4, none⟩ (.int .i64 r)) v (F.set j (setN d k (attF m u r n))) vn ev := by
  have e : ∀ a b : NodeP, (F.set j (setN d k a)).set j (setN (setN d k a) k b) = F.set j (setN d k b) := fun a b => by
    rw [List.set_set]
    congr 1
    unfold setN
    simp only [List.set_set]
  have h1 := h.setNode hd hk (n' := { n with mode := m }) (c := 2) (by omega) (u := .int .i64 m) (fun _ => rfl) rfl hg
  have h2 := h1.setNode (setN_at hd _) (setN_node hk _) (n' := { n with mode := m, uid := u }) (c := 3) (by omega) (u := .int .i64 u) (fun _ => rfl) rfl hg
  rw [e] at h2
  have h3 := h2.setNode (setN_at hd _) (setN_node hk _) (n' := attF m u r n) (c := 4) (by omega) (u := .int .i64 r) (fun _ => rfl) rfl hg
  rw [e] at h3
  exact h3

end Go.Proofs.YtafnbpkdenjipaaGreat.fl
namespace Go.Proofs.YtafnbpkdenjipaaGreat.fl
open Go.RowKit Go.Proofs.YtafnbpkdenjipaaGreat.cm

theorem set_eq {F : FilP} (hO : OKF F) (x : At) (m u g : Int) : (setFF F x m u g).2 = setE F x m u g ∧ ((setFF F x m u g).2 = 0 → (setFF F x m u g).1 = dropsF (setAt F x m u g) []) ∧ ((setFF F x m u g).2 ≠ 0 → (setFF F x m u g).1 = []) := by
  unfold setFF setE
  cases hn : nodeF F x with
  | none => exact ⟨rfl, (fun h => by cases h), fun _ => rfl⟩
  | some n =>
    obtain ⟨d, hd, hx⟩ := nodeF_of hn
    have hm : n ∈ d.nodes := by
      have hx : nodeL d.nodes x.ino = some n := hx
      unfold nodeL at hx
      exact List.mem_of_find?_eq_some hx
    have hp := (hO.dev hd).pre.plain n hm
    have e : plainB (attF m u g n) = rightsB m u g := by
      rw [plain_parts] at hp ⊢
      rw [Bool.and_eq_true, Bool.and_eq_true] at hp
      show (kindB n.kind && (rightsB m u g && targB n.kind n.target)) = _
      rw [hp.1, hp.2.2]
      simp
    simp only [e]
    cases rightsB m u g with
    | false => exact ⟨rfl, (fun h => by cases h), fun _ => rfl⟩
    | true => exact ⟨rfl, (fun _ => rfl), fun h => (h rfl).elim⟩

/-- what Set answers -/
def SetR (B : Nat) (r : FilP × Int) (w : World) (e : Ending) (w' : World) : Prop :=
  ∃ fv, e = .returned (.tuple #[.agg #[fv], .int .i64 r.2]) ∧ OutF B w' fv r.1 ∧ Below B w w'

end Go.Proofs.YtafnbpkdenjipaaGreat.fl
