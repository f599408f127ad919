/-
  Texts in a row, an append of what may be empty, and the names of FilesUnlinked.
-/
import Derived.Test.YtafnbpkdenjipaaSrcL
import Derived.Test.YtafnbpkdenjipaaFWk


import Derived.Deep.AppendLies
import Derived.OpenShut
namespace Go.Proofs.Ytafnbpkdenjipaa.fl
open Go.RowKit Go.Proofs.Ytafnbpkdenjipaa.cm Go.Proofs.Ytafnbpkdenjipaa.sr Go.Proofs.Ytafnbpkdenjipaa.pt

theorem infoTx : (Try.prog.info? 9).map (fun i => (i.zero, i.size, i.bytes)) = some (some (.string ⟨#[]⟩), 1, 16) := by kernel_rfl

section
variable {P : Program} (w : World)
/-- an append at a step of a region that draws; what is appended may be empty -/
theorem step_append_at {ops : Array Oper} {o : Oper} {a : Act} {K : Act → World → Prop} {Q : Exit → Act → World → Prop} {E : Prop} (hgd : o.guard = none) (s x : Operand) (t : TypeId)
    (ho : o.op = .call { callee := .builtin .append, args := #[s, x], argTypes := #[t, t] })
    (base : Nat) (e : TypeId) (i : TypeInfo) (z : Value) (size bytes : Nat) (ht : P.underlying t = some (.slice e)) (hi : P.info? e = some i) (hz : i.zero = some z)
    (hsize : i.size = size) (hby : i.bytes = bytes) (hzs : z.cells.size = size) (hsz : 0 < size)
    (v : Value) (n : Nat) (xs : List Value) (hs : a.eval s = v) (hown : w.ownsRow base e size v n xs)
    (ad : Addr) (m c : Nat) (news : List Value) (hx : a.eval x = .slice (some ad) m c) (hl : news.length = m * size) (hnews : ∀ j u, news[j]? = some u → w.cell? (ad.add j) = some u) (h1 : ∀ u ∈ news, u.oneCell' = true)
    (h63 : n + m ≤ maxLen) (hbytes : (n + m) * bytes ≤ 140737488355328) (hbase : base ≤ w.heap.size)
    (h : ∀ v' w', w'.ownsRow base e size v' (n + m) (xs ++ news) → w.grownBy w' v.ownBlock → (v'.ownBlock = v.ownBlock ∨ v'.ownBlock = some w.heap.size) → K (a.put o.dst v') w') :
    if Region.wanted o (yielded ops a.tmps) = true then Oper.wp P o a w K Q else E := by
  have hw : Region.wanted o (yielded ops a.tmps) = true := by simp [Region.wanted, hgd]
  rw [if_pos hw]
  obtain ⟨v', w', hr, h2, h3, -, h5⟩ := run_append_own_at (P := P) w base t o.type e i z size bytes ht hi hz hsize hby hzs hsz v n xs hown ad m c news hl hnews h1 h63 hbytes hbase
  unfold Oper.wp execOp
  simp only [ho, resolve, invoke, builtin, Sem.run_bind, Sem.run_pure, Result.andThen_ok, List.map_toArray, List.map_cons, List.map_nil, hs, hx, hr]
  exact h v' w' h2 h3 h5
end

/-- texts in a row of the call's own -/
def OwnS (B : Nat) (W : World) (v : Value) (xs : List ByteArray) : Prop := W.ownsRow B 9 1 v xs.length (xs.map Value.string)
theorem OwnS.keep {B : Nat} {w w' : World} {v : Value} {xs : List ByteArray} (h : OwnS B w v xs) (hk : ∀ g, v.ownBlock = some g → w'.heap[g]? = w.heap[g]?) : OwnS B w' v xs := own_keep h hk
theorem OwnS.stay {B : Nat} {w w' : World} {v : Value} {xs : List ByteArray} (h : OwnS B w v xs) (hb : Below w.heap.size w w') : OwnS B w' v xs := h.keep fun g hg => hb.block g (own_lt h hg).2
theorem OwnS.form {B : Nat} {w : World} {v : Value} {xs : List ByteArray} (h : OwnS B w v xs) (hn : xs ≠ []) :
    ∃ g cap, v = .slice (some ⟨g, 0, none⟩) xs.length cap ∧ xs.length ≤ cap ∧ B ≤ g ∧ g < w.heap.size ∧ ∀ j x, xs[j]? = some x → w.cell? ⟨g, j, none⟩ = some (.string x) := by
  obtain ⟨a, cap, hv, hc, h0, hp⟩ := own_slice h
  cases a with
  | none => exact absurd (List.length_eq_zero_iff.1 (h0 rfl).2) hn
  | some p =>
    obtain ⟨g, rfl, -, hB, hg⟩ := hp p rfl
    refine ⟨g, cap, hv, hc, hB, hg, fun j x hj => ?_⟩
    have hl : j < xs.length := (List.getElem?_eq_some_iff.1 hj).1
    rw [own_cell h hv (by omega), List.getElem?_map, hj]
    rfl
theorem OwnS.ne_tb {B T b : Nat} {w : World} {v : Value} {xs : List ByteArray} {cs : List Value} (h : OwnS B w v xs) (t : TB T w b cs) (hT : T ≠ 9) : v.ownBlock ≠ some b := t.ne h hT
theorem OwnS.set {B T b : Nat} {w : World} {v : Value} {xs : List ByteArray} {cs : List Value} (h : OwnS B w v xs) (t : TB T w b cs) (hT : T ≠ 9) (j : Nat) (u : Value) : OwnS B (w.setCell ⟨b, j, none⟩ u) v xs := own_other h (h.ne_tb t hT) j u
theorem src_tb {W0 w : World} {b len cap k : Nat} {a : Option Addr} (h : SrcAt W0 w b a len cap k) : TB 74 w b [.slice a len cap, .int .i64 k] := h.blk
theorem OwnS.beside {B : Nat} {W0 w w' : World} {v : Value} {xs : List ByteArray} {b : Nat} {a : Option Addr} {len cap k : Nat} (h : OwnS B w v xs) (hs : SrcAt W0 w b a len cap k) (hb : Beside b w w') : OwnS B w' v xs :=
  h.keep fun g hg => hb.block g (own_lt h hg).2 fun e => h.ne_tb (src_tb hs) (by decide) (by rw [hg, e])
theorem OwnS.cat {B : Nat} {w : World} {v : Value} {xs ys : List ByteArray} {n m : Nat} (h : w.ownsRow B 9 1 v (n + m) (xs.map Value.string ++ ys.map Value.string)) (h1 : n = xs.length) (h2 : m = ys.length) : OwnS B w v (xs ++ ys) := by
  subst h1
  subst h2
  show w.ownsRow B 9 1 v (xs ++ ys).length ((xs ++ ys).map Value.string)
  rw [List.length_append, List.map_append]
  exact h
theorem texts_one (xs : List ByteArray) : ∀ u ∈ xs.map Value.string, u.oneCell' = true := fun u hu => by
  obtain ⟨x, -, rfl⟩ := List.mem_map.1 hu
  rfl
/-- one change in memory -/
theorem own_chg1 {B : Nat} {w : World} {v : Value} {c : ChgP} (h : OwnC B w v [c]) : ∃ g cap, v = .slice (some ⟨g, 0, none⟩) 1 cap ∧ w.cell? ⟨g, 5, none⟩ = some (.int .i64 c.now.dev) ∧ w.cell? ⟨g, 6, none⟩ = some (.int .i64 c.now.ino) := by
  obtain ⟨a, cap, hv, -, h0, hp⟩ := own_slice h
  cases a with
  | none => have := (h0 rfl).2; simp at this
  | some p =>
    obtain ⟨g, rfl, -⟩ := hp p rfl
    exact ⟨g, cap, hv, own_cell h hv (show 5 < 1 * 7 by decide), own_cell h hv (show 6 < 1 * 7 by decide)⟩

/-- a list without its k-th element -/
theorem less_list {L : List ByteArray} {k : Nat} (hk : k < L.length) (hn : L.Nodup) :
    ∃ s, L[k]? = some s ∧ s ∈ L ∧ (L.take k ++ L.drop (k + 1)).Nodup ∧ (L.take k ++ L.drop (k + 1)).length + 1 = L.length ∧ ∀ t, t ∈ L.take k ++ L.drop (k + 1) ↔ t ∈ L ∧ t ≠ s := by
  obtain ⟨A, s, C, rfl, rfl⟩ : ∃ A s C, L = A ++ s :: C ∧ k = A.length := ⟨L.take k, L[k], L.drop (k + 1), by rw [List.getElem_cons_drop]; exact (List.take_append_drop k L).symm, by rw [List.length_take]; omega⟩
  have e1 : (A ++ s :: C).take A.length = A := by simp
  have e2 : (A ++ s :: C).drop (A.length + 1) = C := by simp
  rw [e1, e2]
  obtain ⟨nA, nC, nAC⟩ := List.nodup_append.1 hn
  obtain ⟨ns, nC⟩ := List.nodup_cons.1 nC
  refine ⟨s, by simp, by simp, ?_, by simp; omega, fun t => ?_⟩
  · exact List.nodup_append.2 ⟨nA, nC, fun x hx y hy => nAC x hx y (List.mem_cons_of_mem _ hy)⟩
  · constructor
    · intro h
      rcases List.mem_append.1 h with h | h
      · exact ⟨List.mem_append.2 (.inl h), fun e => nAC t h s List.mem_cons_self e⟩
      · exact ⟨List.mem_append.2 (.inr (List.mem_cons_of_mem _ h)), fun e => ns (e ▸ h)⟩
    · rintro ⟨h, hne⟩
      rcases List.mem_append.1 h with h | h
      · exact List.mem_append.2 (.inl h)
      · rcases List.mem_cons.1 h with h | h
        · exact absurd h hne
        · exact List.mem_append.2 (.inr h)

def nmL : List ByteArray := [⟨#[98]⟩, ⟨#[99]⟩, ⟨#[100]⟩, ⟨#[101]⟩, ⟨#[102]⟩, ⟨#[103]⟩]
def upTo (q : Nat) : List ByteArray := ⟨#[97]⟩ :: nmL.take q
theorem upTo_next : ∀ q, q < 6 → ∃ s, nmL[q]? = some s ∧ nm s = true ∧ s ∉ upTo q ∧ upTo (q + 1) = upTo q ++ [s] ∧ (upTo q).length = q + 1
  | 0, _ => ⟨_, rfl, by decide, by decide, rfl, rfl⟩
  | 1, _ => ⟨_, rfl, by decide, by decide, rfl, rfl⟩
  | 2, _ => ⟨_, rfl, by decide, by decide, rfl, rfl⟩
  | 3, _ => ⟨_, rfl, by decide, by decide, rfl, rfl⟩
  | 4, _ => ⟨_, rfl, by decide, by decide, rfl, rfl⟩
  | 5, _ => ⟨_, rfl, by decide, by decide, rfl, rfl⟩
theorem upTo_all : ∀ q, q < 6 → (upTo q).Nodup ∧ (∀ s ∈ upTo q, nm s = true) ∧ (upTo q).length = q + 1
  | 0, _ => ⟨by decide, by decide, rfl⟩
  | 1, _ => ⟨by decide, by decide, rfl⟩
  | 2, _ => ⟨by decide, by decide, rfl⟩
  | 3, _ => ⟨by decide, by decide, rfl⟩
  | 4, _ => ⟨by decide, by decide, rfl⟩
  | 5, _ => ⟨by decide, by decide, rfl⟩
/-- what is left: some names, or none and no file -/
def LeftS (F : FilP) (L : List ByteArray) : Prop := (L ≠ [] ∧ ∃ d p m, NamesS F d p m L) ∨ (L = [] ∧ nodeF F ⟨0, 2⟩ = none ∧ linksF F ⟨0, 2⟩ = 0)
end Go.Proofs.Ytafnbpkdenjipaa.fl
