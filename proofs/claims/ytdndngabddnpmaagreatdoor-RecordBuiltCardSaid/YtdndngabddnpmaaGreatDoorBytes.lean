/-
  Rows of bytes of the call's own, and strings made of them.
-/
import Derived.Test.YtdndngabddnpmaaGreatDoorDec
import Derived.Laws.IdiomStrings
import Derived.Lib.UnsafeStr
import Derived.StillTailTactics
import Derived.OwnWalk
import Derived.Deep.RegionLaw
namespace Go.Proofs.YtdndngabddnpmaaGreatDoor.cm
open Go.RowKit Go.Lib

theorem infoB : (Tryz.prog.info? 5).map (fun i => (i.zero, i.size, i.bytes)) = some (some (.int .u8 0), 1, 1) := by kernel_rfl

theorem own_cells {w : World} {B E : Nat} {v : Value} {xs : List Value} {n : Nat} (h : w.ownsRow B E 1 v n xs) (hn : n ≠ 0) :
    ∃ g cap, v = .slice (some ⟨g, 0, none⟩) n cap ∧ (B ≤ g ∧ g < w.heap.size) ∧ n ≤ cap ∧ ∀ (j : Nat) x, xs[j]? = some x → w.cell? ⟨g, 0 + j, none⟩ = some x := by
  have hlt := h.lt
  have hc := @World.ownsRow.cells _ _ _ _ _ _ _ h
  rcases h.2 with ⟨_, h0⟩ | ⟨g, cap, cur, rfl, hg, hb, hcap, _, _, _⟩
  · exact absurd h0 hn
  · refine ⟨g, cap, rfl, hlt g rfl, hcap, fun j x hj => ?_⟩
    have := hc (g := g) rfl j x hj
    cases j with
    | zero => simpa [Addr.add] using this
    | succ j => simpa [Addr.add] using this

theorem own_far {w : World} {B E z n g : Nat} {v : Value} {xs : List Value} (h : w.ownsRow B E z v n xs) (hg : g < B) : v.ownBlock ≠ some g := fun hc => by
  have := (h.lt _ hc).1
  omega

/-- the string of a row of bytes -/
theorem own_text {w : World} {B : Nat} {v : Value} {l : List UInt8} (h : w.ownsRow B 5 1 v l.length (byteCells l)) :
    (convert 36 9 v).run Tryz.prog w = .ok (.string ⟨l.toArray⟩) w := by
  by_cases h0 : l = []
  · subst h0
    have hz : ∃ a c, v = .slice a 0 c := by
      rcases h.2 with ⟨h1, _⟩ | ⟨g, cap, cur, h1, _⟩
      · exact ⟨none, 0, h1⟩
      · exact ⟨_, cap, h1⟩
    obtain ⟨a, c, rfl⟩ := hz
    rw [run_convert_bytes_string w 36 9 5 a 0 c Tryz.underlying36 Tryz.underlying5 Tryz.underlying9]
    cases a <;> rfl
  · obtain ⟨g, cap, rfl, _, _, hc⟩ := own_cells h (by simpa using h0)
    exact run_convert_bytes_back w 36 9 5 ⟨g, 0, none⟩ cap l Tryz.underlying36 Tryz.underlying5 Tryz.underlying9 (fun j hj => by
      have := hc j (.int .u8 (l[j].toNat : Int)) (by simp [byteCells, hj])
      cases j with
      | zero => simpa [Addr.add] using this
      | succ j => simpa [Addr.add] using this)

/-- a row of one byte, again and again -/
theorem rep_text (W : World) (g m cap : Nat) (c : UInt8) (h : ∀ j, j < m → W.cell? ⟨g, j, none⟩ = some (.int .u8 (c.toNat : Int))) :
    (convert 36 9 (.slice (some ⟨g, 0, none⟩) m cap)).run Tryz.prog W = .ok (.string ⟨(List.replicate m c).toArray⟩) W := by
  have := run_convert_bytes_back (P := Tryz.prog) W 36 9 5 ⟨g, 0, none⟩ cap (List.replicate m c) Tryz.underlying36 Tryz.underlying5 Tryz.underlying9 (fun j hj => by
    rw [List.length_replicate] at hj
    have := h j hj
    cases j with
    | zero => simpa [Addr.add] using this
    | succ j => simpa [Addr.add] using this)
  rwa [List.length_replicate] at this


/-- a row of bytes is a string -/
theorem text_ex (W : World) (g n cap : Nat) (h : ∀ j, j < n → ∃ v : UInt8, W.cell? ⟨g, j, none⟩ = some (.int .u8 (v.toNat : Int))) :
    ∃ X : ByteArray, X.size = n ∧ (convert 36 9 (.slice (some ⟨g, 0, none⟩) n cap)).run Tryz.prog W = .ok (.string X) W := by
  have hf : ∃ f : Nat → UInt8, ∀ j, j < n → W.cell? ⟨g, j, none⟩ = some (.int .u8 ((f j).toNat : Int)) :=
    ⟨fun j => if hj : j < n then Classical.choose (h j hj) else 0, fun j hj => by dsimp only; rw [dif_pos hj]; exact Classical.choose_spec (h j hj)⟩
  obtain ⟨f, hf⟩ := hf
  refine ⟨⟨((List.range n).map f).toArray⟩, by show ((List.range n).map f).toArray.size = n; rw [List.size_toArray, List.length_map, List.length_range], ?_⟩
  have := run_convert_bytes_back (P := Tryz.prog) W 36 9 5 ⟨g, 0, none⟩ cap ((List.range n).map f) Tryz.underlying36 Tryz.underlying5 Tryz.underlying9 (fun j hj => by
    have hj' : j < n := by simpa using hj
    have := hf j hj'
    cases j with
    | zero => simpa [Addr.add] using this
    | succ j => simpa [Addr.add] using this)
  rwa [List.length_map, List.length_range] at this

/-- '[]byte(s)': a new row of the string's bytes -/
theorem bytes_new (W : World) (s : ByteArray) : ∃ (W2 : World) (cp : Nat), (convert 9 36 (.string s)).run Tryz.prog W = .ok (.slice (some ⟨W.heap.size, 0, none⟩) s.size cp) W2 ∧ Below W.heap.size W W2 ∧ W.heap.size < W2.heap.size ∧
    (∀ j, j < s.size → ∃ v : UInt8, W2.cell? ⟨W.heap.size, j, none⟩ = some (.int .u8 (v.toNat : Int))) ∧ (∀ j, j < s.size → W2.frozen? ⟨W.heap.size, j, none⟩ = false) := by
  have hr := run_bytes_of_string (P := Tryz.prog) W 9 36 5 s Tryz.underlying9 Tryz.underlying36 Tryz.underlying5
  generalize hcp : grownCap W s.size 0 5 = cp at hr
  have hrow : s.size ≤ (bytesRow s cp).size := by unfold bytesRow; simp only [Array.size_append, Array.size_map]; exact Nat.le_add_right _ _
  have hat : ∀ j (hj : j < s.size), (bytesRow s cp)[j]? = some (.int .u8 ((s[j].toNat : Nat) : Int)) := fun j hj => by
    have hj2 : j < s.data.size := hj
    have hsz : j < (s.data.map (fun b => Value.int .u8 (b.toNat : Int))).size := by simpa using hj2
    unfold bytesRow
    rw [Array.getElem?_append_left hsz, Array.getElem?_eq_getElem hsz, Array.getElem_map]
    rfl
  generalize bytesRow s cp = row at *
  refine ⟨_, _, hr, ((Below.refl _ _).drew).alloc (Nat.le_refl _) _, by simp [World.alloc], fun j hj => ⟨s[j], ?_⟩, fun j hj => ?_⟩
  · have hb : (W.drew.alloc (.cells row 5 (row.size, row.size + 1))).heap[W.heap.size]? = some (.cells row 5 (row.size, row.size + 1)) := by
      show (W.heap.push _)[W.heap.size]? = _
      simp
    generalize W.drew.alloc (.cells row 5 (row.size, row.size + 1)) = V at *
    simp [World.cell?, hb, hat j hj]
  · have hb : (W.drew.alloc (.cells row 5 (row.size, row.size + 1))).heap[W.heap.size]? = some (.cells row 5 (row.size, row.size + 1)) := by
      show (W.heap.push _)[W.heap.size]? = _
      simp
    generalize W.drew.alloc (.cells row 5 (row.size, row.size + 1)) = V at *
    simp [World.frozen?, hb]
    omega
end Go.Proofs.YtdndngabddnpmaaGreatDoor.cm
