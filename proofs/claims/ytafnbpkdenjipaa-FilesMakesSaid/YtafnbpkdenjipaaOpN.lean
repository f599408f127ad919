/-
  A node that came in as an argument, and numbers behind a box.
-/
import Derived.Test.YtafnbpkdenjipaaFGl
import Derived.Test.YtafnbpkdenjipaaSrc
import Derived.Lib.SmallJoins
import Derived.OpenShut
namespace Go.Proofs.Ytafnbpkdenjipaa.fl
open Go.RowKit Go.ChangeShapes Go.WideShapes Go.Proofs.Ytafnbpkdenjipaa.cm Go.Proofs.Ytafnbpkdenjipaa.sr

theorem array8 {α : Type} {cs : Array α} (h : cs.size = 8) : ∃ c0 c1 c2 c3 c4 c5 c6 c7, cs = #[c0, c1, c2, c3, c4, c5, c6, c7] := by
  obtain ⟨l⟩ := cs
  match l, h with
  | [c0, c1, c2, c3, c4, c5, c6, c7], _ => exact ⟨c0, c1, c2, c3, c4, c5, c6, c7, rfl⟩

set_option maxRecDepth 100000 in
/-- a node by value -/
theorem open_node {H : Type} {enc : TypeId × Value → H} {w : World} {base b0 : Nat} {spare : Nat → Bool} {held : Bool} {r : Reach} {v : Value} {d : DataW H} {p : List MemPlace} (hv : Value.okWide Try.prog w r b0 43 v) (h : DataW.Trod enc Try.prog w base spare held 43 v d p) :
    ∃ (n : NodeP) (ra : Option Addr) (rl rc : Nat), v = .agg #[.int .i64 n.ino, .int .i64 n.kind, .int .i64 n.mode, .int .i64 n.uid, .int .i64 n.gid, .int .i64 n.parent, .string n.target, .slice ra rl rc] := by
  obtain ⟨cs, rfl, hsz⟩ := okWide_struct Try.underlying43 hv
  obtain ⟨c0, c1, c2, c3, c4, c5, c6, c7, rfl⟩ := array8 (hsz.trans (by kernel_rfl))
  obtain ⟨fuel, hf⟩ := h
  obtain ⟨xs, n, _, _, _, hxl, hf⟩ := DataW.trod_struct Try.underlying43 hf
  have hx8 : xs.length = 8 := hxl
  match xs, hx8 with
  | [y0, y1, y2, y3, y4, y5, y6, y7], _ =>
    have h0 := hf 0 _ rfl
    have h1 := hf 1 _ rfl
    have h2 := hf 2 _ rfl
    have h3 := hf 3 _ rfl
    have h4 := hf 4 _ rfl
    have h5 := hf 5 _ rfl
    have h6 := hf 6 _ rfl
    have h7 := hf 7 _ rfl
    simp only [List.getElem?_cons_zero, List.getElem?_cons_succ] at h0 h1 h2 h3 h4 h5 h6 h7
    obtain ⟨n0, e0, -, -⟩ := DataW.trod_int Try.underlying3 h0
    obtain ⟨n1, e1, -, -⟩ := DataW.trod_int Try.underlying3 h1
    obtain ⟨n2, e2, -, -⟩ := DataW.trod_int Try.underlying3 h2
    obtain ⟨n3, e3, -, -⟩ := DataW.trod_int Try.underlying3 h3
    obtain ⟨n4, e4, -, -⟩ := DataW.trod_int Try.underlying3 h4
    obtain ⟨n5, e5, -, -⟩ := DataW.trod_int Try.underlying3 h5
    obtain ⟨s6, e6, -, -⟩ := DataW.trod_string Try.underlying9 h6
    obtain ⟨ra, rl, rc, e7⟩ := Go.Joins.slice_form Try.underlying41 h7
    cases e0
    cases e1
    cases e2
    cases e3
    cases e4
    cases e5
    cases e6
    cases e7
    exact ⟨⟨n0, n1, n2, n3, n4, n5, s6, []⟩, ra, rl, rc, rfl⟩
theorem nums_below {w w' : World} {a : Option Addr} {len : Nat} (h : Nums w a len) (hb : Below w.heap.size w w') : Nums w' a len := by
  rcases h with h | ⟨b, o, ha, h1, h2, h3⟩
  · exact .inl h
  · exact .inr ⟨b, o, ha, Nat.lt_of_lt_of_le h1 hb.size, h2, fun j hj => by
      obtain ⟨x, hx, hx2⟩ := h3 j hj
      exact ⟨x, cell_stays hx hb, hx2⟩⟩
end Go.Proofs.Ytafnbpkdenjipaa.fl
