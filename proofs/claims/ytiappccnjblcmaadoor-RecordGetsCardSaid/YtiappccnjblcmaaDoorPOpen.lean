/-
  What a statement's row gives of a record that came in: its pairs in memory.
-/
import Derived.Test.YtiappccnjblcmaaDoorPRow
import Derived.Deep.Slices
import Derived.Deep.Fields
import Derived.Lib.SmallJoins
import Derived.OpenShut
namespace Go.Proofs.YtiappccnjblcmaaDoor.rd
open Go.RowKit Go.ChangeShapes Go.WideShapes Go.Proofs.YtiappccnjblcmaaDoor.vl Go.Proofs.YtiappccnjblcmaaDoor.cm

section
variable {H : Type} {enc : TypeId × Value → H} {w : World} {base : Nat} {spare : Nat → Bool} {held : Bool}

set_option maxRecDepth 100000 in
/-- four cells that read as a pair are one -/
theorem open_pair {fuel : Nat} {cs : List Value} {x : DataW H × List MemPlace} (h : DataW.trod enc Tryd.prog w base spare held fuel 38 cs = some x) : ∃ p : PairP, POk p ∧ cs = pcs p := by
  obtain ⟨xs, n, _, _, hlen, hxl, hf⟩ := DataW.trod_struct Tryd.underlying38 h
  have hl4 : cs.length = 4 := hlen.trans (by kernel_rfl)
  have hx4 : xs.length = 4 := hxl
  match cs, hl4 with
  | [v0, v1, v2, v3], _ =>
    match xs, hx4 with
    | [y0, y1, y2, y3], _ =>
      have h0 := hf 0 _ rfl
      have h1 := hf 1 _ rfl
      have h2 := hf 2 _ rfl
      have h3 := hf 3 _ rfl
      simp only [List.getElem?_cons_zero, List.getElem?_cons_succ] at h0 h1 h2 h3
      obtain ⟨s0, e0, -, w0⟩ := DataW.trod_string Tryd.underlying9 h0
      obtain ⟨n1, e1, -, w1⟩ := DataW.trod_int Tryd.underlying3 h1
      obtain ⟨n2, e2, -, w2⟩ := DataW.trod_int Tryd.underlying3 h2
      obtain ⟨s3, e3, -, w3⟩ := DataW.trod_string Tryd.underlying9 h3
      cases e0
      cases e1
      cases e2
      cases e3
      unfold maxLen at w0 w3
      refine ⟨⟨s0.data.toList, n1, n2, s3.data.toList⟩, ⟨?_, ?_, ?_⟩, ?_⟩
      · show s0.data.toList.length ≤ _; rw [bytes_len]; exact w0
      · show s3.data.toList.length ≤ _; rw [bytes_len]; exact w3
      · have := bounds_i64 w2; show isInt n2; exact ⟨by omega, by omega⟩
      · show _ = [Value.string (bs s0.data.toList), .int .i64 n1, .int .i64 n2, .string (bs s3.data.toList)]
        rw [bs_of, bs_of]

theorem pick_pairs : ∀ (n : Nat) (P : Nat → PairP → Prop), (∀ j, j < n → ∃ p, P j p) → ∃ ps : List PairP, ps.length = n ∧ ∀ (j : Nat) (p : PairP), ps[j]? = some p → P j p
  | 0, _, _ => ⟨[], rfl, fun j p h => by simp at h⟩
  | n + 1, P, h => by
    obtain ⟨ps, hl, hp⟩ := pick_pairs n P (fun j hj => h j (by omega))
    obtain ⟨q, hq⟩ := h n (by omega)
    refine ⟨ps ++ [q], by simp [hl], fun j p hj => ?_⟩
    by_cases hjn : j < ps.length
    · rw [List.getElem?_append_left hjn] at hj; exact hp j p hj
    · rw [List.getElem?_append_right (by omega)] at hj
      have hj0 : j - ps.length = 0 := by
        apply Nat.eq_zero_of_not_pos
        intro hpos
        rw [List.getElem?_eq_none (by simp; omega)] at hj
        cases hj
      rw [hj0] at hj
      simp at hj
      rw [← hj, show j = n by omega]
      exact hq

/-- a slice of pairs that came in -/
theorem open_pairs {fuel : Nat} {v : Value} {x : DataW H × List MemPlace} (h : DataW.trod enc Tryd.prog w base spare held fuel 29 [v] = some x) :
    ∃ (a : Option Addr) (cap : Nat) (ps : List PairP), v = .slice a ps.length cap ∧ PairsAt w a ps ∧ ps.length ≤ cap ∧ ps.length ≤ 9223372036854775807 := by
  rcases Go.Deep.open_slice Tryd.underlying29 h with ⟨hcs, _⟩ | ⟨a, len, cap, m, n, D, Pl, hcs, _, hl, hm, hmm, _, hx⟩
  · simp at hcs
    subst hcs
    exact ⟨none, 0, [], rfl, PairsAt.nil _ _, Nat.zero_le _, by simp⟩
  · simp at hcs
    subst hcs
    have hc4 : Tryd.prog.cellsOf 38 = 4 := by kernel_rfl
    rw [hc4] at hx
    have hmlen : len ≤ m := by rw [hmm]; split <;> omega
    obtain ⟨ps, hpl, hps⟩ := pick_pairs len (fun j p => POk p ∧ ∀ i, i < 4 → w.cell? ((a.add (j * 4)).add i) = (pcs p)[i]?) (fun j hj => by
      obtain ⟨cs', hc, ht⟩ := hx j (by omega)
      obtain ⟨p, hp, rfl⟩ := open_pair ht
      obtain ⟨_, _, hat⟩ := World.cells?_some hc
      exact ⟨p, hp, hat⟩)
    subst hpl
    refine ⟨some a, cap, ps, rfl, ⟨fun p hp => ?_, ?_⟩, hl, by unfold maxLen at hm; omega⟩
    · obtain ⟨j, hj, rfl⟩ := List.getElem_of_mem hp
      exact (hps j _ (List.getElem?_eq_getElem hj)).1
    · by_cases h0 : ps = []
      · exact .inl h0
      · have hpos : 0 < ps.length := List.length_pos_iff.2 h0
        obtain ⟨b, o, spot⟩ := a
        have hspot : spot = none := by
          have h1 := (hps 0 _ (List.getElem?_eq_getElem hpos)).2 0 (by omega)
          simpa [Addr.add] using World.cell?_spot (show w.cell? (⟨b, o, spot⟩ : Addr) = some _ by simpa [Addr.add, pcs] using h1)
        subst hspot
        refine .inr ⟨b, o, rfl, fun j p hj => ?_⟩
        have hc := (hps j p hj).2
        have key : ∀ i, i < 4 → w.cell? ⟨b, o + j * 4 + i, none⟩ = (pcs p)[i]? := fun i hi => by
          have := hc i hi
          rwa [Go.WideShapes.add_plain, Go.WideShapes.add_plain] at this
        have k0 := key 0 (by omega)
        have k1 := key 1 (by omega)
        have k2 := key 2 (by omega)
        have k3 := key 3 (by omega)
        exact ⟨k0, k1, k2, k3⟩
end
end Go.Proofs.YtiappccnjblcmaaDoor.rd
