/-
  Types of package record and of its reference return the numbers of the table.
-/
import Derived.Test.YtiappccnjblcmaaDoorRTab
import Derived.OwnWalk
namespace Go.Proofs.YtiappccnjblcmaaDoor.rd
open Go.RowKit Go.Proofs.YtiappccnjblcmaaDoor.cm Go.Proofs.YtiappccnjblcmaaDoor.vl

def kInts (k : Nat) : List Value := (List.range k).map fun j => Value.int .i64 (kNum j)
theorem kInts_succ (k : Nat) : kInts (k + 1) = kInts k ++ [Value.int .i64 (kNum k)] := by unfold kInts; rw [List.range_succ, List.map_append]; rfl
theorem infoInt : (Tryd.prog.info? 3).map (fun i => (i.zero, i.size, i.bytes)) = some (some (.int .i64 0), 1, 8) := by kernel_rfl

/-- what Types answers -/
def TypesR (w : World) (e : Ending) (w' : World) : Prop := ∃ g cap, e = .returned (.slice (some ⟨g, 0, none⟩) 10 cap) ∧ w.heap.size ≤ g ∧ (∀ j, j < 10 → w'.cell? ⟨g, j, none⟩ = some (.int .i64 (kNum j))) ∧ Below w.heap.size w w'
theorem types_of {w w' : World} {v : Value} (h : w'.ownsRow w.heap.size 3 1 v 10 (kInts 10)) (hb : Below w.heap.size w w') : TypesR w (.returned v) w' := by
  rcases h.2 with ⟨_, h0⟩ | ⟨g, cap, cur, rfl, hg, _, _⟩
  · cases h0
  · refine ⟨g, cap, rfl, hg, fun j hj => ?_, hb⟩
    rw [h.cellAt j (by omega)]
    unfold kInts
    simp [hj]

set_option maxRecDepth 100000 in
set_option maxHeartbeats 4000000 in
theorem Types_any (w : World) (hT : RecT w) : Calls Tryd.prog 8 #[] w (TypesR w) := by
  obtain ⟨i0, hi, hz0, hz1, hz2⟩ := info_parts infoInt
  have HR : Hid (∀ W, Below w.heap.size w W → W.rangeAt 0 0 recCells) := Lib.hid (fun W hb => (hT.below hb hT.pos).at_)
  have FIN := Lib.hid (fun w' v (h : w'.ownsRow w.heap.size 3 1 v 10 (kInts 10)) (hb : Below w.heap.size w w') => types_of h hb)
  clear hT
  go_enter Tryd.func8, Tryd.ntmps8
  go_wp2_with (first
    | (at_make; refine wpList_make_own _ rfl _ _ 22 rfl w.heap.size 3 i0 (.int .i64 0) 1 Tryd.underlying22 hi hz0 hz1 .i64 .i64 _ 10 rfl rfl (by decide) (by rw [hz2]; decide) (by unfold maxLen; decide) (Nat.le_refl _) ?_; intro w0 hown0 hgrow0)
    | (refine wpList_load_mid rfl 55 (.global 0) rfl 0 0 rfl recCells _ (HR.out _ ((Below.refl _ _).grown hgrow0 (Nat.le_refl _) (fun k hk => by cases hk))) Tryd.underlying55 rfl (by kernel_rfl) ?_)
    | fail)
  have hb0 : Below w.heap.size w w0 := (Below.refl _ _).grown hgrow0 (Nat.le_refl _) (fun k hk => by cases hk)
  clear hgrow0
  go_loopw [1, 6] (fun v i wr => ∃ k : Nat, k ≤ 10 ∧ i = .int .i64 k ∧ wr.ownsRow w.heap.size 3 1 v k (kInts k) ∧ Below w.heap.size w wr) (fun _ i _ => 10 - (intOf i).toNat)
  case atStart => exact ⟨0, Nat.zero_le _, rfl, hown0, hb0⟩
  case round =>
    obtain ⟨k, hk, rfl, hown, hb⟩ := hrel
    clear hown0 hb0
    have hbs := hb.size
    by_cases hlt : k < 10
    · have hx := idx_kind k hlt
      have hown2 := hown.alloc (.cells #[.int .i64 (kNum k), .string (kNm k), .bool (kSg k)] 54)
      have hb2 := hb.alloc hbs (.cells #[.int .i64 (kNum k), .string (kNm k), .bool (kSg k)] 54)
      go_wp2_with (first
        | (at_builtin; refine wpList_append_own _ rfl _ _ 22 rfl w.heap.size 3 i0 (.int .i64 0) 1 8 Tryd.underlying22 hi hz0 hz1 hz2 rfl (by decide) _ _ _ rfl (hown2.alloc _) ⟨wr.heap.size + 1, 0, none⟩ 1 1 [.int .i64 (kNum k)] rfl rfl ?c4 ?c5 ?c6 ?c7 ?c8 ?_)
        | fail)
      case c4 =>
        intro j u hj
        match j, hj with
        | 0, hj => simp at hj; subst hj; simp [Addr.add]
      case c5 => intro u hu; simp at hu; subst hu; rfl
      case c6 => unfold maxLen; omega
      case c7 => omega
      case c8 => simp; omega
      intro v' w2 hown3 hgrow _
      have hb3 : Below w.heap.size w w2 := (hb2.alloc hb2.size _).grown hgrow (by simp; omega) (fun k hk => (hown.lt k hk).1)
      have HS := Lib.hid (kInts_succ k)
      clear hgrow hown hown2 hb hb2
      go_wp2_with fail
      exact ⟨⟨k + 1, by omega, by go_num, by rw [HS.out]; exact hown3, hb3⟩, by simp [intOf]; omega⟩
    · obtain rfl : k = 10 := by omega
      go_wp2_with fail
      go_ret
      exact FIN.out _ _ hown hb

set_option maxRecDepth 100000 in
set_option maxHeartbeats 4000000 in
theorem rTypes_any (w : World) : Calls Tryd.prog 9 #[] w (TypesR w) := by
  obtain ⟨i0, hi, hz0, hz1, hz2⟩ := info_parts infoInt
  have FIN := Lib.hid (fun w' v (h : w'.ownsRow w.heap.size 3 1 v 10 (kInts 10)) (hb : Below w.heap.size w w') => types_of h hb)
  have CK := Lib.hid (fun W => kinds_any W)
  go_enter Tryd.func9, Tryd.ntmps9
  go_wp2_with fail
  refine (CK.out _).mono ?_
  rintro e w1 ⟨rfl, hK, hb1⟩
  have HK := Lib.hid hK
  have hlw := hK.lt
  clear hK
  go_wp2_with fail
  go_loopw [1, 3] (fun v i wr => ∃ k : Nat, k ≤ 10 ∧ i = .int .i64 k ∧ wr.ownsRow (w.heap.size + 1) 3 1 v k (kInts k) ∧ Below (w.heap.size + 1) w1 wr) (fun _ i _ => 10 - (intOf i).toNat)
  case atStart => exact ⟨0, Nat.zero_le _, rfl, World.ownsRow_nil _ _ _ _, Below.refl _ _⟩
  case round =>
    obtain ⟨k, hk, rfl, hown, hb⟩ := hrel
    have hbs := hb.size
    by_cases hlt : k < 10
    · obtain ⟨a0, a1, a2⟩ := (HK.out.below hb (Nat.lt_succ_self _)).at_ k hlt
      have hlr : w.heap.size < wr.heap.size := by omega
      go_wp2_with (first
        | (at_builtin; refine wpList_append_own _ rfl _ _ 22 rfl (w.heap.size + 1) 3 i0 (.int .i64 0) 1 8 Tryd.underlying22 hi hz0 hz1 hz2 rfl (by decide) _ _ _ rfl (hown.alloc _) ⟨wr.heap.size, 0, none⟩ 1 1 [.int .i64 (kNum k)] rfl rfl ?c4 ?c5 ?c6 ?c7 ?c8 ?_)
        | fail)
      case c4 =>
        intro j u hj
        match j, hj with
        | 0, hj => simp at hj; subst hj; simp [Addr.add]
      case c5 => intro u hu; simp at hu; subst hu; rfl
      case c6 => unfold maxLen; omega
      case c7 => omega
      case c8 => simp; omega
      intro v' w2 hown3 hgrow _
      have hb3 : Below (w.heap.size + 1) w1 w2 := (hb.alloc (by omega) _).grown hgrow (by simp; omega) (fun k hk => (hown.lt k hk).1)
      have HS := Lib.hid (kInts_succ k)
      clear hgrow hown hb a0 a1 a2
      go_wp2_with fail
      exact ⟨⟨k + 1, by omega, by go_num, by rw [HS.out]; exact hown3, hb3⟩, by simp [intOf]; omega⟩
    · obtain rfl : k = 10 := by omega
      go_wp2_with fail
      go_ret
      exact FIN.out _ _ ⟨hown.1, hown.2.imp id (fun ⟨g, cap, cur, h1, h2, h3⟩ => ⟨g, cap, cur, h1, by omega, h3⟩)⟩ (hb1.trans (hb.mono (by omega)))
end Go.Proofs.YtiappccnjblcmaaDoor.rd
