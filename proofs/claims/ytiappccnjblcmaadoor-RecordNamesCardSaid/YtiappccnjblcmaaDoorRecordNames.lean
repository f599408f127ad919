/-
  The law RecordNames: its walk.
-/
import Derived.Test.YtiappccnjblcmaaDoorRAgree
import Derived.Test.YtiappccnjblcmaaDoorRLaid
import Derived.Test.YtiappccnjblcmaaDoorTypes
namespace Go.Proofs.YtiappccnjblcmaaDoor
open Go.RowKit Go.Proofs.YtiappccnjblcmaaDoor.cm Go.Proofs.YtiappccnjblcmaaDoor.vl Go.Proofs.YtiappccnjblcmaaDoor.rd

namespace recordNames
/-- the two lists, and the old memory -/
structure LW (w : World) (g1 g2 : Nat) (W : World) : Prop where
  bel : Below w.heap.size w W
  one : ∀ j, j < 10 → W.cell? ⟨g1, j, none⟩ = some (.int .i64 (kNum j))
  two : ∀ j, j < 10 → W.cell? ⟨g2, j, none⟩ = some (.int .i64 (kNum j))
theorem LW.step {w W W' : World} {g1 g2 : Nat} (h : LW w g1 g2 W) (hb : Below W.heap.size W W') : LW w g1 g2 W' :=
  ⟨h.bel.trans (hb.mono h.bel.size), fun j hj => (hb.cell (p := ⟨g1, j, none⟩) (World.block_lt_of_cell? W ⟨g1, j, none⟩ (h.one j hj))).trans (h.one j hj), fun j hj => (hb.cell (p := ⟨g2, j, none⟩) (World.block_lt_of_cell? W ⟨g2, j, none⟩ (h.two j hj))).trans (h.two j hj)⟩

set_option maxRecDepth 100000 in
set_option maxHeartbeats 8000000 in
theorem walk (t : Int) (name : ByteArray) (w : World) (_ : (Lit.int .i64 t).wf = true) (_ : name.size ≤ maxLen) (hL : laidMetH Tryd.prog Rows.recordNamesRow.laid w) (_ : w.ShapedOpen Tryd.prog) :
    Calls Tryd.prog 3 #[.int .i64 t, .string name] w fun e w' => e = .returned (.bool true) ∧ Below w.heap.size w w' := by
  have hT : HexT w := hex_of hL (by rfl)
  have hE : EnvR w := ⟨⟨hT, pow_of hL (by rfl), pos_of hT⟩, rec_of hL (by rfl)⟩
  have HE := Lib.hid (fun W (h : Below w.heap.size w W) => hE.below h)
  have CW := Lib.hid (fun W (h : Below w.heap.size w W) => rd.awake_any W (hE.below h))
  have CT := Lib.hid (Types_any w hE.tab)
  have CR := Lib.hid (fun W => rTypes_any W)
  clear hT hE hL
  go_enter Tryd.func3, Tryd.ntmps3
  go_wp2_with fail
  refine CT.out.mono ?_
  rintro e w1 ⟨g1, cap1, rfl, hg1, hc1, hb1⟩
  have HC1 := Lib.hid hc1
  clear hc1
  go_wp2_with fail
  refine (CR.out _).mono ?_
  rintro e w2 ⟨g2, cap2, rfl, hg2, hc2, hb2⟩
  have hw : LW w g1 g2 w2 := ⟨hb1.trans (hb2.mono hb1.size), fun j hj => (hb2.cell (p := ⟨g1, j, none⟩) (World.block_lt_of_cell? w1 ⟨g1, j, none⟩ (HC1.out j hj))).trans (HC1.out j hj), hc2⟩
  clear hc2 hb1 hb2
  go_wp2_with fail
  go_loopw [7] (fun i wr => ∃ k : Nat, k ≤ 10 ∧ i = .int .i64 k ∧ LW w g1 g2 wr) (fun i _ => 10 - (intOf i).toNat)
  case atStart => exact ⟨0, Nat.zero_le _, rfl, hw⟩
  case round =>
    obtain ⟨k, hk, rfl, hr⟩ := hrel
    clear hw
    by_cases hlt : k < 10
    · have a1 := hr.one k hlt
      have a2 := hr.two k hlt
      have CN := Lib.hid (fun W (h : LW w g1 g2 W) => (Name_any (kNum k) W (HE.out _ h.bel).tab).mono (R' := fun e W' => e = .returned (.string (nameB (kNum k))) ∧ LW w g1 g2 W') fun e W' hh => ⟨hh.1, h.step hh.2⟩)
      have CM := Lib.hid (fun W (h : LW w g1 g2 W) => (rName_any (kNum k) W).mono (R' := fun e W' => e = .returned (.string (nameB (kNum k))) ∧ LW w g1 g2 W') fun e W' hh => ⟨hh.1, h.step hh.2⟩)
      have CS := Lib.hid (fun W (h : LW w g1 g2 W) => (Single_any (kNum k) W (HE.out _ h.bel).tab).mono (R' := fun e W' => e = .returned (.bool (singleT (kNum k))) ∧ LW w g1 g2 W') fun e W' hh => ⟨hh.1, h.step hh.2⟩)
      have CO := Lib.hid (fun W (h : LW w g1 g2 W) => (rSingle_any (kNum k) W).mono (R' := fun e W' => e = .returned (.bool (singleT (kNum k))) ∧ LW w g1 g2 W') fun e W' hh => ⟨hh.1, h.step hh.2⟩)
      have CU := fun W (h : LW w g1 g2 W) => (Number_any (nameB (kNum k)) W (HE.out _ h.bel).tab).mono (R' := fun e W' => e = .returned (.int .i64 (numB (nameB (kNum k)))) ∧ LW w g1 g2 W') fun e W' hh => ⟨hh.1, h.step hh.2⟩
      rw [show numB (nameB (kNum k)) = kNum k from at_name hlt (at_num hlt rfl).1.symm] at CU
      have CU := Lib.hid CU
      generalize nameB (kNum k) = N at *
      generalize singleT (kNum k) = S at *
      have k0 : (0 : Int) ≤ (k : Int) := by omega
      have k1 : (k : Int) < 10 := by omega
      have hrd := hr.step (Below.refl wr.heap.size wr).drew
      go_wp2_with fail
      go_region_held3 (fun w' => w'.cell? ⟨g1, k, none⟩ = some (.int .i64 (kNum k)) ∧ w'.cell? ⟨g2, k, none⟩ = some (.int .i64 (kNum k)))
        (first
          | go_keep
          | (go_split_ands
             refine ⟨?_, ?_⟩ <;> assumption))
        (first
          | (go_at_call 10; (with_reducible refine (CN.out _ (by assumption)).mono ?_); rintro e wN ⟨rfl, hN⟩; have n1 := hN.one k hlt; have n2 := hN.two k hlt)
          | (go_at_call 11; (with_reducible refine (CM.out _ (by assumption)).mono ?_); rintro e wM ⟨rfl, hM⟩; have m1 := hM.one k hlt; have m2 := hM.two k hlt)
          | (go_at_call 12; (with_reducible refine (CS.out _ (by assumption)).mono ?_); rintro e wS ⟨rfl, hS⟩; have s1 := hS.one k hlt; have s2 := hS.two k hlt)
          | (go_at_call 13; (with_reducible refine (CO.out _ (by assumption)).mono ?_); rintro e wO ⟨rfl, hO⟩; have o1 := hO.one k hlt; have o2 := hO.two k hlt)
          | (go_at_call 14; (with_reducible refine (CU.out _ (by assumption)).mono ?_); rintro e wU ⟨rfl, hU⟩; have u1 := hU.one k hlt; have u2 := hU.two k hlt))
      all_goals
        go_wp2_with fail
        exact ⟨⟨k + 1, by omega, by go_num, by assumption⟩, by simp [intOf]; omega⟩
    · obtain rfl : k = 10 := by omega
      have CN := Lib.hid (fun t W (h : Below w.heap.size w W) => (Name_any t W (HE.out _ h).tab).mono (R' := fun e W' => e = .returned (.string (nameB t)) ∧ Below w.heap.size w W') fun e W' hh => ⟨hh.1, h.trans (hh.2.mono h.size)⟩)
      have CM := Lib.hid (fun t W (h : Below w.heap.size w W) => (rName_any t W).mono (R' := fun e W' => e = .returned (.string (nameB t)) ∧ Below w.heap.size w W') fun e W' hh => ⟨hh.1, h.trans (hh.2.mono h.size)⟩)
      have CS := Lib.hid (fun t W (h : Below w.heap.size w W) => (Single_any t W (HE.out _ h).tab).mono (R' := fun e W' => e = .returned (.bool (singleT t)) ∧ Below w.heap.size w W') fun e W' hh => ⟨hh.1, h.trans (hh.2.mono h.size)⟩)
      have CO := Lib.hid (fun t W (h : Below w.heap.size w W) => (rSingle_any t W).mono (R' := fun e W' => e = .returned (.bool (singleT t)) ∧ Below w.heap.size w W') fun e W' hh => ⟨hh.1, h.trans (hh.2.mono h.size)⟩)
      have CU := Lib.hid (fun W (h : Below w.heap.size w W) => (Number_any name W (HE.out _ h).tab).mono (R' := fun e W' => e = .returned (.int .i64 (numB name)) ∧ Below w.heap.size w W') fun e W' hh => ⟨hh.1, h.trans (hh.2.mono h.size)⟩)
      have CV := Lib.hid (fun W (h : Below w.heap.size w W) => (rNumber_any name W).mono (R' := fun e W' => e = .returned (.int .i64 (numB name)) ∧ Below w.heap.size w W') fun e W' hh => ⟨hh.1, h.trans (hh.2.mono h.size)⟩)
      have h0 := hr.bel
      clear hr
      go_wp2_with fail
      refine (CN.out _ _ h0).mono ?_
      rintro e w1 ⟨rfl, h1⟩
      go_wp2_with fail
      refine (CM.out _ _ h1).mono ?_
      rintro e w2 ⟨rfl, h2⟩
      go_wp2_with fail
      refine (CS.out _ _ h2).mono ?_
      rintro e w3 ⟨rfl, h3⟩
      go_wp2_with fail
      refine (CO.out _ _ h3).mono ?_
      rintro e w4 ⟨rfl, h4⟩
      go_wp2_with fail
      refine (CN.out _ _ h4).mono ?_
      rintro e w5 ⟨rfl, h5⟩
      go_wp2_with fail
      refine (CM.out _ _ h5).mono ?_
      rintro e w6 ⟨rfl, h6⟩
      go_wp2_with fail
      refine (CU.out _ h6).mono ?_
      rintro e w7 ⟨rfl, h7⟩
      go_wp2_with fail
      refine (CV.out _ h7).mono ?_
      rintro e w8 ⟨rfl, h8⟩
      go_wp2_with fail
      refine (CW.out _ h8).mono ?_
      rintro e w9 ⟨rfl, hb⟩
      go_wp2_with fail
      go_ret
      exact ⟨rfl, h8.trans (hb.mono h8.size)⟩
end recordNames
end Go.Proofs.YtiappccnjblcmaaDoor
