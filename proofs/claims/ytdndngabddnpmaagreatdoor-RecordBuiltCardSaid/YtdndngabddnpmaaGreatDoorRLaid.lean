/-
  What the rows say of the program's table of types.
-/
import Derived.Test.YtdndngabddnpmaaGreatDoorLaid
import Derived.Test.YtdndngabddnpmaaGreatDoorRHead
namespace Go.Proofs.YtdndngabddnpmaaGreatDoor.rd
open Go.RowKit Go.Proofs.YtdndngabddnpmaaGreatDoor.vl Go.Proofs.YtdndngabddnpmaaGreatDoor.cm

def recDat (k : Nat) : DataW Unit := .agg [.lit (.int .i64 (kNum k)), .lit (.string (kNm k).data.toList), .lit (.bool (kSg k))]
theorem laid_dat : (Rows.laid_kaudit_record_recordTypes : DataW Unit) = .agg ((List.range 10).map recDat) := by rfl

set_option maxRecDepth 100000 in
theorem open_kind {enc : TypeId × Value → Unit} {W : World} {base : Nat} {sp : Nat → Bool} {held : Bool} {fuel : Nat} {cs : List Value} {n : Int} {l : List UInt8} {b : Bool} {q : List MemPlace}
    (h : DataW.trod enc Tryz.prog W base sp held fuel 92 cs = some (.agg [.lit (.int .i64 n), .lit (.string l), .lit (.bool b)], q)) : cs = [.int .i64 n, .string (bs l), .bool b] := by
  obtain ⟨xs, m, _, hx, hlen, hxl, hf⟩ := DataW.trod_struct Tryz.underlying92 h
  have hl3 : cs.length = 3 := hlen.trans (by kernel_rfl)
  have hx3 : xs.length = 3 := hxl
  match cs, hl3 with
  | [v0, v1, v2], _ =>
    match xs, hx3 with
    | [y0, y1, y2], _ =>
      have hd : (DataW.agg [.lit (.int .i64 n), .lit (.string l), .lit (.bool b)] : DataW Unit) = .agg [y0.1, y1.1, y2.1] := congrArg Prod.fst hx
      injection hd with hd
      injection hd with e0 hd
      injection hd with e1 hd
      injection hd with e2 hd
      have h0 := hf 0 _ rfl
      have h1 := hf 1 _ rfl
      have h2 := hf 2 _ rfl
      simp only [List.getElem?_cons_zero, List.getElem?_cons_succ] at h0 h1 h2
      obtain ⟨n0, g0, x0, -⟩ := DataW.trod_int Tryz.underlying3 h0
      obtain ⟨s1, g1, x1, -⟩ := DataW.trod_string Tryz.underlying9 h1
      obtain ⟨b2, g2, x2⟩ := DataW.trod_bool Tryz.underlying4 h2
      cases g0
      cases g1
      cases g2
      rw [x0] at e0
      rw [x1] at e1
      rw [x2] at e2
      injection e0 with e0
      injection e0 with _ e0
      injection e1 with e1
      injection e1 with e1
      injection e2 with e2
      injection e2 with e2
      rw [e0, e1, e2, bs_of]

set_option maxRecDepth 100000 in
theorem rec_of {W : World} {laid : List (String × DataW Unit)} (h : laidMetH Tryz.prog laid W) (hf : laid.filter (fun x => x.1 == "kaudit/record.recordTypes") = [("kaudit/record.recordTypes", Rows.laid_kaudit_record_recordTypes)]) : RecT W := by
  have h1 := laidMetH.filter (fun x => x.1 == "kaudit/record.recordTypes") h
  rw [hf, Go.MakeChecks.laidMetH_plain _ _ _ (by rfl), laid_dat] at h1
  obtain ⟨ps, ⟨g', t', cs, fuel, p, q, hg', ht', hvar, hd, _, _⟩, _⟩ := h1
  obtain rfl : 0 = g' := Option.some.inj ((show Tryz.prog.globalNamed "kaudit/record.recordTypes" = some 0 by kernel_rfl).symm.trans hg')
  obtain rfl : 101 = t' := Option.some.inj ((show (Tryz.prog.globals[0]?).map (·.type) = some 101 by kernel_rfl).symm.trans ht')
  cases fuel with
  | zero => simp [DataW.trod] at hd
  | succ fuel =>
    have hce : Tryz.prog.cellsOf 92 = 3 := by kernel_rfl
    have hct : Tryz.prog.cellsOf 101 = 30 := by kernel_rfl
    simp only [DataW.trod, Tryz.underlying101, hce, hct] at hd
    split at hd
    · rename_i hl
      obtain ⟨xs, hm, hx⟩ := Option.map_eq_some_iff.1 hd
      have hxs : xs.map (·.1) = (List.range 10).map recDat := by
        have := congrArg Prod.fst hx
        injection this
      have key : ∀ k, k < 10 → ∀ j, j < 3 → cs[k * 3 + j]? = ([.int .i64 (kNum k), .string (kNm k), .bool (kSg k)] : List Value)[j]? := by
        intro k hk j hj
        obtain ⟨b, hb, ht⟩ := Lib.mapM_at hm k k (by simp [hk])
        have hbd : b.1 = recDat k := by
          have h2 : (xs.map (·.1))[k]? = some b.1 := by simp [hb]
          rw [hxs] at h2
          simp [hk] at h2
          exact h2.symm
        obtain ⟨b1, b2⟩ := b
        dsimp only at hbd
        subst hbd
        have ho := open_kind ht
        rw [bs_of] at ho
        rw [← ho, List.getElem?_take, if_pos hj, List.getElem?_drop]
        exact Array.getElem?_toList.symm
      have hpos : 0 < W.heap.size := by
        have := World.var?_cell (by kernel_rfl : Tryz.prog.globalNamed "kaudit/record.recordTypes" = some 0) hvar 0
        have k0 := key 0 (by omega) 0 (by omega)
        refine World.block_lt_of_cell? W ⟨0, 0, none⟩ (u := .int .i64 (kNum 0)) (this.trans ?_)
        exact k0
      refine ⟨fun j v hj => ?_, hpos⟩
      have hc := World.var?_cell (by kernel_rfl : Tryz.prog.globalNamed "kaudit/record.recordTypes" = some 0) hvar j
      have hj30 : j < 30 := by
        have := (List.getElem?_eq_some_iff.1 hj).1
        rwa [show recCells.length = 30 from rfl] at this
      have hk := key (j / 3) (by omega) (j % 3) (Nat.mod_lt _ (by omega))
      have e3 : j / 3 * 3 + j % 3 = j := by omega
      rw [e3] at hk
      rw [Nat.zero_add, hc, hk, ← hj]
      have all : ∀ j < 30, recCells[j]? = ([.int .i64 (kNum (j / 3)), .string (kNm (j / 3)), .bool (kSg (j / 3))] : List Value)[j % 3]? := by
        intro j hj
        have : ∀ k < 10, ∀ i < 3, recCells[k * 3 + i]? = ([.int .i64 (kNum k), .string (kNm k), .bool (kSg k)] : List Value)[i]? := by
          intro k hk i hi
          match k, hk with
          | 0, _ => match i, hi with | 0, _ => rfl | 1, _ => rfl | 2, _ => rfl
          | 1, _ => match i, hi with | 0, _ => rfl | 1, _ => rfl | 2, _ => rfl
          | 2, _ => match i, hi with | 0, _ => rfl | 1, _ => rfl | 2, _ => rfl
          | 3, _ => match i, hi with | 0, _ => rfl | 1, _ => rfl | 2, _ => rfl
          | 4, _ => match i, hi with | 0, _ => rfl | 1, _ => rfl | 2, _ => rfl
          | 5, _ => match i, hi with | 0, _ => rfl | 1, _ => rfl | 2, _ => rfl
          | 6, _ => match i, hi with | 0, _ => rfl | 1, _ => rfl | 2, _ => rfl
          | 7, _ => match i, hi with | 0, _ => rfl | 1, _ => rfl | 2, _ => rfl
          | 8, _ => match i, hi with | 0, _ => rfl | 1, _ => rfl | 2, _ => rfl
          | 9, _ => match i, hi with | 0, _ => rfl | 1, _ => rfl | 2, _ => rfl
        have := this (j / 3) (by omega) (j % 3) (Nat.mod_lt _ (by omega))
        rwa [show j / 3 * 3 + j % 3 = j by omega] at this
      exact (all j hj30).symm
    · cases hd
end Go.Proofs.YtdndngabddnpmaaGreatDoor.rd
