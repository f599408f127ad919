/-
  The first pair of a name: find and Get of package record, Get of its reference.
-/
import Derived.Test.YtdndngabddnpmaaGreatDoorPRow
import Derived.Deep.RegionHeld3
namespace Go.Proofs.YtdndngabddnpmaaGreatDoor.rd
open Go.RowKit Go.Proofs.YtdndngabddnpmaaGreatDoor.cm Go.Proofs.YtdndngabddnpmaaGreatDoor.vl

def zP : PairP := ⟨[], 0, 0, []⟩
def findP (ps : List PairP) (nm : ByteArray) : Option PairP := ps.find? fun p => p.name == nm.data.toList
def getP (ps : List PairP) (nm : ByteArray) : PairP := (findP ps nm).getD zP
def hasP (ps : List PairP) (nm : ByteArray) : Bool := (findP ps nm).isSome

/-- no pair before k has the name -/
def NoP (ps : List PairP) (nm : ByteArray) (k : Nat) : Prop := findP (ps.take k) nm = none
theorem NoP.zero (ps : List PairP) (nm : ByteArray) : NoP ps nm 0 := by unfold NoP findP; simp
theorem NoP.succ {ps : List PairP} {nm : ByteArray} {k : Nat} {p : PairP} (h : NoP ps nm k) (hp : ps[k]? = some p) (hn : p.name ≠ nm.data.toList) : NoP ps nm (k + 1) := by
  unfold NoP findP at *
  obtain ⟨hk, rfl⟩ := List.getElem?_eq_some_iff.1 hp
  rw [List.take_succ_eq_append_getElem hk, List.find?_append, h]
  simp [hn]
theorem NoP.hit {ps : List PairP} {nm : ByteArray} {k : Nat} {p : PairP} (h : NoP ps nm k) (hp : ps[k]? = some p) (hn : p.name = nm.data.toList) : getP ps nm = p ∧ hasP ps nm = true := by
  unfold NoP findP at h
  obtain ⟨hk, rfl⟩ := List.getElem?_eq_some_iff.1 hp
  have : findP ps nm = some ps[k] := by
    unfold findP
    have e : ps = ps.take k ++ ps[k] :: ps.drop (k + 1) := by rw [← List.drop_eq_getElem_cons hk, List.take_append_drop]
    have e2 : ps.find? (fun p => p.name == nm.data.toList) = (ps.take k ++ ps[k] :: ps.drop (k + 1)).find? (fun p => p.name == nm.data.toList) := congrArg _ e
    rw [e2, List.find?_append, h, List.find?_cons_of_pos (by simp [hn])]
    rfl
  unfold getP hasP
  rw [this]
  exact ⟨rfl, rfl⟩
theorem NoP.miss {ps : List PairP} {nm : ByteArray} (h : NoP ps nm ps.length) : getP ps nm = zP ∧ hasP ps nm = false := by
  unfold NoP at h
  rw [List.take_length] at h
  unfold getP hasP
  rw [h]
  exact ⟨rfl, rfl⟩
theorem str_beq (l : List UInt8) (s : ByteArray) : ((bs l).toList == s.toList) = decide (l = s.data.toList) := by
  rw [ByteArray.toList_eq, ByteArray.toList_eq, bs_data, Bool.eq_iff_iff]
  simp

/-- what find answers -/
def Found (ps : List PairP) (nm : ByteArray) (w : World) (e : Ending) (w' : World) : Prop :=
  e = .returned (.tuple #[.agg #[.string (bs (getP ps nm).name), .int .i64 (getP ps nm).kind, .int .i64 (getP ps nm).num, .string (bs (getP ps nm).text)], .bool (hasP ps nm)]) ∧ Below w.heap.size w w'

set_option maxRecDepth 100000 in
set_option maxHeartbeats 4000000 in
theorem find_any (a : Option Addr) (cap : Nat) (ps : List PairP) (nm : ByteArray) (w : World) (hP : PairsAt w a ps) (hl : ps.length ≤ 9223372036854775807) :
    Calls Tryz.prog 38 #[.slice a ps.length cap, .string nm] w (Found ps nm w) := by
  have FIN : Hid (∀ (k : Nat) (p : PairP) (w' : World), NoP ps nm k → ps[k]? = some p → p.name = nm.data.toList → Below w.heap.size w w' → Found ps nm w (.returned (.tuple #[.agg #[.string (bs p.name), .int .i64 p.kind, .int .i64 p.num, .string (bs p.text)], .bool true])) w') := Lib.hid (fun k p w' h hp hn hb => by
    obtain ⟨e1, e2⟩ := h.hit hp hn
    unfold Found
    rw [e1, e2]
    exact ⟨rfl, hb⟩)
  have FIN0 : Hid (∀ (w' : World), NoP ps nm ps.length → Below w.heap.size w w' → Found ps nm w (.returned (.tuple #[.agg #[.string ⟨#[]⟩, .int .i64 0, .int .i64 0, .string ⟨#[]⟩], .bool false])) w') := Lib.hid (fun w' h hb => by
    obtain ⟨e1, e2⟩ := h.miss
    unfold Found
    rw [e1, e2]
    exact ⟨rfl, hb⟩)
  have HP := Lib.hid (fun W (h : Below w.heap.size w W) => hP.below h)
  clear hP
  have hb1 : Below w.heap.size w (w.alloc (.cells #[.string ⟨#[]⟩, .int .i64 0, .int .i64 0, .string ⟨#[]⟩] 39)) := (Below.refl _ _).alloc (Nat.le_refl _) _
  have bx := Quad.new w 39 (.string ⟨#[]⟩) (.int .i64 0) (.int .i64 0) (.string ⟨#[]⟩)
  go_enter Tryz.func38, Tryz.ntmps38
  go_wp2_with fail
  go_loopw [10] (fun i wr => ∃ k : Nat, k ≤ ps.length ∧ i = .int .i64 k ∧ Hid (NoP ps nm k) ∧ Below w.heap.size w wr ∧ Quad wr w.heap.size (.string ⟨#[]⟩) (.int .i64 0) (.int .i64 0) (.string ⟨#[]⟩)) (fun i _ => ps.length - (intOf i).toNat)
  case atStart => exact ⟨0, Nat.zero_le _, rfl, Lib.hid (NoP.zero _ _), hb1, bx⟩
  case round =>
    obtain ⟨k, hk, rfl, HN, hb, tx⟩ := hrel
    by_cases hlt : k < ps.length
    · obtain ⟨b, o, p, rfl, hpk, hpa, hpo, hbl⟩ := (HP.out _ hb).get hlt
      have HPK := Lib.hid hpk
      obtain ⟨a0, a1, a2, a3⟩ := hpa
      have hb2 := hb.alloc hb.size (.cells #[.string (bs p.name), .int .i64 p.kind, .int .i64 p.num, .string (bs p.text)] 39)
      have tx1 := tx.alloc (.cells #[.string (bs p.name), .int .i64 p.kind, .int .i64 p.num, .string (bs p.text)] 39)
      have hlw := tx.lt
      have e1 := str_beq p.name nm
      have hkk : (k : Int) < (ps.length : Int) := by omega
      clear hpk hpo
      by_cases he : p.name = nm.data.toList
      · rw [decide_eq_true he] at e1
        have HF := Lib.hid (fun w' hb => FIN.out k p w' HN.out HPK.out he hb)
        clear he
        have ty := (tx.set (.string (bs p.name)) (.int .i64 p.kind) (.int .i64 p.num) (.string (bs p.text))).alloc (.cells #[.string (bs p.name), .int .i64 p.kind, .int .i64 p.num, .string (bs p.text)] 39)
        obtain ⟨c0, c1, c2, c3, f0, f1, f2, f3⟩ := tx
        obtain ⟨d0, d1, d2, d3, _, _, _, _⟩ := ty
        have hb3 := (below_set4 hb (Nat.le_refl _) (.string (bs p.name)) (.int .i64 p.kind) (.int .i64 p.num) (.string (bs p.text))).alloc (by simpa using hb.size) (.cells #[.string (bs p.name), .int .i64 p.kind, .int .i64 p.num, .string (bs p.text)] 39)
        clear tx1 hb2
        go_wp2_with fail
        exact bodyPost_ret (v := .tuple #[.agg #[.string (bs p.name), .int .i64 p.kind, .int .i64 p.num, .string (bs p.text)], .bool true]) (by simp [results, Tryz.f38, go_sem, d0, d1, d2, d3]) rfl (HF.out _ hb3)
      · rw [decide_eq_false he] at e1
        have HN2 := Lib.hid (HN.out.succ HPK.out he)
        clear he
        go_wp2_with fail
        exact ⟨⟨k + 1, by omega, by go_num, HN2, hb2, tx1⟩, by simp [intOf]; omega⟩
    · have HF := Lib.hid (fun w' hb => FIN0.out w' (by have : k = ps.length := by omega
                                                       rw [← this]; exact HN.out) hb)
      have ty := tx.set (.string ⟨#[]⟩) (.int .i64 0) (.int .i64 0) (.string ⟨#[]⟩)
      obtain ⟨c0, c1, c2, c3, f0, f1, f2, f3⟩ := tx
      obtain ⟨d0, d1, d2, d3, _, _, _, _⟩ := ty
      have hb3 := below_set4 hb (Nat.le_refl _) (.string ⟨#[]⟩) (.int .i64 0) (.int .i64 0) (.string ⟨#[]⟩)
      go_wp2_with fail
      exact bodyPost_ret (v := .tuple #[.agg #[.string ⟨#[]⟩, .int .i64 0, .int .i64 0, .string ⟨#[]⟩], .bool false]) (by simp [results, Tryz.f38, go_sem, d0, d1, d2, d3]) rfl (HF.out _ hb3)

/-- a record as a value -/
def rv (t tm sr : Int) (a : Option Addr) (n cap : Nat) : Value := .agg #[.int .i64 t, .int .i64 tm, .int .i64 sr, .slice a n cap]

end Go.Proofs.YtdndngabddnpmaaGreatDoor.rd
