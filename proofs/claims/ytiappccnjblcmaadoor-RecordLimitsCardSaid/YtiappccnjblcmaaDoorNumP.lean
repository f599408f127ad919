/-
  Numbers of pairs: parseNumber of package value and ReadNumber of its reference.
-/
import Derived.Test.YtiappccnjblcmaaDoorParP
import Derived.Test.YtiappccnjblcmaaDoorStrCut
import Derived.Shelf.Strconv.AtoiAll
namespace Go.Proofs.YtiappccnjblcmaaDoor.vl
open Go.RowKit Go.Proofs.YtiappccnjblcmaaDoor.cm

/-- what the walks of Parse know of the world besides -/
structure Env2 (w : World) : Prop where
  env : Env w
  syn : ∃ te pe, w.cell? ⟨4, 0, none⟩ = some (.iface te pe)
  rng : ∃ te pe, w.cell? ⟨5, 0, none⟩ = some (.iface te pe)
theorem cell_lt {w : World} {b o : Nat} {v : Value} (h : w.cell? ⟨b, o, none⟩ = some v) : b < w.heap.size := World.block_lt_of_cell? w ⟨b, o, none⟩ h
theorem Env2.below {w w' : World} (h : Env2 w) (hb : Below w.heap.size w w') : Env2 w' := by
  obtain ⟨t1, p1, h1⟩ := h.syn
  obtain ⟨t2, p2, h2⟩ := h.rng
  exact ⟨h.env.below hb, ⟨t1, p1, (hb.cell (p := ⟨4, 0, none⟩) (cell_lt h1)).trans h1⟩, ⟨t2, p2, (hb.cell (p := ⟨5, 0, none⟩) (cell_lt h2)).trans h2⟩⟩

/-- a text that is no number -/
def NoNum (w : World) (e : Ending) (w' : World) : Prop := ∃ m : Int, e = .returned (.tuple #[.int .i64 m, .bool false]) ∧ Below w.heap.size w w'

set_option maxHeartbeats 1000000 in
theorem parseNumber_some (s : ByteArray) (w : World) (n : Int) (hs : s.size ≤ 100000) (hE : Env2 w) (h : numI s.data.toList = some n) :
    Calls Tryd.prog 99 #[.string s] w fun e w' => e = .returned (.tuple #[.int .i64 n, .bool true]) ∧ Below w.heap.size w w' := by
  obtain ⟨hn, hi⟩ := numI_some h
  have ha : Lib.atoiAll s.data.toList = .ok n := by rw [← hi]; exact atoi_itoa n hn
  have C1 := Lib.hid (Tryd.strconv_Atoi_ok s (by omega) n ha w)
  have HE := Lib.hid hE
  have C2 := fun W (h : Env W) => itoa_any n W hn h.pow
  rw [hi] at C2
  rw [show (⟨s.data.toList.toArray⟩ : ByteArray) = s from rfl] at C2
  have C2 := Lib.hid C2
  clear h hi ha hE
  go_enter Tryd.func99, Tryd.ntmps99
  go_wp2_with fail
  refine C1.out.mono ?_
  rintro e w1 ⟨rfl, hw⟩
  have hb : Below w.heap.size w w1 := by
    rcases hw with rfl | ⟨t, rfl⟩
    · exact Below.refl _ _
    · exact Lib.bytesWorld_below _ _ _
  clear hw
  go_wp2_with fail
  refine (C2.out _ (HE.out.env.below hb)).mono ?_
  rintro e w2 ⟨rfl, hb2⟩
  go_wp2_with fail
  go_ret2
  exact ⟨rfl, hb.trans (hb2.mono hb.size)⟩

set_option maxHeartbeats 2000000 in
theorem parseNumber_none (s : ByteArray) (w : World) (hs : s.size ≤ 100000) (hE : Env2 w) (h : numI s.data.toList = none) :
    Calls Tryd.prog 99 #[.string s] w (NoNum w) := by
  have FIN : Hid (∀ (m : Int) (w' : World), Below w.heap.size w w' → NoNum w (.returned (.tuple #[.int .i64 m, .bool false])) w') := Lib.hid (fun m w' h => ⟨m, rfl, h⟩)
  have HE := Lib.hid hE
  obtain ⟨t1, p1, h1⟩ := hE.syn
  obtain ⟨t2, p2, h2⟩ := hE.rng
  cases ha : Lib.atoiAll s.data.toList
  case ok v =>
    have hv := Lib.atoiAll_bounds ha
    have hn : isInt v := ⟨by omega, by omega⟩
    have C1 := Lib.hid (Tryd.strconv_Atoi_ok s (by omega) v ha w)
    have C2 := fun W (h : Env W) => itoa_any v W hn h.pow
    have hne : ((⟨(Lib.itoa v).toArray⟩ : ByteArray).toList == s.toList) = false := by
      rw [beq_str]
      apply decide_eq_false
      intro hc
      have : numI s.data.toList = some v := (numI_iff _ v hn).2 (by rw [← hc])
      rw [h] at this; cases this
    generalize (⟨(Lib.itoa v).toArray⟩ : ByteArray) = X at *
    have C2 := Lib.hid C2
    clear h ha hE h1 h2 hv
    go_enter Tryd.func99, Tryd.ntmps99
    go_wp2_with fail
    refine C1.out.mono ?_
    rintro e w1 ⟨rfl, hw⟩
    have hb : Below w.heap.size w w1 := by
      rcases hw with rfl | ⟨t, rfl⟩
      · exact Below.refl _ _
      · exact Lib.bytesWorld_below _ _ _
    clear hw
    go_wp2_with fail
    refine (C2.out _ (HE.out.env.below hb)).mono ?_
    rintro e w2 ⟨rfl, hb2⟩
    go_wp2_with fail
    go_ret2
    exact FIN.out _ _ (hb.trans (hb2.mono hb.size))
  case range =>
    have C1 := Lib.hid (Tryd.strconv_Atoi_range s (by omega) ha _ w h2 (.inr ⟨_, _, rfl⟩))
    generalize Lib.atoiSat s.data.toList = sat at *
    clear h ha hE h1 h2
    go_enter Tryd.func99, Tryd.ntmps99
    go_wp2_with fail
    refine C1.out.mono ?_
    rintro e w1 ⟨N, rfl, hN, hblk, hb⟩
    clear hblk
    go_wp2_with fail
    go_ret2
    exact FIN.out _ _ hb
  all_goals
    have C1 := Lib.hid (Any.strconv_Atoi_syntax Tryd.laysC172 s (by omega) ha _ w h1 (.inr ⟨_, _, rfl⟩))
    clear h ha hE h1 h2
    go_enter Tryd.func99, Tryd.ntmps99
    go_wp2_with fail
    refine C1.out.mono ?_
    rintro e w1 ⟨N, rfl, hN, hblk, hb⟩
    clear hblk
    go_wp2_with fail
    go_ret2
    exact FIN.out _ _ hb

theorem wrap64_eq (n : Int) : wrap64 n = IntKind.i64.wrap n := by rw [IntKind.wrap_i64]; unfold wrap64; first | rfl | omega

theorem stepI_dig (a : Int) (b : UInt8) (h : digB b = true) : stepI a b = wrap64 (wrap64 (a * 10) - ((b.toNat : Int) - 48)) := by unfold stepI; rw [if_pos h, wrap64_eq, wrap64_eq]
theorem stepI_no (a : Int) (b : UInt8) (h : digB b = false) : stepI a b = a := by unfold stepI; rw [if_neg (by rw [h]; simp)]
theorem fold_snoc (s : ByteArray) (k : Nat) (h : k < s.size) : (s.data.toList.take (k + 1)).foldl stepI 0 = stepI ((s.data.toList.take k).foldl stepI 0) s[k] := by
  rw [List.take_succ_eq_append_getElem (by rw [bytes_len]; exact h), List.foldl_append]
  rfl
theorem val64 {a b : Int} (h : a = b) : Value.int .i64 a = Value.int .i64 b := by rw [h]

/-- whether a number's text is the text that it was read of -/
def rnB (s : ByteArray) : Bool := decide (Lib.itoa (readI s.data.toList) = s.data.toList)
theorem rnB_eq (s : ByteArray) : ((⟨(Lib.itoa (readI s.data.toList)).toArray⟩ : ByteArray).toList == s.toList) = rnB s := by
  rw [beq_str]
  unfold rnB
  rw [Bool.eq_iff_iff]
  simp only [decide_eq_true_eq]
  constructor
  · intro h; exact congrArg (fun b => b.data.toList) h
  · intro h; exact (bytes_of h.symm).symm

theorem first_is {s : ByteArray} (h : 0 < s.size) : ((s[0].toNat : Int) == 45) = decide (s.data.toList.getD 0 0 = 45) := head_is h 45

end Go.Proofs.YtiappccnjblcmaaDoor.vl
