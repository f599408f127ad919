/-
  Numbers of pairs: parseNumber of package value and ReadNumber of its reference.
-/
import Derived.Test.YtdndngabddnpmaaGreatDoorParP
import Derived.Test.YtdndngabddnpmaaGreatDoorStrCut
import Derived.Shelf.Strconv.AtoiAll
namespace Go.Proofs.YtdndngabddnpmaaGreatDoor.vl
open Go.RowKit Go.Proofs.YtdndngabddnpmaaGreatDoor.cm

/-- what the walks of Parse know of the world besides -/
structure Env2 (w : World) : Prop where
  env : Env w
  syn : ∃ te pe, w.cell? ⟨4, 0, none⟩ = some (.iface te pe)
  rng : ∃ te pe, w.cell? ⟨5, 0, none⟩ = some (.iface te pe)
theorem cell_lt {w : World} {b o : Nat} {v : Value} (h : w.cell? ⟨b, o, none⟩ = some v) : b < w.heap.size := World.block_lt_of_cell? w ⟨b, o, none⟩ h
theorem Env2.below {w w' : World} (h : Env2 w) (hb : Below w.heap.size w w') : Env2 w' := by
  obtain ⟨t1, p1, h1⟩ := h.syn
  obtain ⟨t2, p2, h2⟩ := h.rng
  exact ⟨h.env.below hb, ⟨t1, p1, (hb.cell (p := ⟨4, 0, none⟩) (cell_lt h1)).trans h1⟩, ⟨t2, p2, (hb.cell (p := ⟨5, 0, none⟩) (cell_lt h2)).trans h2⟩⟩

/-- a text that is no number -/
def NoNum (w : World) (e : Ending) (w' : World) : Prop := ∃ m : Int, e = .returned (.tuple #[.int .i64 m, .bool false]) ∧ Below w.heap.size w w'

set_option maxHeartbeats 1000000 in
theorem parseNumber_some (s : ByteArray) (w : World) (n : Int) (hs : s.size ≤ 100000) (hE : Env2 w) (h : numI s.data.toList = some n) :
    Calls Tryz.prog 96 #[.string s] w fun e w' => e = .returned (.tuple #[.int .i64 n, .bool true]) ∧ Below w.heap.size w w' := by
  obtain ⟨hn, hi⟩ := numI_some h
  have ha : Lib.atoiAll s.data.toList = .ok n := by rw [← hi]; exact atoi_itoa n hn
  have C1 := Lib.hid (Tryz.strconv_Atoi_ok s (by omega) n ha w)
  have HE := Lib.hid hE
  have C2 := fun W (h : Env W) => itoa_any n W hn h.pow
  rw [hi] at C2
  rw [show (⟨s.data.toList.toArray⟩ : ByteArray) = s from rfl] at C2
  have C2 := Lib.hid C2
  clear h hi ha hE
  go_enter Tryz.func96, Tryz.ntmps96
  go_wp2_with fail
  refine C1.out.mono ?_
  rintro e w1 ⟨rfl, hw⟩
  have hb : Below w.heap.size w w1 := by
    rcases hw with rfl | ⟨t, rfl⟩
    · exact Below.refl _ _
    · exact Lib.bytesWorld_below _ _ _
  clear hw
  go_wp2_with fail
  refine (C2.out _ (HE.out.env.below hb)).mono ?_
  rintro e w2 ⟨rfl, hb2⟩
  go_wp2_with fail
  go_ret2
  exact ⟨rfl, hb.trans (hb2.mono hb.size)⟩

set_option maxHeartbeats 2000000 in
theorem parseNumber_none (s : ByteArray) (w : World) (hs : s.size ≤ 100000) (hE : Env2 w) (h : numI s.data.toList = none) :
    Calls Tryz.prog 96 #[.string s] w (NoNum w) := by
  have FIN : Hid (∀ (m : Int) (w' : World), Below w.heap.size w w' → NoNum w (.returned (.tuple #[.int .i64 m, .bool false])) w') := Lib.hid (fun m w' h => ⟨m, rfl, h⟩)
  have HE := Lib.hid hE
  obtain ⟨t1, p1, h1⟩ := hE.syn
  obtain ⟨t2, p2, h2⟩ := hE.rng
  cases ha : Lib.atoiAll s.data.toList
  case ok v =>
    have hv := Lib.atoiAll_bounds ha
    have hn : isInt v := ⟨by omega, by omega⟩
    have C1 := Lib.hid (Tryz.strconv_Atoi_ok s (by omega) v ha w)
    have C2 := fun W (h : Env W) => itoa_any v W hn h.pow
    have hne : ((⟨(Lib.itoa v).toArray⟩ : ByteArray).toList == s.toList) = false := by
      rw [beq_str]
      apply decide_eq_false
      intro hc
      have : numI s.data.toList = some v := (numI_iff _ v hn).2 (by rw [← hc])
      rw [h] at this; cases this
    generalize (⟨(Lib.itoa v).toArray⟩ : ByteArray) = X at *
    have C2 := Lib.hid C2
    clear h ha hE h1 h2 hv
    go_enter Tryz.func96, Tryz.ntmps96
    go_wp2_with fail
    refine C1.out.mono ?_
    rintro e w1 ⟨rfl, hw⟩
    have hb : Below w.heap.size w w1 := by
      rcases hw with rfl | ⟨t, rfl⟩
      · exact Below.refl _ _
      · exact Lib.bytesWorld_below _ _ _
    clear hw
    go_wp2_with fail
    refine (C2.out _ (HE.out.env.below hb)).mono ?_
    rintro e w2 ⟨rfl, hb2⟩
    go_wp2_with fail
    go_ret2
    exact FIN.out _ _ (hb.trans (hb2.mono hb.size))
  case range =>
    have C1 := Lib.hid (Tryz.strconv_Atoi_range s (by omega) ha _ w h2 (.inr ⟨_, _, rfl⟩))
    generalize Lib.atoiSat s.data.toList = sat at *
    clear h ha hE h1 h2
    go_enter Tryz.func96, Tryz.ntmps96
    go_wp2_with fail
    refine C1.out.mono ?_
    rintro e w1 ⟨N, rfl, hN, hblk, hb⟩
    clear hblk
    go_wp2_with fail
    go_ret2
    exact FIN.out _ _ hb
  all_goals
    have C1 := Lib.hid (Any.strconv_Atoi_syntax Tryz.laysC172 s (by omega) ha _ w h1 (.inr ⟨_, _, rfl⟩))
    clear h ha hE h1 h2
    go_enter Tryz.func96, Tryz.ntmps96
    go_wp2_with fail
    refine C1.out.mono ?_
    rintro e w1 ⟨N, rfl, hN, hblk, hb⟩
    clear hblk
    go_wp2_with fail
    go_ret2
    exact FIN.out _ _ hb

theorem wrap64_eq (n : Int) : wrap64 n = IntKind.i64.wrap n := by rw [IntKind.wrap_i64]; unfold wrap64; first | rfl | omega

theorem stepI_dig (a : Int) (b : UInt8) (h : digB b = true) : stepI a b = wrap64 (wrap64 (a * 10) - ((b.toNat : Int) - 48)) := by unfold stepI; rw [if_pos h, wrap64_eq, wrap64_eq]
theorem stepI_no (a : Int) (b : UInt8) (h : digB b = false) : stepI a b = a := by unfold stepI; rw [if_neg (by rw [h]; simp)]
theorem fold_snoc (s : ByteArray) (k : Nat) (h : k < s.size) : (s.data.toList.take (k + 1)).foldl stepI 0 = stepI ((s.data.toList.take k).foldl stepI 0) s[k] := by
  rw [List.take_succ_eq_append_getElem (by rw [bytes_len]; exact h), List.foldl_append]
  rfl
theorem val64 {a b : Int} (h : a = b) : Value.int .i64 a = Value.int .i64 b := by rw [h]

/-- whether a number's text is the text that it was read of -/
def rnB (s : ByteArray) : Bool := decide (Lib.itoa (readI s.data.toList) = s.data.toList)
theorem rnB_eq (s : ByteArray) : ((⟨(Lib.itoa (readI s.data.toList)).toArray⟩ : ByteArray).toList == s.toList) = rnB s := by
  rw [beq_str]
  unfold rnB
  rw [Bool.eq_iff_iff]
  simp only [decide_eq_true_eq]
  constructor
  · intro h; exact congrArg (fun b => b.data.toList) h
  · intro h; exact (bytes_of h.symm).symm

theorem first_is {s : ByteArray} (h : 0 < s.size) : ((s[0].toNat : Int) == 45) = decide (s.data.toList.getD 0 0 = 45) := head_is h 45

set_option maxHeartbeats 4000000 in
theorem rRead_core (s : ByteArray) (w : World) (a : Int) (hs : s.size ≤ maxLen) (ha : downI s.data.toList = a) :
    Calls Tryz.prog 53 #[.string s] w fun e w' => e = .returned (.tuple #[.int .i64 (readI s.data.toList), .bool (rnB s)]) ∧ w = w' := by
  unfold maxLen at hs
  have HB := rnB_eq s
  have CN := Lib.hid (fun W => Number_any (readI s.data.toList) W (readI_int _))
  have HR : Hid (readI s.data.toList = if 0 < s.data.toList.length ∧ s.data.toList.getD 0 0 ≠ 45 then IntKind.i64.wrap (-a) else a) := Lib.hid (by unfold readI; rw [ha])
  have HL := Lib.hid (bytes_len s)
  have HD : Hid (s.size ≤ 20 → s.data.toList.foldl stepI 0 = a) := Lib.hid (fun h => by rw [← ha]; unfold downI; rw [if_neg (by rw [bytes_len]; omega)])
  have HZ : Hid (20 < s.size → a = 0) := Lib.hid (fun h => by rw [← ha]; unfold downI; rw [if_pos (by rw [bytes_len]; omega)])
  generalize readI s.data.toList = r at *
  generalize (⟨(Lib.itoa r).toArray⟩ : ByteArray) = X at *
  have hx : 0 < s.size → True := fun _ => trivial
  clear ha hx
  go_enter Tryz.func53, Tryz.ntmps53
  go_wp2_with fail
  go_loop [4, 5] (fun v i => ∃ (k : Nat) (x : Int), k ≤ s.size ∧ i = .int .i64 (k : Int) ∧ v = .int .i64 x ∧ Hid (x = (s.data.toList.take k).foldl stepI 0) ∧ Hid (20 < s.size → k = 0)) (fun _ i => s.size - (intOf i).toNat)
  case atStart => exact ⟨0, 0, Nat.zero_le _, rfl, rfl, Lib.hid rfl, Lib.hid (fun _ => rfl)⟩
  case round =>
    obtain ⟨k, x, hk, rfl, rfl, HX, HK⟩ := hrel
    by_cases hlt : k < s.size ∧ s.size ≤ 20
    · obtain ⟨hlt, h20⟩ := hlt
      have HS := Lib.hid (fold_snoc s k hlt)
      have HK2 : Hid (20 < s.size → k + 1 = 0) := Lib.hid (fun h => by omega)
      cases hd : digB s[k]
      · have HN := Lib.hid (stepI_no x s[k] hd)
        rcases dig_no hd with h1 | ⟨h1, h2⟩
        all_goals
          clear hd
          go_wp2
          exact ⟨⟨k + 1, _, by omega, by go_num, rfl, Lib.hid (by rw [HS.out, ← HX.out, HN.out]), HK2⟩, by simp [intOf]; omega⟩
      · have HN := Lib.hid (stepI_dig x s[k] hd)
        obtain ⟨h1, h2⟩ := dig_yes hd
        clear hd
        go_wp2
        exact ⟨⟨k + 1, _, by omega, by go_num, rfl, Lib.hid (by rw [HS.out, ← HX.out, HN.out]), HK2⟩, by simp [intOf]; omega⟩
    · have hxa : x = a := by
        rw [HX.out]
        by_cases h20 : 20 < s.size
        · rw [HK.out h20, HZ.out h20]; rfl
        · rw [List.take_of_length_le (by rw [HL.out]; omega), HD.out (by omega)]
      subst hxa
      have hex : (s.size ≤ k) ∨ (k < s.size ∧ 20 < s.size) := by omega
      by_cases h0 : s.size = 0
      · have hr : r = x := by rw [HR.out, if_neg (by rw [HL.out]; omega)]
        subst hr
        clear hlt
        rcases hex with hex | ⟨hex, hex2⟩
        · go_wp2_with fail
          refine (CN.out _).mono ?_
          rintro e w' ⟨rfl, rfl⟩
          go_wp2_with fail
          go_ret2
          exact ⟨rfl, rfl⟩
        · omega
      · have hpos : 0 < s.size := by omega
        have hf := first_is hpos
        by_cases h45 : s.data.toList.getD 0 0 = 45
        · have hr : r = x := by rw [HR.out, if_neg (by rw [HL.out]; intro hc; exact hc.2 h45)]
          subst hr
          rw [decide_eq_true h45] at hf
          clear hlt h45
          rcases hex with hex | ⟨hex, hex2⟩
          all_goals
            go_wp2_with fail
            refine (CN.out _).mono ?_
            rintro e w' ⟨rfl, rfl⟩
            go_wp2_with fail
            go_ret2
            exact ⟨rfl, rfl⟩
        · have hr : r = wrap64 (-x) := by rw [HR.out, if_pos (by rw [HL.out]; exact ⟨hpos, h45⟩), wrap64_eq]
          subst hr
          rw [decide_eq_false h45] at hf
          clear hlt h45
          rcases hex with hex | ⟨hex, hex2⟩
          all_goals
            go_wp2_with fail
            refine (CN.out _).mono ?_
            rintro e w' ⟨rfl, rfl⟩
            go_wp2_with fail
            go_ret2
            exact ⟨rfl, rfl⟩
theorem rRead_any (s : ByteArray) (w : World) (hs : s.size ≤ maxLen) :
    Calls Tryz.prog 53 #[.string s] w fun e w' => e = .returned (.tuple #[.int .i64 (readI s.data.toList), .bool (rnB s)]) ∧ w = w' := rRead_core s w _ hs rfl
end Go.Proofs.YtdndngabddnpmaaGreatDoor.vl
