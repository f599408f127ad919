/-
  mask.parseRange reads an item of a text.
-/
import Derived.Test.YtjckgehlojcinaaDoorNum
import Derived.Test.YtjckgehlojcinaaDoorCut
import Derived.IntWalk
namespace Go.Proofs.YtjckgehlojcinaaDoor.mk
open Go.RowKit

/-- a text cut at the first byte c -/
def cut2 (c : UInt8) (s : ByteArray) : ByteArray × ByteArray × Bool :=
  if Lib.indexByte s.data.toList c = -1 then (s, ⟨#[]⟩, false)
  else (s.extract 0 (Lib.indexByte s.data.toList c).toNat, s.extract ((Lib.indexByte s.data.toList c).toNat + 1) s.size, true)

theorem cut2_none {c : UInt8} {s : ByteArray} (h : Lib.indexByte s.data.toList c = -1) : cut2 c s = (s, ⟨#[]⟩, false) := by unfold cut2; rw [if_pos h]
theorem cut2_some {c : UInt8} {s : ByteArray} {i : Nat} (h : Lib.indexByte s.data.toList c = (i : Int)) : cut2 c s = (s.extract 0 i, s.extract (i + 1) s.size, true) := by
  unfold cut2; rw [if_neg (by omega), h]; rfl

theorem ret_cut {a a' b b' : ByteArray} {f f' : Bool} (h : (a, b, f) = (a', b', f')) : Ending.returned (.tuple #[.string a, .string b, .bool f]) = .returned (.tuple #[.string a', .string b', .bool f']) := by
  cases h; rfl

theorem slcut_any (c : UInt8) (s : ByteArray) (w : World) (hs : s.size ≤ 100000) :
    Calls Tryd.prog 54 #[.string s, .string ⟨#[c]⟩] w fun e w' => e = .returned (.tuple #[.string (cut2 c s).1, .string (cut2 c s).2.1, .bool (cut2 c s).2.2]) ∧ ∃ k, w' = w.drewN k := by
  have C := Tryd.stringslite_Index_one s c w
  rcases rg.index_cases s c with hi | ⟨i, hi⟩
  · have HC := Lib.hid (cut2_none hi)
    rw [hi] at C
    have C1 := Lib.hid (C.mono (R' := fun e w' => e = .returned (.int .i64 (-1)) ∧ w = w') fun _ _ ⟨a, b⟩ => ⟨a, b.symm⟩)
    clear C hi
    go_enter Tryd.func54, Tryd.ntmps54
    go_wp2_with fail
    refine C1.out.mono ?_
    rintro e w' ⟨rfl, rfl⟩
    go_wp2_with fail
    go_ret3
    exact ⟨ret_cut (by rw [HC.out]), 0, rfl⟩
  · have HC := Lib.hid (cut2_some hi)
    have hlt := (rg.cutB_some c s i hi).1
    have hw1 : IntKind.i64.wrap ((i : Int) + 1) = (i : Int) + 1 := IntWalk.i64_in _ (by omega)
    have hw2 : (0 : Int) ≤ (i : Int) + 1 := by omega
    have hw3 : ((i : Int) + 1).toNat = i + 1 := by omega
    have hw4 : (i : Int) + 1 ≤ (s.size : Int) := by omega
    rw [hi] at C
    have C1 := Lib.hid (C.mono (R' := fun e w' => e = .returned (.int .i64 (i : Int)) ∧ w = w') fun _ _ ⟨a, b⟩ => ⟨a, b.symm⟩)
    clear C hi
    go_enter Tryd.func54, Tryd.ntmps54
    go_wp2_with fail
    refine C1.out.mono ?_
    rintro e w' ⟨rfl, rfl⟩
    go_wp2_with fail
    go_quiet (fail)
    go_wp2_with fail
    go_ret3
    exact ⟨ret_cut (by rw [HC.out]), _, rfl⟩

theorem strcut_any (c : UInt8) (s : ByteArray) (w : World) (hs : s.size ≤ 100000) :
    Calls Tryd.prog 46 #[.string s, .string ⟨#[c]⟩] w fun e w' => e = .returned (.tuple #[.string (cut2 c s).1, .string (cut2 c s).2.1, .bool (cut2 c s).2.2]) ∧ ∃ k, w' = w.drewN k := by
  have C := Lib.hid (slcut_any c s w hs)
  generalize cut2 c s = r at *
  obtain ⟨a, b, f⟩ := r
  go_enter Tryd.func46, Tryd.ntmps46
  go_wp2_with fail
  refine C.out.mono ?_
  rintro e w' ⟨rfl, q, rfl⟩
  go_wp2_with fail
  go_ret3
  exact ⟨rfl, q, rfl⟩

/-- first, last and whether they are a range, as mask has them -/
def rngR (s : ByteArray) : Int × Int × Bool :=
  match numO (cut2 45 s).1.data.toList with
  | none => (0, 0, false)
  | some n => if (cut2 45 s).2.2 = false then (n, n, true) else
    match numO (cut2 45 s).2.1.data.toList with
    | none => (n, 0, false)
    | some m => (n, m, decide (n ≤ m))

theorem ret_rng {a a' b b' : Int} {f f' : Bool} (h : (a, b, f) = (a', b', f')) : Ending.returned (.tuple #[.int .i64 a, .int .i64 b, .bool f]) = .returned (.tuple #[.int .i64 a', .int .i64 b', .bool f']) := by
  cases h; rfl

theorem numO_lt {l : List UInt8} {v : Nat} (h : numO l = some v) : v < 10000 := by
  unfold numO at h
  split at h
  · cases h
  · rename_i hb
    split at h
    · rename_i ha
      have := valD_take l ha 4
      have h4 : l.length ≤ 4 := by
        apply Nat.le_of_not_lt; intro hc
        exact hb (by unfold badForm; simp [hc])
      rw [List.take_of_length_le h4] at this
      cases h
      simpa using this
    · cases h

set_option maxHeartbeats 1000000 in
theorem range_any (s : ByteArray) (w : World) (hs : s.size ≤ 100000) :
    Calls Tryd.prog 36 #[.string s] w fun e w' => e = .returned (.tuple #[.int .i64 (rngR s).1, .int .i64 (rngR s).2.1, .bool (rngR s).2.2]) ∧ ∃ k, w' = w.drewN k := by
  have CC := Lib.hid (strcut_any 45 s w hs)
  have HR := Lib.hid (rfl : rngR s = rngR s)
  have hr : rngR s = match numO (cut2 45 s).1.data.toList with
    | none => (0, 0, false)
    | some n => if (cut2 45 s).2.2 = false then (n, n, true) else
      match numO (cut2 45 s).2.1.data.toList with
      | none => (n, 0, false)
      | some m => (n, m, decide (n ≤ m)) := rfl
  have CA := fun W => number_any (cut2 45 s).1 W
  have CB := fun W => number_any (cut2 45 s).2.1 W
  generalize cut2 45 s = r at *
  obtain ⟨x, y, f⟩ := r
  dsimp only at hr CA CB
  generalize rngR s = R at *
  clear HR
  cases hA : numO x.data.toList with
  | none =>
    rw [hA] at hr
    rw [numR_none hA] at CA
    dsimp only at CA hr
    have CA1 := Lib.hid CA
    clear CA CB hA
    subst hr
    go_enter Tryd.func36, Tryd.ntmps36
    go_wp2_with fail
    refine CC.out.mono ?_
    rintro e w' ⟨rfl, q, rfl⟩
    go_wp2_with fail
    refine (CA1.out _).mono ?_
    rintro e w' ⟨rfl, rfl⟩
    go_wp2_with fail
    go_ret3
    exact ⟨rfl, q, rfl⟩
  | some n =>
    rw [hA] at hr
    rw [numR_some hA] at CA
    dsimp only at CA hr
    have CA1 := Lib.hid CA
    have hn := numO_lt hA
    clear CA hA
    cases f
    · clear CB
      rw [if_pos rfl] at hr
      subst hr
      go_enter Tryd.func36, Tryd.ntmps36
      go_wp2_with fail
      refine CC.out.mono ?_
      rintro e w' ⟨rfl, q, rfl⟩
      go_wp2_with fail
      refine (CA1.out _).mono ?_
      rintro e w' ⟨rfl, rfl⟩
      go_wp2_with fail
      go_ret3
      exact ⟨rfl, q, rfl⟩
    · rw [if_neg (by decide)] at hr
      cases hB : numO y.data.toList with
      | none =>
        rw [hB] at hr
        rw [numR_none hB] at CB
        dsimp only at CB hr
        have CB1 := Lib.hid CB
        clear CB hB
        subst hr
        go_enter Tryd.func36, Tryd.ntmps36
        go_wp2_with fail
        refine CC.out.mono ?_
        rintro e w' ⟨rfl, q, rfl⟩
        go_wp2_with fail
        refine (CA1.out _).mono ?_
        rintro e w' ⟨rfl, rfl⟩
        go_wp2_with fail
        refine (CB1.out _).mono ?_
        rintro e w' ⟨rfl, rfl⟩
        go_wp2_with fail
        go_ret3
        exact ⟨rfl, q, rfl⟩
      | some m =>
        rw [hB] at hr
        rw [numR_some hB] at CB
        dsimp only at CB hr
        have CB1 := Lib.hid CB
        have hm := numO_lt hB
        clear CB hB
        have HRR := Lib.hid hr
        clear hr
        go_enter Tryd.func36, Tryd.ntmps36
        go_wp2_with fail
        refine CC.out.mono ?_
        rintro e w' ⟨rfl, q, rfl⟩
        go_wp2_with fail
        refine (CA1.out _).mono ?_
        rintro e w' ⟨rfl, rfl⟩
        go_wp2_with fail
        refine (CB1.out _).mono ?_
        rintro e w' ⟨rfl, rfl⟩
        go_wp2_with fail
        all_goals
          go_ret3
          exact ⟨ret_rng (by rw [HRR.out] <;> simp), q, rfl⟩
end Go.Proofs.YtjckgehlojcinaaDoor.mk
