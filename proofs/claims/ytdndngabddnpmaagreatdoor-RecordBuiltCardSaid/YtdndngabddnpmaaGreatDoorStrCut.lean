/-
  strings.Cut at one byte.
-/
import Derived.Test.YtdndngabddnpmaaGreatDoorDec
import Derived.Test.YtdndngabddnpmaaGreatDoorCut
import Derived.Test.YtdndngabddnpmaaGreatDoorShelf
import Derived.IntWalk
namespace Go.Proofs.YtdndngabddnpmaaGreatDoor.cm
open Go.RowKit

/-- a text cut at the first byte c -/
def cut2 (c : UInt8) (s : ByteArray) : ByteArray × ByteArray × Bool :=
  if Lib.indexByte s.data.toList c = -1 then (s, ⟨#[]⟩, false)
  else (s.extract 0 (Lib.indexByte s.data.toList c).toNat, s.extract ((Lib.indexByte s.data.toList c).toNat + 1) s.size, true)

theorem cut2_none {c : UInt8} {s : ByteArray} (h : Lib.indexByte s.data.toList c = -1) : cut2 c s = (s, ⟨#[]⟩, false) := by unfold cut2; rw [if_pos h]
theorem cut2_some {c : UInt8} {s : ByteArray} {i : Nat} (h : Lib.indexByte s.data.toList c = (i : Int)) : cut2 c s = (s.extract 0 i, s.extract (i + 1) s.size, true) := by
  unfold cut2; rw [if_neg (by omega), h]; rfl

theorem ret_cut {a a' b b' : ByteArray} {f f' : Bool} (h : (a, b, f) = (a', b', f')) : Ending.returned (.tuple #[.string a, .string b, .bool f]) = .returned (.tuple #[.string a', .string b', .bool f']) := by
  cases h; rfl

theorem slcut_any (c : UInt8) (s : ByteArray) (w : World) (hs : s.size ≤ 100000) :
    Calls Tryz.prog 75 #[.string s, .string ⟨#[c]⟩] w fun e w' => e = .returned (.tuple #[.string (cut2 c s).1, .string (cut2 c s).2.1, .bool (cut2 c s).2.2]) ∧ ∃ k, w' = w.drewN k := by
  have C := Tryz.stringslite_Index_one s c w
  rcases rg.index_cases s c with hi | ⟨i, hi⟩
  · have HC := Lib.hid (cut2_none hi)
    rw [hi] at C
    have C1 := Lib.hid (C.mono (R' := fun e w' => e = .returned (.int .i64 (-1)) ∧ w = w') fun _ _ ⟨a, b⟩ => ⟨a, b.symm⟩)
    clear C hi
    go_enter Tryz.func75, Tryz.ntmps75
    go_wp2_with fail
    refine C1.out.mono ?_
    rintro e w' ⟨rfl, rfl⟩
    go_wp2_with fail
    go_ret3
    exact ⟨ret_cut (by rw [HC.out]), 0, rfl⟩
  · have HC := Lib.hid (cut2_some hi)
    have hlt := (rg.cutB_some c s i hi).1
    have hw1 : IntKind.i64.wrap ((i : Int) + 1) = (i : Int) + 1 := IntWalk.i64_in _ (by omega)
    have hw2 : (0 : Int) ≤ (i : Int) + 1 := by omega
    have hw3 : ((i : Int) + 1).toNat = i + 1 := by omega
    have hw4 : (i : Int) + 1 ≤ (s.size : Int) := by omega
    rw [hi] at C
    have C1 := Lib.hid (C.mono (R' := fun e w' => e = .returned (.int .i64 (i : Int)) ∧ w = w') fun _ _ ⟨a, b⟩ => ⟨a, b.symm⟩)
    clear C hi
    go_enter Tryz.func75, Tryz.ntmps75
    go_wp2_with fail
    refine C1.out.mono ?_
    rintro e w' ⟨rfl, rfl⟩
    go_wp2_with fail
    go_quiet (fail)
    go_wp2_with fail
    go_ret3
    exact ⟨ret_cut (by rw [HC.out]), _, rfl⟩

theorem strcut_any (c : UInt8) (s : ByteArray) (w : World) (hs : s.size ≤ 100000) :
    Calls Tryz.prog 64 #[.string s, .string ⟨#[c]⟩] w fun e w' => e = .returned (.tuple #[.string (cut2 c s).1, .string (cut2 c s).2.1, .bool (cut2 c s).2.2]) ∧ ∃ k, w' = w.drewN k := by
  have C := Lib.hid (slcut_any c s w hs)
  generalize cut2 c s = r at *
  obtain ⟨a, b, f⟩ := r
  go_enter Tryz.func64, Tryz.ntmps64
  go_wp2_with fail
  refine C.out.mono ?_
  rintro e w' ⟨rfl, q, rfl⟩
  go_wp2_with fail
  go_ret3
  exact ⟨rfl, q, rfl⟩

end Go.Proofs.YtdndngabddnpmaaGreatDoor.cm
