/-
  The table of types of the reference: find, Name, Single, Number.
-/
import Derived.Test.YtdndngabddnpmaaGreatDoorTab
namespace Go.Proofs.YtdndngabddnpmaaGreatDoor.rd
open Go.RowKit Go.Proofs.YtdndngabddnpmaaGreatDoor.cm Go.Proofs.YtdndngabddnpmaaGreatDoor.vl

def isT (t : Int) : Bool := (findT t).isSome
/-- what find answers -/
def RFind (t : Int) (w : World) (e : Ending) (w' : World) : Prop := ∃ n : Int, e = .returned (.tuple #[.agg #[.string (nameB t), .int .i64 n, .bool (singleT t)], .bool (isT t)]) ∧ Below w.heap.size w w'

set_option maxRecDepth 100000 in
set_option maxHeartbeats 4000000 in
theorem rfind_any (t : Int) (w : World) : Calls Tryz.prog 39 #[.int .i64 t] w (RFind t w) := by
  have FIN : Hid (∀ (k : Nat) (w' : World), k < 10 → kNum k = t → Below w.heap.size w w' → RFind t w (.returned (.tuple #[.agg #[.string (kNm k), .int .i64 (kNum k), .bool (kSg k)], .bool true])) w') := Lib.hid (fun k w' hk he hb => ⟨kNum k, by unfold isT; rw [(at_num hk he).1, (at_num hk he).2, at_some hk he], hb⟩)
  have FIN0 : Hid (∀ (w' : World), NoNum 10 t → Below w.heap.size w w' → RFind t w (.returned (.tuple #[.agg #[.string ⟨#[]⟩, .int .i64 0, .bool false], .bool false])) w') := Lib.hid (fun w' h hb => ⟨0, by unfold isT; rw [(at_none h).1, (at_none h).2.1, (at_none h).2.2], hb⟩)
  have CK := Lib.hid (fun W => kinds_any W)
  go_enter Tryz.func39, Tryz.ntmps39
  go_wp2_with fail
  refine (CK.out _).mono ?_
  rintro e w1 ⟨rfl, hK, hb⟩
  have tx := (tri_of (tri_new w 73 (.string ⟨#[]⟩) (.int .i64 0) (.bool false))).below hb
  have hbw : Below w.heap.size w w1 := ((Below.refl _ _).alloc (Nat.le_refl _) (.cells #[.string ⟨#[]⟩, .int .i64 0, .bool false] 73)).trans (hb.mono (by simp))
  have HK := Lib.hid hK
  have hsz : (w.alloc (.cells #[.string ⟨#[]⟩, .int .i64 0, .bool false] 73)).heap.size = w.heap.size + 1 := by simp
  have HSZ := Lib.hid hsz
  clear hb hK hsz
  go_wp2_with fail
  go_loop [5] (fun i => ∃ k : Nat, k ≤ 10 ∧ i = .int .i64 k ∧ Hid (NoNum k t)) (fun i => 10 - (intOf i).toNat)
  case atStart => exact ⟨0, Nat.zero_le _, rfl, Lib.hid (fun j hj => by omega)⟩
  case round =>
    obtain ⟨k, hk, rfl, HN⟩ := hrel
    by_cases hlt : k < 10
    · obtain ⟨a0, a1, a2⟩ := HK.out.at_ k hlt
      rw [HSZ.out] at a0 a1 a2
      by_cases he : kNum k = t
      · have e1 : (kNum k == t) = true := by simp [he]
        have HF := Lib.hid (fun w' hb => FIN.out k w' hlt he hb)
        have ty := tx.set (.string (kNm k)) (.int .i64 (kNum k)) (.bool (kSg k))
        obtain ⟨c0, c1, c2, f0, f1, f2⟩ := tx
        obtain ⟨d0, d1, d2, _, _, _⟩ := ty
        have hb3 := ((hbw.setCell (p := ⟨w.heap.size, 0, none⟩) (Nat.le_refl _) (.string (kNm k))).setCell (p := ⟨w.heap.size, 1, none⟩) (Nat.le_refl _) (.int .i64 (kNum k))).setCell (p := ⟨w.heap.size, 2, none⟩) (Nat.le_refl _) (.bool (kSg k))
        clear he
        go_wp2_with fail
        exact bodyPost_ret (v := .tuple #[.agg #[.string (kNm k), .int .i64 (kNum k), .bool (kSg k)], .bool true]) (by simp [results, Tryz.f39, go_sem, d0, d1, d2]) rfl (HF.out _ hb3)
      · have e1 : (kNum k == t) = false := by simp [he]
        have HN2 := Lib.hid (HN.out.succ he)
        clear he
        go_wp2_with fail
        exact ⟨⟨k + 1, by omega, by go_num, HN2⟩, by simp [intOf]; omega⟩
    · obtain rfl : k = 10 := by omega
      have ty := tx.set (.string ⟨#[]⟩) (.int .i64 0) (.bool false)
      obtain ⟨c0, c1, c2, f0, f1, f2⟩ := tx
      obtain ⟨d0, d1, d2, _, _, _⟩ := ty
      have hb3 := ((hbw.setCell (p := ⟨w.heap.size, 0, none⟩) (Nat.le_refl _) (.string ⟨#[]⟩)).setCell (p := ⟨w.heap.size, 1, none⟩) (Nat.le_refl _) (.int .i64 0)).setCell (p := ⟨w.heap.size, 2, none⟩) (Nat.le_refl _) (.bool false)
      go_wp2_with fail
      exact bodyPost_ret (v := .tuple #[.agg #[.string ⟨#[]⟩, .int .i64 0, .bool false], .bool false]) (by simp [results, Tryz.f39, go_sem, d0, d1, d2]) rfl (FIN0.out _ HN.out hb3)

set_option maxRecDepth 100000 in
theorem rName_any (t : Int) (w : World) : Calls Tryz.prog 21 #[.int .i64 t] w fun e w' => e = .returned (.string (nameB t)) ∧ Below w.heap.size w w' := by
  have C := Lib.hid (rfind_any t w)
  generalize isT t = b at *
  go_enter Tryz.func21, Tryz.ntmps21
  go_wp2_with fail
  refine C.out.mono ?_
  rintro e w' ⟨n, rfl, hb⟩
  go_wp2_with fail
  go_ret
  exact ⟨rfl, hb.alloc hb.size _⟩

set_option maxRecDepth 100000 in
set_option maxHeartbeats 4000000 in
theorem rNumber_any (s : ByteArray) (w : World) : Calls Tryz.prog 31 #[.string s] w fun e w' => e = .returned (.int .i64 (numB s)) ∧ Below w.heap.size w w' := by
  have CK := Lib.hid (fun W => kinds_any W)
  go_enter Tryz.func31, Tryz.ntmps31
  go_wp2_with fail
  refine (CK.out _).mono ?_
  rintro e w1 ⟨rfl, hK, hb⟩
  have HK := Lib.hid hK
  clear hK
  go_wp2_with fail
  go_loop [4] (fun i => ∃ k : Nat, k ≤ 10 ∧ i = .int .i64 k ∧ Hid (NoNm k s)) (fun i => 10 - (intOf i).toNat)
  case atStart => exact ⟨0, Nat.zero_le _, rfl, Lib.hid (fun j hj => by omega)⟩
  case round =>
    obtain ⟨k, hk, rfl, HN⟩ := hrel
    by_cases hlt : k < 10
    · obtain ⟨a0, a1, a2⟩ := HK.out.at_ k hlt
      have e1 := nm_beq k s
      by_cases he : kNm k = s
      · rw [decide_eq_true he] at e1
        have HF := Lib.hid (at_name hlt he)
        clear he
        go_wp2_with fail
        go_ret
        exact ⟨ret_int HF.out.symm, hb⟩
      · rw [decide_eq_false he] at e1
        have HN2 := Lib.hid (HN.out.succ he)
        clear he
        go_wp2_with fail
        exact ⟨⟨k + 1, by omega, by go_num, HN2⟩, by simp [intOf]; omega⟩
    · obtain rfl : k = 10 := by omega
      have HF := Lib.hid (at_noname HN.out)
      go_wp2_with fail
      go_ret
      exact ⟨ret_int HF.out.symm, hb⟩
end Go.Proofs.YtdndngabddnpmaaGreatDoor.rd
