/-
  What every layer needs of the reference of layer 1: Cut returns the pieces of a text between the bytes c.
-/
import Derived.Test.YtdndngabddnpmaaGreatDoorDec
import Derived.Test.YtdndngabddnpmaaGreatDoorCut
namespace Go.Proofs.YtdndngabddnpmaaGreatDoor.cm
open Go.RowKit

theorem infoStr : (Tryz.prog.info? 9).map (fun i => (i.zero, i.size, i.bytes)) = some (some (.string ⟨#[]⟩), 1, 16) := by kernel_rfl

/-- v is a slice of the strings xs, in memory of the call's own -/
def OwnStrs (B : Nat) (w : World) (v : Value) (xs : List ByteArray) : Prop := w.ownsRow B 9 1 v xs.length (xs.map Value.string)

set_option maxHeartbeats 1000000 in
set_option maxRecDepth 100000 in
theorem rcut_any (s : ByteArray) (c : UInt8) (w : World) (hs : s.size ≤ 100000) :
    Calls Tryz.prog 30 #[.string s, .int .u8 (c.toNat : Int)] w fun e w' => ∃ v, e = .returned v ∧ OwnStrs w.heap.size w' v (rg.cutB c s) ∧ Below w.heap.size w w' := by
  obtain ⟨i0, hi, hz0, hz1, hz2⟩ := info_parts infoStr
  go_enter Tryz.func30, Tryz.ntmps30
  go_wp2_with fail
  go_loopw [5, 6, 7] (fun v a i wr => ∃ (k f : Nat) (done : List ByteArray), k ≤ s.size ∧ f ≤ k ∧ i = .int .i64 (k : Int) ∧ a = .int .i64 (f : Int) ∧ done.length ≤ k ∧ OwnStrs w.heap.size wr v done ∧ Below w.heap.size w wr ∧
      Hid (rg.cutB c s = done ++ rg.cutB c (s.extract f s.size)) ∧ Hid (∀ j : Nat, f ≤ j → j < k → s.data.toList[j]? ≠ some c)) (fun _ _ i _ => s.size - (intOf i).toNat)
  case atStart => exact ⟨0, 0, [], Nat.zero_le _, Nat.le_refl _, rfl, rfl, Nat.le_refl _, World.ownsRow_nil _ _ _ _, Below.refl _ _, Lib.hid (by rw [rg.extract_all]; rfl), Lib.hid (fun j _ h => by omega)⟩
  case round =>
    obtain ⟨k, f, done, hk, hfk, rfl, rfl, hd, hown, hbel, HC, HN⟩ := hrel
    have hbs := hbel.size
    unfold OwnStrs at hown
    by_cases hlt : k < s.size
    · have hl : k < s.data.toList.length := by rw [bytes_len]; exact hlt
      have hat : s.data.toList[k]? = some s[k] := by rw [List.getElem?_eq_getElem hl]; rfl
      by_cases he : s[k] = c
      · have HA := Lib.hid (rg.cutB_at c s f k hfk (by rw [hat, he]) HN.out)
        have he' : ((s[k].toNat : Int) == (c.toNat : Int)) = true := by rw [he]; simp
        clear he hat
        go_wp2_with (first
          | (at_builtin; refine wpList_append_own _ rfl _ _ 62 rfl w.heap.size 9 i0 (.string ⟨#[]⟩) 1 16 Tryz.underlying62 hi hz0 hz1 hz2 rfl (by decide) _ _ _ rfl (hown.alloc _) ⟨wr.heap.size, 0, none⟩ 1 1 [.string (s.extract f k)] rfl rfl ?c1 ?c2 ?c3 ?c4 ?c5 ?_)
          | fail)
        case c1 =>
          intro j u hj
          match j, hj with
          | 0, hj => simp at hj; subst hj; simp [Addr.add]
        case c2 => intro u hu; simp at hu; subst hu; rfl
        case c3 => unfold maxLen; omega
        case c4 => omega
        case c5 => simp; omega
        intro v' w1 hown' hgrow _
        go_wp2_with fail
        refine ⟨⟨k + 1, k + 1, done ++ [s.extract f k], by omega, by omega, by go_num, by go_num, by simp; omega, ?_, ?_, Lib.hid ?_, Lib.hid (fun j h1 h2 => by omega)⟩, ?_⟩
        · unfold OwnStrs; rw [List.length_append, List.map_append]; exact hown'
        · exact ((hbel.alloc hbs _).grown hgrow (by simp; omega) (fun k hk => (hown.lt k hk).1))
        · rw [HC.out, HA.out, List.append_assoc]; rfl
        · simp [intOf]; omega
      · have HN2 : Hid (∀ j : Nat, f ≤ j → j < k + 1 → s.data.toList[j]? ≠ some c) := Lib.hid (fun j h1 h2 => by
          by_cases hj : j = k
          · subst hj; rw [hat]; intro hc; cases hc; exact he rfl
          · exact HN.out j h1 (by omega))
        have he' : ((s[k].toNat : Int) == (c.toNat : Int)) = false := by
          apply beq_eq_false_iff_ne.2
          intro hc
          exact he (UInt8.toNat_inj.1 (by omega))
        clear he hat
        go_wp2_with fail
        refine ⟨⟨k + 1, f, done, by omega, by omega, by go_num, rfl, by omega, hown, hbel, HC, HN2⟩, ?_⟩
        simp [intOf]; omega
    · have hkn : k = s.size := by omega
      have HE := Lib.hid (rg.cutB_end c s f (fun j h1 => by
        by_cases hj : j < k
        · exact HN.out j h1 hj
        · rw [List.getElem?_eq_none (by rw [bytes_len]; omega)]; simp))
      clear hkn
      go_wp2_with (first
        | (at_builtin; refine wpList_append_own _ rfl _ _ 62 rfl w.heap.size 9 i0 (.string ⟨#[]⟩) 1 16 Tryz.underlying62 hi hz0 hz1 hz2 rfl (by decide) _ _ _ rfl (hown.alloc _) ⟨wr.heap.size, 0, none⟩ 1 1 [.string (s.extract f s.size)] rfl rfl ?c1 ?c2 ?c3 ?c4 ?c5 ?_)
        | fail)
      case c1 =>
        intro j u hj
        match j, hj with
        | 0, hj => simp at hj; subst hj; simp [Addr.add]
      case c2 => intro u hu; simp at hu; subst hu; rfl
      case c3 => unfold maxLen; omega
      case c4 => omega
      case c5 => simp; omega
      intro v' w1 hown' hgrow _
      go_wp2_with fail
      go_ret
      refine ⟨_, rfl, ?_, ?_⟩
      · unfold OwnStrs; rw [HC.out, HE.out, List.length_append, List.map_append]; exact hown'
      · exact ((hbel.alloc hbs _).grown hgrow (by simp; omega) (fun k hk => (hown.lt k hk).1))
end Go.Proofs.YtdndngabddnpmaaGreatDoor.cm
