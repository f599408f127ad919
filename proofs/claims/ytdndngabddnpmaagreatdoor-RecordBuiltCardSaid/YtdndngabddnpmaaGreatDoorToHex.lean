/-
  toHex writes two digits for each byte.
-/
import Derived.Test.YtdndngabddnpmaaGreatDoorHex
import Derived.Test.YtdndngabddnpmaaGreatDoorBytes
import Derived.Deep.RegionHeld3
import Derived.Deep.AppendLies
import Derived.Deep.DrawnRows
namespace Go.Proofs.YtdndngabddnpmaaGreatDoor.vl
open Go.RowKit Go.Proofs.YtdndngabddnpmaaGreatDoor.cm Go.Lib
attribute [local go_sem ↓] Go.wp_at_zero Go.wp_at_succ

theorem hexL_append : ∀ (a b : List UInt8), hexL (a ++ b) = hexL a ++ hexL b
  | [], b => rfl
  | x :: a, b => by simp [hexL, hexL_append a b]

theorem hexL_snoc (s : ByteArray) (k : Nat) (h : k < s.size) : hexL (s.data.toList.take (k + 1)) = hexL (s.data.toList.take k) ++ [hx (s[k].toNat / 16), hx (s[k].toNat % 16)] := by
  rw [List.take_succ_eq_append_getElem (by rw [bytes_len]; exact h), hexL_append]
  rfl

theorem and15 (b : UInt8) : bits .and .u8 (b.toNat : Int) 15 = ((b.toNat % 16 : Nat) : Int) := by
  have : ∀ m < 256, bits .and .u8 ((m : Nat) : Int) 15 = ((m % 16 : Nat) : Int) := by decide +kernel
  exact this b.toNat b.toNat_lt

set_option maxRecDepth 100000 in
set_option maxHeartbeats 4000000 in
theorem toHex_any (s : ByteArray) (w : World) (hs : s.size ≤ 100000) (hT : HexT w) (h0 : 1 < w.heap.size) :
    Calls Tryz.prog 73 #[.string s] w fun e w' => e = .returned (.string ⟨(hexL s.data.toList).toArray⟩) ∧ Below w.heap.size w w' := by
  obtain ⟨i0, hi, hz0, hz1, hz2⟩ := info_parts infoB
  have HT := Lib.hid hT
  clear hT
  go_enter Tryz.func73, Tryz.ntmps73
  go_wp2_with (at_make; refine wpList_make_own _ rfl _ _ 36 rfl w.heap.size 5 i0 (.int .u8 0) 1 Tryz.underlying36 hi hz0 hz1 .i64 .i64 _ (2 * s.size) rfl rfl (by push_cast; omega) (by rw [hz2]; omega) (by unfold maxLen; omega) (Nat.le_refl _) ?_; intro w0 hown0 hgrow0)
  have hb0 : Below w.heap.size w w0 := (Below.refl _ _).grown hgrow0 (by simp) (fun k hk => by cases hk)
  clear hgrow0
  go_loopw [3, 11] (fun v i wr => ∃ k : Nat, k ≤ s.size ∧ i = .int .i64 k ∧ wr.ownsRow w.heap.size 5 1 v (2 * k) (byteCells (hexL (s.data.toList.take k))) ∧ Below w.heap.size w wr) (fun _ i _ => s.size - (intOf i).toNat)
  case atStart => exact ⟨0, Nat.zero_le _, rfl, hown0, hb0⟩
  case round =>
    obtain ⟨k, hk, rfl, hown, hbel⟩ := hrel
    have hbs := hbel.size
    by_cases hlt : k < s.size
    · have hk0 : (0 : Int) ≤ (k : Int) := by omega
      have hk1 : (k : Int) < (s.size : Int) := by omega
      have hx1 : s[k].toNat / 16 < 16 := by have := s[k].toNat_lt; omega
      have hx2 : s[k].toNat % 16 < 16 := Nat.mod_lt _ (by omega)
      have HW := HT.out.below hbel h0
      have c1 := HW _ hx1
      have c2 := HW _ hx2
      clear HW
      have HX := Lib.hid (hexL_snoc s k hlt)
      have hd1 : (s[k].toNat : Int) / 16 = ((s[k].toNat / 16 : Nat) : Int) := by omega
      have hd2 : bits .and .u8 (s[k].toNat : Int) 15 = ((s[k].toNat % 16 : Nat) : Int) := and15 s[k]
      generalize s[k].toNat / 16 = n1 at *
      generalize s[k].toNat % 16 = n2 at *
      have a1 : (0 : Int) ≤ (n1 : Int) := by omega
      have a2 : (n1 : Int) < 16 := by omega
      have a3 : (0 : Int) ≤ (n2 : Int) := by omega
      have a4 : (n2 : Int) < 16 := by omega
      have hne := own_far hown h0
      have hg0 : 1 < wr.heap.size := by omega
      have HL := Lib.hid (hexL_len (s.data.toList.take k))
      have HK := Lib.hid (show (s.data.toList.take k).length = k by rw [List.length_take, bytes_len]; omega)
      go_wp2_with fail
      go_region_held3 (fun w' => w'.cell? ⟨1, n1, none⟩ = some (.int .u8 ((hx n1).toNat : Int)) ∧ w'.cell? ⟨1, n2, none⟩ = some (.int .u8 ((hx n2).toNat : Int)))
        (first
          | go_keep
          | (go_split_ands
             refine ⟨?_, ?_⟩
             · (rw [hgrow.cell_far _ (by first | (simp; done) | (simp; omega)) (Ne.symm hne)]; assumption)
             · (rw [hgrow.cell_far _ (by first | (simp; done) | (simp; omega)) (Ne.symm hne)]; assumption)))
        ((refine step_append_lies _ (by rfl) _ _ _ (by rfl) w.heap.size 5 i0 _ 1 1 Tryz.underlying36 hi hz0 hz1 hz2 rfl (by omega) _ (2 * k) _ (by rfl) ((hown.alloc _).drew)
            ⟨wr.heap.size, 0, none⟩ 2 2 [.int .u8 ((hx n1).toNat : Int), .int .u8 ((hx n2).toNat : Int)] (by rfl) (by rfl) (World.news_of_block (cs := #[.int .u8 ((hx n1).toNat : Int), .int .u8 ((hx n2).toNat : Int)]) (t := 5) (fr := (0, 0)) (heap_alloc_new wr _)) (by simp [Value.oneCell'])
            (by omega) (by unfold maxLen; omega) (by omega) (by simp; omega) (wr.heap.size + 1) (by simp) ?_; intro gg cap w1 hown1 hgrow hat hlt1))
      all_goals
        clear c1 c2 hd1 hd2
        go_wp2_with fail
        refine ⟨⟨k + 1, by omega, by go_num, ?_, ?_⟩, by simp [intOf]; omega⟩
        · rw [HX.out, byteCells_append]
          exact hown1
        · exact ((hbel.alloc hbs _).drew).grown hgrow (by simp; omega) (fun k hk => (hown.lt k hk).1)
    · have hkn : k = s.size := by omega
      have HE := Lib.hid (show s.data.toList.take k = s.data.toList by rw [List.take_of_length_le]; rw [bytes_len]; omega)
      have HL := hexL_len (s.data.toList.take k)
      have ht := own_text (w := wr) (B := w.heap.size) (l := hexL (s.data.toList.take k)) (by rw [HL, List.length_take, bytes_len, Nat.min_eq_left hk]; exact hown)
      clear HL hkn
      go_wp2_with fail
      go_ret
      exact ⟨ret_strl (by rw [HE.out]), hbel⟩
end Go.Proofs.YtdndngabddnpmaaGreatDoor.vl
