/-
  Quote of package value and of its reference write the same text.
-/
import Derived.Test.YtdndngabddnpmaaGreatDoorToHex
namespace Go.Proofs.YtdndngabddnpmaaGreatDoor.vl
open Go.RowKit Go.Proofs.YtdndngabddnpmaaGreatDoor.cm Go.Lib

/-- the text of a string -/
def quoteB (s : ByteArray) : ByteArray := if safeB s = true then ⟨(34 :: (s.data.toList ++ [34])).toArray⟩ else ⟨(120 :: hexL s.data.toList).toArray⟩
/-- what Quote answers -/
def qS (s : ByteArray) : ByteArray := if 640 < s.size then ⟨#[]⟩ else quoteB s
def qE (s : ByteArray) : Int := if 640 < s.size then 20 else 0

theorem ret_se {a a' : ByteArray} {b b' : Int} (h : a = a') (h' : b = b') : Ending.returned (.tuple #[.string a, .int .i64 b]) = .returned (.tuple #[.string a', .int .i64 b']) := by rw [h, h']
theorem ret_sb {a a' : ByteArray} {b b' : Bool} (h : a = a') (h' : b = b') : Ending.returned (.tuple #[.string a, .bool b]) = .returned (.tuple #[.string a', .bool b']) := by rw [h, h']

set_option maxHeartbeats 1000000 in
theorem quote_any (s : ByteArray) (w : World) (hs : s.size ≤ 100000) (hT : HexT w) (h0 : 1 < w.heap.size) :
    Calls Tryz.prog 62 #[.string s] w fun e w' => e = .returned (.string (quoteB s)) ∧ Below w.heap.size w w' := by
  have CI := isSafe_any s w (by unfold maxLen; omega)
  have CH := Lib.hid (toHex_any s w hs hT h0)
  have HL := hexL_len s.data.toList
  rw [bytes_len] at HL
  cases hb : safeB s
  · have HQ : Hid (quoteB s = ⟨(120 :: hexL s.data.toList).toArray⟩) := Lib.hid (by unfold quoteB; rw [hb]; rfl)
    rw [hb] at CI
    have CI := Lib.hid CI
    generalize hexL s.data.toList = l at *
    have HLE : l.length ≤ 200000 := by omega
    clear hb HL hT
    go_enter Tryz.func62, Tryz.ntmps62
    go_wp2_with fail
    refine CI.out.mono ?_
    rintro e w' ⟨rfl, rfl⟩
    go_wp2_with fail
    refine CH.out.mono ?_
    rintro e w' ⟨rfl, hbel⟩
    go_wp2_with fail
    go_ret
    exact ⟨ret_str (by rw [HQ.out]; apply ByteArray.ext; simp), hbel⟩
  · have HQ : Hid (quoteB s = ⟨(34 :: (s.data.toList ++ [34])).toArray⟩) := Lib.hid (by unfold quoteB; rw [hb]; rfl)
    rw [hb] at CI
    have CI := Lib.hid CI
    clear hb HL hT
    go_enter Tryz.func62, Tryz.ntmps62
    go_wp2_with fail
    refine CI.out.mono ?_
    rintro e w' ⟨rfl, rfl⟩
    go_wp2_with fail
    go_ret
    exact ⟨ret_str (by rw [HQ.out]; apply ByteArray.ext; simp), Below.refl _ _⟩

/-- one digit of the reference's constant -/
theorem digit_cut (n : Nat) (h : n < 16) : (⟨#[48, 49, 50, 51, 52, 53, 54, 55, 56, 57, 97, 98, 99, 100, 101, 102]⟩ : ByteArray).extract n (n + 1) = ⟨#[hx n]⟩ := by
  have : ∀ n < 16, (⟨#[48, 49, 50, 51, 52, 53, 54, 55, 56, 57, 97, 98, 99, 100, 101, 102]⟩ : ByteArray).extract n (n + 1) = ⟨#[hx n]⟩ := by decide +kernel
  exact this n h

set_option maxRecDepth 100000 in
set_option maxHeartbeats 4000000 in
theorem rQuote_hex (s : ByteArray) (w : World) (hs : s.size ≤ 640) (hb : safeB s = false) :
    Calls Tryz.prog 42 #[.string s] w fun e w' => e = .returned (.tuple #[.string ⟨(120 :: hexL s.data.toList).toArray⟩, .int .i64 0]) ∧ Below w.heap.size w w' := by
  have CI := rsafe_any s w (by unfold maxLen; omega)
  rw [hb] at CI
  have CI := Lib.hid CI
  clear hb
  go_enter Tryz.func42, Tryz.ntmps42
  go_wp2_with fail
  refine CI.out.mono ?_
  rintro e w' ⟨rfl, rfl⟩
  go_wp2_with fail
  go_loopw [4, 5] (fun v i wr => ∃ (k q : Nat) (t : ByteArray), k ≤ s.size ∧ i = .int .i64 k ∧ v = .string t ∧ t.size ≤ 1 + 2 * k ∧ Hid (t = ⟨(120 :: hexL (s.data.toList.take k)).toArray⟩) ∧ wr = w.drewN q) (fun _ i _ => s.size - (intOf i).toNat)
  case atStart => exact ⟨0, 0, _, Nat.zero_le _, rfl, rfl, Nat.le_refl _, Lib.hid rfl, rfl⟩
  case round =>
    obtain ⟨k, q, t, hk, rfl, rfl, ht, HT, rfl⟩ := hrel
    by_cases hlt : k < s.size
    · have hk0 : (0 : Int) ≤ (k : Int) := by omega
      have hk1 : (k : Int) < (s.size : Int) := by omega
      have hx1 : s[k].toNat / 16 < 16 := by have := s[k].toNat_lt; omega
      have hx2 : s[k].toNat % 16 < 16 := Nat.mod_lt _ (by omega)
      have HX := Lib.hid (hexL_snoc s k hlt)
      have hd1 : (s[k].toNat : Int) / 16 = ((s[k].toNat / 16 : Nat) : Int) := by omega
      have hd2 : bits .and .u8 (s[k].toNat : Int) 15 = ((s[k].toNat % 16 : Nat) : Int) := and15 s[k]
      generalize s[k].toNat / 16 = n1 at *
      generalize s[k].toNat % 16 = n2 at *
      have a1 : (0 : Int) ≤ (n1 : Int) := by omega
      have a2 : (n1 : Int) < 16 := by omega
      have a3 : (0 : Int) ≤ (n2 : Int) := by omega
      have a4 : (n2 : Int) < 16 := by omega
      have w1 : IntKind.u8.wrap ((n1 : Int) + 1) = (n1 : Int) + 1 := by rw [show IntKind.u8.wrap ((n1 : Int) + 1) = ((n1 : Int) + 1) % 256 from rfl]; omega
      have w2 : IntKind.u8.wrap ((n2 : Int) + 1) = (n2 : Int) + 1 := by rw [show IntKind.u8.wrap ((n2 : Int) + 1) = ((n2 : Int) + 1) % 256 from rfl]; omega
      have b1 : (n1 : Int) ≤ (n1 : Int) + 1 := by omega
      have b2 : (n2 : Int) ≤ (n2 : Int) + 1 := by omega
      have b3 : (n1 : Int) + 1 ≤ 16 := by omega
      have b4 : (n2 : Int) + 1 ≤ 16 := by omega
      have t1 : ((n1 : Int) + 1).toNat = n1 + 1 := by omega
      have t2 : ((n2 : Int) + 1).toNat = n2 + 1 := by omega
      have e1 := digit_cut n1 hx1
      have e2 := digit_cut n2 hx2
      go_wp2_with fail
      go_quiet (fail)
      go_wp2_with fail
      refine ⟨⟨k + 1, _, _, by omega, by go_num, rfl, ?_, Lib.hid ?_, rfl⟩, by simp [intOf]; omega⟩
      · simp only [ByteArray.size_append]
        show t.size + (1 + 1) ≤ _
        omega
      · rw [HT.out, HX.out]
        apply ByteArray.ext
        simp
    · have hkn : k = s.size := by omega
      have HE := Lib.hid (show s.data.toList.take k = s.data.toList by rw [List.take_of_length_le]; rw [bytes_len]; omega)
      clear hkn
      go_wp2_with fail
      go_ret2
      exact ⟨ret_se (by rw [HT.out, HE.out]) rfl, below_drewN (Below.refl _ _) _⟩

set_option maxHeartbeats 1000000 in
theorem rQuote_any (s : ByteArray) (w : World) (hs : s.size ≤ maxLen) :
    Calls Tryz.prog 42 #[.string s] w fun e w' => e = .returned (.tuple #[.string (qS s), .int .i64 (qE s)]) ∧ Below w.heap.size w w' := by
  unfold maxLen at hs
  by_cases h : 640 < s.size
  · have H1 : Hid (qS s = ⟨#[]⟩) := Lib.hid (by unfold qS; rw [if_pos h])
    have H2 : Hid (qE s = 20) := Lib.hid (by unfold qE; rw [if_pos h])
    go_enter Tryz.func42, Tryz.ntmps42
    go_wp2_with fail
    go_ret2
    exact ⟨ret_se H1.out.symm H2.out.symm, Below.refl _ _⟩
  · have H1 : qS s = quoteB s := by unfold qS; rw [if_neg h]
    have H2 : qE s = 0 := by unfold qE; rw [if_neg h]
    rw [H1, H2]
    cases hb : safeB s
    · have HQ : quoteB s = ⟨(120 :: hexL s.data.toList).toArray⟩ := by unfold quoteB; rw [hb]; rfl
      rw [HQ]
      exact rQuote_hex s w (by omega) hb
    · have HQ : Hid (quoteB s = ⟨(34 :: (s.data.toList ++ [34])).toArray⟩) := Lib.hid (by unfold quoteB; rw [hb]; rfl)
      have CI := rsafe_any s w (by unfold maxLen; omega)
      rw [hb] at CI
      have CI := Lib.hid CI
      clear hb H1 H2
      go_enter Tryz.func42, Tryz.ntmps42
      go_wp2_with fail
      refine CI.out.mono ?_
      rintro e w' ⟨rfl, rfl⟩
      go_wp2_with fail
      go_ret2
      exact ⟨ret_se (by rw [HQ.out]; apply ByteArray.ext; simp) rfl, Below.refl _ _⟩
end Go.Proofs.YtdndngabddnpmaaGreatDoor.vl
