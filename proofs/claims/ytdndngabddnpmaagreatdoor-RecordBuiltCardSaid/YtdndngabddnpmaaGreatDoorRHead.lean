/-
  What stands in front of the pairs of a line: formatHead, threeDigits; three of the reference.
-/
import Derived.Test.YtdndngabddnpmaaGreatDoorRChk
import Derived.Test.YtdndngabddnpmaaGreatDoorFmtP
import Derived.Deep.RegionHeld3
import Derived.Deep.DeepCutAuto
namespace Go.Proofs.YtdndngabddnpmaaGreatDoor.rd
open Go.RowKit Go.Proofs.YtdndngabddnpmaaGreatDoor.cm Go.Proofs.YtdndngabddnpmaaGreatDoor.vl

/-- what the walks know of the world: the tables -/
structure EnvR (w : World) : Prop where
  env : Env w
  tab : RecT w
theorem EnvR.below {w w' : World} (h : EnvR w) (hb : Below w.heap.size w w') : EnvR w' := ⟨h.env.below hb, h.tab.below hb h.tab.pos⟩

def digB (n : Nat) : ByteArray := bs (Lib.decDigits n)
def threeB (n : Nat) : ByteArray := bs (three n)
def headL (t : Int) (tm sr : Nat) : List UInt8 := word0 t ++ 32 :: word1 tm sr
theorem digB_size (n : Nat) (h : n ≤ 9223372036854775807) : (digB n).size ≤ 20 := by
  unfold digB; rw [bs_size]
  have := digits_le 19 n (by simp; omega)
  omega
theorem threeB_size (n : Nat) (h : n < 1000) : (threeB n).size = 3 := by unfold threeB; rw [bs_size, three_len n h]
theorem nameB_size (t : Int) : (nameB t).size ≤ 8 := by
  by_cases h : isT t = true
  · have := (name_back h).2.1
    show (nameT t).toArray.size ≤ 8
    simpa using this
  · rw [name_nil (by simpa using h)]; decide

theorem dec_thousand (n : Nat) (h : n < 1000) : Lib.decDigits (1000 + n) = 49 :: three n := by
  have e1 : Lib.decDigits (1000 + n) = Lib.decDigits (100 + n / 10) ++ [UInt8.ofNat (48 + n % 10)] := by
    conv => lhs; rw [Lib.decDigits]
    rw [dif_neg (by omega), show (1000 + n) / 10 = 100 + n / 10 by omega, show (1000 + n) % 10 = n % 10 by omega]
  have e2 : Lib.decDigits (100 + n / 10) = Lib.decDigits (10 + n / 100) ++ [UInt8.ofNat (48 + n / 10 % 10)] := by
    conv => lhs; rw [Lib.decDigits]
    rw [dif_neg (by omega), show (100 + n / 10) / 10 = 10 + n / 100 by omega, show (100 + n / 10) % 10 = n / 10 % 10 by omega]
  have e3 : Lib.decDigits (10 + n / 100) = [49, UInt8.ofNat (48 + n / 100)] := by
    rw [Lib.decDigits, dif_neg (by omega), show (10 + n / 100) / 10 = 1 by omega, show (10 + n / 100) % 10 = n / 100 by omega, Lib.decDigits_one (by omega)]
    rfl
  unfold three
  rw [e1, e2, e3, Lib.decDigits_one (show n / 100 < 10 by omega), Lib.decDigits_one (show n / 10 % 10 < 10 by omega), Lib.decDigits_one (show n % 10 < 10 by omega)]
  rfl

theorem itoa_nat (n : Nat) : Lib.itoa (n : Int) = Lib.decDigits n := by rw [itoa_pos _ (by omega)]; rfl

theorem itoaN_any (n : Nat) (w : World) (hn : n ≤ 9223372036854775807) (hP : PowT w) :
    Calls Tryz.prog 44 #[.int .i64 (n : Int)] w fun e w' => e = .returned (.string (digB n)) ∧ Below w.heap.size w w' := by
  have := itoa_any (n : Int) w ⟨by omega, by omega⟩ hP
  rw [itoa_nat] at this
  exact this

theorem tail_three (n : Nat) (h : n < 1000) : (digB (1000 + n)).size = 4 ∧ (digB (1000 + n)).extract 1 4 = threeB n := by
  unfold digB
  rw [dec_thousand n h]
  have hl := three_len n h
  refine ⟨by rw [bs_size]; simp [hl], ?_⟩
  apply ByteArray.ext
  unfold threeB bs
  simp
  exact List.take_of_length_le (by omega)

set_option maxRecDepth 100000 in
theorem threeD_any (n : Nat) (w : World) (hn : n < 1000) (hP : PowT w) :
    Calls Tryz.prog 45 #[.int .i64 (n : Int)] w fun e w' => e = .returned (.string (threeB n)) ∧ Below w.heap.size w w' := by
  have C := itoaN_any (1000 + n) w (by omega) hP
  rw [show ((1000 + n : Nat) : Int) = 1000 + (n : Int) by omega] at C
  obtain ⟨h1, h2⟩ := tail_three n hn
  generalize digB (1000 + n) = D at *
  have H2 := Lib.hid h2
  have C := Lib.hid C
  clear hP h2
  go_enter Tryz.func45, Tryz.ntmps45
  go_wp2_with fail
  refine C.out.mono ?_
  rintro e w' ⟨rfl, hb⟩
  go_wp2_with fail
  go_ret
  exact ⟨ret_str H2.out, hb⟩

theorem three_cat (n : Nat) : (digB (n / 100) ++ digB (n / 10 % 10)) ++ digB (n % 10) = threeB n := by
  unfold digB threeB three bs
  apply ByteArray.ext
  simp

set_option maxRecDepth 100000 in
theorem three_any (n : Nat) (w : World) (hn : n < 1000) :
    Calls Tryz.prog 23 #[.int .i64 (n : Int)] w fun e w' => e = .returned (.string (threeB n)) ∧ w = w' := by
  have C1 := fun W => dec_any (n / 100) W (by omega)
  have C2 := fun W => dec_any (n / 10 % 10) W (by omega)
  have C3 := fun W => dec_any (n % 10) W (by omega)
  rw [show ((n / 100 : Nat) : Int) = (n : Int) / 100 by omega] at C1
  rw [show ((n / 10 % 10 : Nat) : Int) = (n : Int) / 10 % 10 by omega] at C2
  rw [show ((n % 10 : Nat) : Int) = (n : Int) % 10 by omega] at C3
  have H := three_cat n
  have s1 := digB_size (n / 100) (by omega)
  have s2 := digB_size (n / 10 % 10) (by omega)
  have s3 := digB_size (n % 10) (by omega)
  rw [show (⟨(Lib.decDigits (n / 100)).toArray⟩ : ByteArray) = digB (n / 100) from rfl] at C1
  rw [show (⟨(Lib.decDigits (n / 10 % 10)).toArray⟩ : ByteArray) = digB (n / 10 % 10) from rfl] at C2
  rw [show (⟨(Lib.decDigits (n % 10)).toArray⟩ : ByteArray) = digB (n % 10) from rfl] at C3
  generalize digB (n / 100) = D1 at *
  generalize digB (n / 10 % 10) = D2 at *
  generalize digB (n % 10) = D3 at *
  obtain ⟨T, hT⟩ : ∃ T, T = threeB n := ⟨_, rfl⟩
  rw [← hT] at H ⊢
  clear hT
  have C1 := Lib.hid C1
  have C2 := Lib.hid C2
  have C3 := Lib.hid C3
  go_enter Tryz.func23, Tryz.ntmps23
  go_wp2_with fail
  refine (C1.out _).mono ?_
  rintro e w' ⟨rfl, rfl⟩
  go_wp2_with fail
  refine (C2.out _).mono ?_
  rintro e w' ⟨rfl, rfl⟩
  go_wp2_with fail
  refine (C3.out _).mono ?_
  rintro e w' ⟨rfl, rfl⟩
  go_wp2_with fail
  go_ret
  exact ⟨rfl, rfl⟩

/-- the head of a line, as it is put together -/
theorem head_cat (t : Int) (tm sr : Nat) : ((((((((⟨#[116, 121, 112, 101, 61]⟩ : ByteArray) ++ nameB t) ++ ⟨#[32, 109, 115, 103, 61, 97, 117, 100, 105, 116, 40]⟩) ++ digB (tm / 1000)) ++ ⟨#[46]⟩) ++ threeB (tm % 1000)) ++ ⟨#[58]⟩) ++ digB sr) ++ ⟨#[41, 58]⟩ = bs (headL t tm sr) := by
  unfold digB threeB nameB bs headL word0 word1 stampL
  apply ByteArray.ext
  simp

/-- the record's block, and the old memory -/
structure HW (w : World) (t tm sr : Int) (s : Value) (W : World) : Prop where
  bel : Below w.heap.size w W
  box : Quad W w.heap.size (.int .i64 t) (.int .i64 tm) (.int .i64 sr) s
theorem HW.step {w W W' : World} {t tm sr : Int} {s : Value} (h : HW w t tm sr s W) (hb : Below W.heap.size W W') : HW w t tm sr s W' := ⟨h.bel.trans (hb.mono h.bel.size), h.box.below hb⟩
theorem HW.new (w : World) (T : Nat) (t tm sr : Int) (s : Value) : HW w t tm sr s (w.alloc (.cells #[.int .i64 t, .int .i64 tm, .int .i64 sr, s] T)) := ⟨(Below.refl _ _).alloc (Nat.le_refl _) _, Quad.new w T _ _ _ _⟩

set_option maxRecDepth 100000 in
set_option maxHeartbeats 8000000 in
theorem head_any (t : Int) (tm sr : Nat) (s : Value) (w : World) (hs : ∃ a n cap, s = .slice a n cap) (htm : tm ≤ 1099511627776) (hsr : sr ≤ 1073741824) (hE : EnvR w) :
    Calls Tryz.prog 26 #[.agg #[.int .i64 t, .int .i64 (tm : Int), .int .i64 (sr : Int), s]] w fun e w' => e = .returned (.string (bs (headL t tm sr))) ∧ Below w.heap.size w w' := by
  obtain ⟨a, n, cap, rfl⟩ := hs
  have h0 := HW.new w 29 t tm sr (.slice a n cap)
  have CN := Lib.hid (fun W (h : HW w t tm sr (.slice a n cap) W) => (Name_any t W (hE.below h.bel).tab).mono (R' := fun e W' => e = .returned (.string (nameB t)) ∧ HW w t tm sr (.slice a n cap) W') fun e W' hh => ⟨hh.1, h.step hh.2⟩)
  have C1 := fun W (h : HW w t tm sr (.slice a n cap) W) => (itoaN_any (tm / 1000) W (by omega) (hE.below h.bel).env.pow).mono (R' := fun e W' => e = .returned (.string (digB (tm / 1000))) ∧ HW w t tm sr (.slice a n cap) W') fun e W' hh => ⟨hh.1, h.step hh.2⟩
  have C2 := fun W (h : HW w t tm sr (.slice a n cap) W) => (threeD_any (tm % 1000) W (by omega) (hE.below h.bel).env.pow).mono (R' := fun e W' => e = .returned (.string (threeB (tm % 1000))) ∧ HW w t tm sr (.slice a n cap) W') fun e W' hh => ⟨hh.1, h.step hh.2⟩
  have C3 := fun W (h : HW w t tm sr (.slice a n cap) W) => (itoaN_any sr W (by omega) (hE.below h.bel).env.pow).mono (R' := fun e W' => e = .returned (.string (digB sr)) ∧ HW w t tm sr (.slice a n cap) W') fun e W' hh => ⟨hh.1, h.step hh.2⟩
  have s0 := nameB_size t
  have s1 := digB_size (tm / 1000) (by omega)
  have s2 := threeB_size (tm % 1000) (by omega)
  have s2 : (threeB (tm % 1000)).size ≤ 3 := by omega
  have s3 := digB_size sr (by omega)
  have H := head_cat t tm sr
  have d1 : (tm : Int).tdiv 1000 = ((tm / 1000 : Nat) : Int) := by rw [Int.tdiv_eq_ediv_of_nonneg (by omega)]; omega
  have d2 : (tm : Int).tmod 1000 = ((tm % 1000 : Nat) : Int) := by rw [Int.tmod_eq_emod_of_nonneg (by omega)]; omega
  have d3 : IntKind.i64.wrap ((tm / 1000 : Nat) : Int) = ((tm / 1000 : Nat) : Int) := IntWalk.i64_in _ (by omega)
  have d4 : IntKind.i64.wrap ((tm % 1000 : Nat) : Int) = ((tm % 1000 : Nat) : Int) := IntWalk.i64_in _ (by omega)
  generalize digB (tm / 1000) = D1 at *
  generalize threeB (tm % 1000) = D2 at *
  generalize tm / 1000 = q1 at *
  generalize tm % 1000 = q2 at *
  generalize digB sr = D3 at *
  generalize nameB t = N at *
  generalize bs (headL t tm sr) = R at *
  obtain ⟨X1, hx1⟩ : ∃ X, X = (⟨#[116, 121, 112, 101, 61]⟩ : ByteArray) ++ N := ⟨_, rfl⟩
  obtain ⟨X2, hx2⟩ : ∃ X, X = X1 ++ (⟨#[32, 109, 115, 103, 61, 97, 117, 100, 105, 116, 40]⟩ : ByteArray) := ⟨_, rfl⟩
  obtain ⟨X3, hx3⟩ : ∃ X, X = X2 ++ D1 := ⟨_, rfl⟩
  obtain ⟨X4, hx4⟩ : ∃ X, X = X3 ++ (⟨#[46]⟩ : ByteArray) := ⟨_, rfl⟩
  obtain ⟨X5, hx5⟩ : ∃ X, X = X4 ++ D2 := ⟨_, rfl⟩
  obtain ⟨X6, hx6⟩ : ∃ X, X = X5 ++ (⟨#[58]⟩ : ByteArray) := ⟨_, rfl⟩
  obtain ⟨X7, hx7⟩ : ∃ X, X = X6 ++ D3 := ⟨_, rfl⟩
  have b1 : X1.size ≤ 13 := by rw [hx1, ByteArray.size_append]; show 5 + N.size ≤ 13; omega
  have b2 : X2.size ≤ 24 := by rw [hx2, ByteArray.size_append]; show X1.size + 11 ≤ 24; omega
  have b3 : X3.size ≤ 44 := by rw [hx3, ByteArray.size_append]; omega
  have b4 : X4.size ≤ 45 := by rw [hx4, ByteArray.size_append]; show X3.size + 1 ≤ 45; omega
  have b5 : X5.size ≤ 48 := by rw [hx5, ByteArray.size_append]; omega
  have b6 : X6.size ≤ 49 := by rw [hx6, ByteArray.size_append]; show X5.size + 1 ≤ 49; omega
  have b7 : X7.size ≤ 69 := by rw [hx7, ByteArray.size_append]; omega
  have p1 := fun W => run_string_add_sum (P := Tryz.prog) W (⟨#[116, 121, 112, 101, 61]⟩ : ByteArray) N (by show 5 + N.size ≤ _; omega)
  have p2 := fun W => run_string_add_sum (P := Tryz.prog) W X1 (⟨#[32, 109, 115, 103, 61, 97, 117, 100, 105, 116, 40]⟩ : ByteArray) (by show X1.size + 11 ≤ _; omega)
  have p3 := fun W => run_string_add_sum (P := Tryz.prog) W X2 D1 (by omega)
  have p4 := fun W => run_string_add_sum (P := Tryz.prog) W X3 (⟨#[46]⟩ : ByteArray) (by show X3.size + 1 ≤ _; omega)
  have p5 := fun W => run_string_add_sum (P := Tryz.prog) W X4 D2 (by omega)
  have p6 := fun W => run_string_add_sum (P := Tryz.prog) W X5 (⟨#[58]⟩ : ByteArray) (by show X5.size + 1 ≤ _; omega)
  have p7 := fun W => run_string_add_sum (P := Tryz.prog) W X6 D3 (by omega)
  have p8 := fun W => run_string_add_sum (P := Tryz.prog) W X7 (⟨#[41, 58]⟩ : ByteArray) (by show X7.size + 2 ≤ _; omega)
  rw [← hx1] at p1
  rw [← hx2] at p2
  rw [← hx3] at p3
  rw [← hx4] at p4
  rw [← hx5] at p5
  rw [← hx6] at p6
  rw [← hx7] at p7
  rw [← hx1, ← hx2, ← hx3, ← hx4, ← hx5, ← hx6, ← hx7] at H
  rw [H] at p8
  clear H hx1 hx2 hx3 hx4 hx5 hx6 hx7 b1 b2 b3 b4 b5 b6 b7 s0 s1 s2 s3
  have C1 := Lib.hid C1
  have C2 := Lib.hid C2
  have C3 := Lib.hid C3
  have htm0 : (0 : Int) ≤ (tm : Int) := by omega
  have htm1 : (tm : Int) ≤ 1099511627776 := by omega
  clear hE htm hsr
  obtain ⟨c0, c1, c2, c3, f0, f1, f2, f3⟩ := h0.box
  go_enter Tryz.func26, Tryz.ntmps26
  go_wp2_with fail
  have h0d : HW w t tm sr (.slice a n cap) (w.alloc (.cells #[.int .i64 t, .int .i64 tm, .int .i64 sr, .slice a n cap] 29)).drew := h0.step (Below.refl _ _).drew
  generalize w.alloc (.cells #[.int .i64 t, .int .i64 tm, .int .i64 sr, .slice a n cap] 29) = V at *
  go_region_held3 (fun w' => w'.cell? ⟨w.heap.size, 0, none⟩ = some (.int .i64 t) ∧ w'.cell? ⟨w.heap.size, 1, none⟩ = some (.int .i64 (tm : Int)) ∧ w'.cell? ⟨w.heap.size, 2, none⟩ = some (.int .i64 (sr : Int)))
    (first
      | go_keep
      | (go_split_ands
         refine ⟨?_, ?_, ?_⟩ <;> assumption))
    (first
      | (go_at_call 36; refine (CN.out _ (by assumption)).mono ?_; rintro e wN ⟨rfl, hN⟩; have n0 := hN.box.c0; have n1 := hN.box.c1; have n2 := hN.box.c2)
      | (go_at_call 44; refine (C1.out _ (by assumption)).mono ?_; rintro e wM ⟨rfl, hM⟩; have m0 := hM.box.c0; have m1 := hM.box.c1; have m2 := hM.box.c2)
      | (go_at_call 44; refine (C3.out _ (by assumption)).mono ?_; rintro e wS ⟨rfl, hS⟩; have k0 := hS.box.c0; have k1 := hS.box.c1; have k2 := hS.box.c2)
      | (go_at_call 45; refine (C2.out _ (by assumption)).mono ?_; rintro e wT ⟨rfl, hT⟩; have t0 := hT.box.c0; have t1 := hT.box.c1; have t2 := hT.box.c2))
  all_goals
    go_wp2_with fail
    go_ret
    refine ⟨rfl, HW.bel (t := t) (tm := tm) (sr := sr) (s := .slice a n cap) ?_⟩
    assumption
end Go.Proofs.YtdndngabddnpmaaGreatDoor.rd
