/-
  Format of package value and of its reference write the same text.
-/
import Derived.Test.YtdndngabddnpmaaGreatDoorChk
import Derived.Lib.SmallJoins
import Derived.Deep.RegionHeld3
import Derived.Deep.DrawnRows
namespace Go.Proofs.YtdndngabddnpmaaGreatDoor.vl
open Go.RowKit Go.Proofs.YtdndngabddnpmaaGreatDoor.cm Go.Sort
attribute [local go_sem ↓] Go.wp_at_zero Go.wp_at_succ

/-- the library's table of powers -/
def PowT (w : World) : Prop := Lib.TabIs Tryz.prog w "internal/strconv.uint64pow10" .u64 Lib.pow10Tab
theorem PowT.below {w w' : World} (h : PowT w) (hb : Below w.heap.size w w') : PowT w' := Go.Joins.tab_stays (g := 2) (by kernel_rfl) h hb (Nat.le_refl _)

/-- what the walks know of the world: the tables -/
structure Env (w : World) : Prop where
  hex : HexT w
  pow : PowT w
  pos : 1 < w.heap.size
theorem Env.below {w w' : World} (h : Env w) (hb : Below w.heap.size w w') : Env w' := ⟨h.hex.below hb h.pos, h.pow.below hb, Nat.lt_of_lt_of_le h.pos hb.size⟩
theorem Env.alloc {w : World} (h : Env w) (o : Obj) : Env (w.alloc o) := h.below ((Below.refl _ _).alloc (Nat.le_refl _) _)

theorem below_grown (w : World) (q : Nat) (os : Array Obj) : Below w.heap.size w (grow (w.drewN q) os) :=
  ⟨rfl, rfl, rfl, by first | (simp [grow]; done) | (simp [grow]; omega), fun i hi => by
    show ((w.drewN q).heap ++ os)[i]? = _
    rw [Array.getElem?_append_left (by show i < w.heap.size; omega)]
    rfl⟩

theorem itoa_any (n : Int) (w : World) (hn : isInt n) (hP : PowT w) :
    Calls Tryz.prog 44 #[.int .i64 n] w fun e w' => e = .returned (.string ⟨(Lib.itoa n).toArray⟩) ∧ Below w.heap.size w w' :=
  (Tryz.strconv_Itoa n hn.1 hn.2 w hP).mono fun e w' ⟨h1, k, os, h2⟩ => ⟨h1, by rw [h2]; exact below_grown w k os⟩

theorem min_digits : Lib.decDigits 9223372036854775808 = Lib.decDigits 922337203685477580 ++ Lib.decDigits 8 := by
  rw [Lib.decDigits, dif_neg (by decide)]
  rw [show 9223372036854775808 / 10 = 922337203685477580 from rfl, show 9223372036854775808 % 10 = 8 from rfl]
  rw [Lib.decDigits_one (show 8 < 10 by decide)]

set_option maxHeartbeats 1000000 in
theorem Number_any (n : Int) (w : World) (hn : isInt n) :
    Calls Tryz.prog 41 #[.int .i64 n] w fun e w' => e = .returned (.string ⟨(Lib.itoa n).toArray⟩) ∧ w = w' := by
  obtain ⟨h1, h2⟩ := hn
  by_cases h0 : 0 ≤ n
  · obtain ⟨m, rfl⟩ := Int.eq_ofNat_of_zero_le h0
    have HI := Lib.hid (itoa_pos (m : Int) h0)
    have CD := Lib.hid (dec_any m w (by omega))
    go_enter Tryz.func41, Tryz.ntmps41
    go_wp2_with fail
    refine CD.out.mono ?_
    rintro e w' ⟨rfl, rfl⟩
    go_wp2_with fail
    go_ret
    exact ⟨ret_strl (by rw [HI.out]; rfl), rfl⟩
  · by_cases hm : n = -9223372036854775808
    · subst hm
      have HI := Lib.hid (show Lib.itoa (-9223372036854775808) = 45 :: (Lib.decDigits 922337203685477580 ++ Lib.decDigits 8) by rw [itoa_neg' _ (by decide), show (-9223372036854775808 : Int).natAbs = 9223372036854775808 from rfl, min_digits])
      have c1 := dec_any 922337203685477580 w (by omega)
      have c2 := dec_any 8 w (by omega)
      have l1 := digits_pow 18 922337203685477580 (by omega) (by decide)
      have l2 := digits_pow 1 8 (by omega) (by decide)
      generalize Lib.decDigits 922337203685477580 = D1 at *
      generalize Lib.decDigits 8 = D2 at *
      have C1 := Lib.hid c1
      have C2 := Lib.hid c2
      clear c1 c2
      have hwm : wrap64 9223372036854775808 = -9223372036854775808 := by unfold wrap64; decide
      go_enter Tryz.func41, Tryz.ntmps41
      go_wp2_with fail
      refine C1.out.mono ?_
      rintro e w' ⟨rfl, rfl⟩
      go_wp2_with fail
      refine C2.out.mono ?_
      rintro e w' ⟨rfl, rfl⟩
      go_wp2_with fail
      go_ret
      exact ⟨ret_str (by rw [HI.out]; apply ByteArray.ext; simp), rfl⟩
    · have HI := Lib.hid (itoa_neg' n (by omega))
      have e1 : -n = ((n.natAbs : Nat) : Int) := by omega
      have l1 := digits_pow 19 n.natAbs (by omega) (by simp; omega)
      have CD := dec_any n.natAbs w (by omega)
      rw [← e1] at CD
      generalize Lib.decDigits n.natAbs = D at *
      have CD := Lib.hid CD
      clear e1
      go_enter Tryz.func41, Tryz.ntmps41
      go_wp2_with fail
      refine CD.out.mono ?_
      rintro e w' ⟨rfl, rfl⟩
      go_wp2_with fail
      go_ret
      exact ⟨ret_str (by rw [HI.out]; apply ByteArray.ext; simp), rfl⟩

/-- the text of a sound value -/
def valB (k n : Int) (t : ByteArray) : ByteArray := if k = 1 then ⟨(Lib.itoa n).toArray⟩ else if k = 2 then quoteB t else ⟨#[40, 110, 117, 108, 108, 41]⟩
/-- what Format answers -/
def fS (nm : ByteArray) (k n : Int) (t : ByteArray) : ByteArray := if ckI nm k n t = 0 then nm ++ ⟨#[61]⟩ ++ valB k n t else ⟨#[]⟩

theorem quoteB_size {t : ByteArray} (h : t.size ≤ 640) : (quoteB t).size ≤ 1281 := by
  unfold quoteB
  have hl := bytes_len t
  have hL := hexL_len t.data.toList
  split
  · show (34 :: (t.data.toList ++ [34])).toArray.size ≤ _
    rw [List.size_toArray]; simp; omega
  · show (120 :: hexL t.data.toList).toArray.size ≤ _
    rw [List.size_toArray, List.length_cons]; omega

theorem name_size {nm : ByteArray} (h : nameS nm = true) : nm.size ≤ 16 := by
  apply Nat.le_of_not_lt
  intro hc
  rw [nameS_long hc] at h; cases h

theorem ck_name {nm : ByteArray} {k n : Int} {t : ByteArray} (h : ckI nm k n t = 0) : nameS nm = true := by
  cases hb : nameS nm
  · rw [ckI_name hb] at h; cases h
  · rfl

theorem valB_size {nm : ByteArray} {k n : Int} {t : ByteArray} (h : ckI nm k n t = 0) (hn : isInt n) : (valB k n t).size ≤ 1281 := by
  have hw := ckI_ways (ck_name h) k n t
  rw [h] at hw
  unfold valB
  cases hw with
  | fine1 a1 a2 =>
    rw [if_pos a1]
    show (Lib.itoa n).toArray.size ≤ _
    have := (itoa_len n hn).2
    rw [List.size_toArray]; omega
  | fine2 a1 a2 a3 => rw [if_neg (by omega), if_pos a1]; exact quoteB_size a3
  | fine3 a1 a2 a3 => rw [if_neg (by omega), if_neg (by omega)]; decide

set_option maxHeartbeats 2000000 in
theorem formatValue_any (nm t : ByteArray) (k n : Int) (w : World) (hk : ckI nm k n t = 0) (hn : isInt n) (hE : Env w) :
    Calls Tryz.prog 46 #[.agg #[.string nm, .int .i64 k, .int .i64 n, .string t]] w fun e w' => e = .returned (.string (valB k n t)) ∧ Below w.heap.size w w' := by
  have hw := ckI_ways (ck_name hk) k n t
  rw [hk] at hw
  have CI := Lib.hid (fun W (h : Env W) => itoa_any n W hn h.pow)
  have HE := Lib.hid (fun o => hE.alloc o)
  clear hE hk
  cases hw with
  | fine1 a1 a2 =>
    subst a1; subst a2
    have HV : Hid (valB 1 n ⟨#[]⟩ = ⟨(Lib.itoa n).toArray⟩) := Lib.hid rfl
    go_enter Tryz.func46, Tryz.ntmps46
    go_wp2_with fail
    refine (CI.out _ (HE.out _)).mono ?_
    rintro e w' ⟨rfl, hb⟩
    go_wp2_with fail
    go_ret
    exact ⟨ret_str HV.out.symm, ((Below.refl _ _).alloc (Nat.le_refl _) _).trans (hb.mono (by simp))⟩
  | fine2 a1 a2 a3 =>
    subst a1; subst a2
    have HV : Hid (valB 2 0 t = quoteB t) := Lib.hid rfl
    have CQ := Lib.hid (fun W (h : Env W) => quote_any t W (by omega) h.hex h.pos)
    go_enter Tryz.func46, Tryz.ntmps46
    go_wp2_with fail
    refine (CQ.out _ (HE.out _)).mono ?_
    rintro e w' ⟨rfl, hb⟩
    go_wp2_with fail
    go_ret
    exact ⟨ret_str HV.out.symm, ((Below.refl _ _).alloc (Nat.le_refl _) _).trans (hb.mono (by simp))⟩
  | fine3 a1 a2 a3 =>
    subst a1; subst a2; subst a3
    have HV : Hid (valB 3 0 ⟨#[]⟩ = ⟨#[40, 110, 117, 108, 108, 41]⟩) := Lib.hid rfl
    go_enter Tryz.func46, Tryz.ntmps46
    go_wp2_with fail
    go_ret
    exact ⟨ret_str HV.out.symm, (Below.refl _ _).alloc (Nat.le_refl _) _⟩

theorem ckI_cases (nm : ByteArray) (k n : Int) (t : ByteArray) : ckI nm k n t = 0 ∨ (ckI nm k n t == 0) = false := by
  by_cases h : ckI nm k n t = 0
  · exact .inl h
  · exact .inr (beq_eq_false_iff_ne.2 h)

theorem fS_fine {nm : ByteArray} {k n : Int} {t : ByteArray} (h : ckI nm k n t = 0) : fS nm k n t = nm ++ ⟨#[61]⟩ ++ valB k n t := by unfold fS; rw [if_pos h]
theorem fS_bad {nm : ByteArray} {k n : Int} {t : ByteArray} (h : (ckI nm k n t == 0) = false) : fS nm k n t = ⟨#[]⟩ := by unfold fS; rw [if_neg (beq_eq_false_iff_ne.1 h)]

set_option maxRecDepth 100000 in
set_option maxHeartbeats 2000000 in
theorem Format_any (nm t : ByteArray) (k n : Int) (w : World) (hnm : nm.size ≤ maxLen) (ht : t.size ≤ maxLen) (hn : isInt n) (hE : Env w) :
    Calls Tryz.prog 27 #[.agg #[.string nm, .int .i64 k, .int .i64 n, .string t]] w fun e w' => e = .returned (.tuple #[.string (fS nm k n t), .int .i64 (ckI nm k n t)]) ∧ Below w.heap.size w w' := by
  have CC := Lib.hid (fun W => Check_any nm t k n W hnm ht)
  have hpos := hE.pos
  rcases ckI_cases nm k n t with h0 | h0
  · have HF := Lib.hid (fS_fine h0)
    have CV := Lib.hid (fun W (h : Env W) => formatValue_any nm t k n W h0 hn h)
    have hvs := valB_size h0 hn
    have hns := name_size (ck_name h0)
    have HE := Lib.hid (fun W (h : Below w.heap.size w W) => hE.below h)
    rw [h0] at CC ⊢
    clear hE h0 hnm ht
    generalize valB k n t = V at *
    go_enter Tryz.func27, Tryz.ntmps27
    go_wp2_with fail
    refine (CC.out _).mono ?_
    rintro e w1 ⟨rfl, hb⟩
    have hb' := ((Below.refl w.heap.size w).alloc (Nat.le_refl _) _).trans (hb.mono (by simp))
    have c0 : w1.cell? ⟨w.heap.size, 0, none⟩ = some (.string nm) := (hb.cell (p := ⟨w.heap.size, 0, none⟩) (by simp)).trans (by simp)
    have c1 : w1.cell? ⟨w.heap.size, 1, none⟩ = some (.int .i64 k) := (hb.cell (p := ⟨w.heap.size, 1, none⟩) (by simp)).trans (by simp)
    have c2 : w1.cell? ⟨w.heap.size, 2, none⟩ = some (.int .i64 n) := (hb.cell (p := ⟨w.heap.size, 2, none⟩) (by simp)).trans (by simp)
    have c3 : w1.cell? ⟨w.heap.size, 3, none⟩ = some (.string t) := (hb.cell (p := ⟨w.heap.size, 3, none⟩) (by simp)).trans (by simp)
    have hlt : w.heap.size < w1.heap.size := by have := hb.size; simp at this; omega
    have HE1 := Lib.hid (HE.out _ hb'.drew)
    have hs1 : ¬ 9223372036854775807 < nm.size + 1 := by omega
    have hs2 : ¬ 9223372036854775807 < nm.size + 1 + V.size := by omega
    clear hb
    go_wp2_with fail
    go_region_held3 (fun w' => w'.cell? ⟨w.heap.size, 0, none⟩ = some (.string nm) ∧ w'.cell? ⟨w.heap.size, 1, none⟩ = some (.int .i64 k) ∧ w'.cell? ⟨w.heap.size, 2, none⟩ = some (.int .i64 n) ∧ w'.cell? ⟨w.heap.size, 3, none⟩ = some (.string t))
      (first
        | go_keep
        | (exact ⟨(hb2.cell (p := ⟨w.heap.size, 0, none⟩) hlt).trans c0, (hb2.cell (p := ⟨w.heap.size, 1, none⟩) hlt).trans c1, (hb2.cell (p := ⟨w.heap.size, 2, none⟩) hlt).trans c2, (hb2.cell (p := ⟨w.heap.size, 3, none⟩) hlt).trans c3⟩))
      ((go_at_call 46; refine (CV.out _ HE1.out).mono ?_; rintro e w2 ⟨rfl, hb2⟩))
    go_wp2_with fail
    all_goals
      go_ret2
      exact ⟨ret_se (by rw [HF.out]) rfl, (hb'.drew).trans (hb2.mono (by simp; omega))⟩
  · have HF := Lib.hid (fS_bad h0)
    generalize ckI nm k n t = er at *
    clear hE
    go_enter Tryz.func27, Tryz.ntmps27
    go_wp2_with fail
    refine (CC.out _).mono ?_
    rintro e w1 ⟨rfl, hb⟩
    go_wp2_with fail
    go_ret2
    exact ⟨ret_se HF.out.symm rfl, ((Below.refl _ _).alloc (Nat.le_refl _) _).trans (hb.mono (by simp))⟩

set_option maxRecDepth 100000 in
set_option maxHeartbeats 2000000 in
theorem rFormat_any (nm t : ByteArray) (k n : Int) (w : World) (hnm : nm.size ≤ maxLen) (ht : t.size ≤ maxLen) (hn : isInt n) :
    Calls Tryz.prog 24 #[.agg #[.string nm, .int .i64 k, .int .i64 n, .string t]] w fun e w' => e = .returned (.tuple #[.string (fS nm k n t), .int .i64 (ckI nm k n t)]) ∧ Below w.heap.size w w' := by
  have CC := Lib.hid (fun W => rCheck_any nm t k n W hnm ht)
  rcases ckI_cases nm k n t with h0 | h0
  · have HF := Lib.hid (fS_fine h0)
    have hvs := valB_size h0 hn
    have hns := name_size (ck_name h0)
    have hw := ckI_ways (ck_name h0) k n t
    rw [h0] at CC ⊢ hw
    have hc : ∀ w1, Below (w.alloc (.cells #[.string nm, .int .i64 k, .int .i64 n, .string t] 39)).heap.size (w.alloc (.cells #[.string nm, .int .i64 k, .int .i64 n, .string t] 39)) w1 → w1.cell? ⟨w.heap.size, 0, none⟩ = some (.string nm) ∧ w1.cell? ⟨w.heap.size, 1, none⟩ = some (.int .i64 k) ∧ w1.cell? ⟨w.heap.size, 2, none⟩ = some (.int .i64 n) ∧ w1.cell? ⟨w.heap.size, 3, none⟩ = some (.string t) := fun w1 hb =>
      ⟨(hb.cell (p := ⟨w.heap.size, 0, none⟩) (by simp)).trans (by simp), (hb.cell (p := ⟨w.heap.size, 1, none⟩) (by simp)).trans (by simp), (hb.cell (p := ⟨w.heap.size, 2, none⟩) (by simp)).trans (by simp), (hb.cell (p := ⟨w.heap.size, 3, none⟩) (by simp)).trans (by simp)⟩
    have HC := Lib.hid hc
    clear h0 hnm ht hc
    cases hw with
    | fine1 a1 a2 =>
      subst a1; subst a2
      have HV : Hid (valB 1 n ⟨#[]⟩ = ⟨(Lib.itoa n).toArray⟩) := Lib.hid rfl
      have CN := Lib.hid (fun W => Number_any n W hn)
      rw [HV.out] at hvs
      generalize (⟨(Lib.itoa n).toArray⟩ : ByteArray) = V at *
      have hs1 : ¬ 9223372036854775807 < nm.size + 1 := by omega
      have hs2 : ¬ 9223372036854775807 < nm.size + 1 + V.size := by omega
      go_enter Tryz.func24, Tryz.ntmps24
      go_wp2_with fail
      refine (CC.out _).mono ?_
      rintro e w1 ⟨rfl, hb⟩
      have hb' := ((Below.refl w.heap.size w).alloc (Nat.le_refl _) _).trans (hb.mono (by simp))
      obtain ⟨c0, c1, c2, c3⟩ := HC.out _ hb
      clear hb
      go_wp2_with fail
      go_quiet ((go_at_call 41; exact Calls.quiet_of_same ((CN.out _).mono fun _ _ ⟨a, b⟩ => ⟨a, b.symm⟩)))
      go_wp2_with fail
      go_ret2
      exact ⟨ret_se (by rw [HF.out, HV.out]) rfl, below_drewN hb' _⟩
    | fine2 a1 a2 a3 =>
      subst a1; subst a2
      have HV : Hid (valB 2 0 t = quoteB t) := Lib.hid rfl
      have CQ := fun W => rQuote_any t W (by unfold maxLen; omega)
      have q1 : qS t = quoteB t := by unfold qS; rw [if_neg (by omega)]
      have q2 : qE t = 0 := by unfold qE; rw [if_neg (by omega)]
      rw [q1, q2] at CQ
      rw [HV.out] at hvs
      have CQ := Lib.hid CQ
      clear q1 q2
      generalize quoteB t = V at *
      have hs1 : ¬ 9223372036854775807 < nm.size + 1 := by omega
      have hs2 : ¬ 9223372036854775807 < nm.size + 1 + V.size := by omega
      go_enter Tryz.func24, Tryz.ntmps24
      go_wp2_with fail
      refine (CC.out _).mono ?_
      rintro e w1 ⟨rfl, hb⟩
      have hb' := ((Below.refl w.heap.size w).alloc (Nat.le_refl _) _).trans (hb.mono (by simp))
      obtain ⟨c0, c1, c2, c3⟩ := HC.out _ hb
      have hlt : w.heap.size < w1.heap.size := by have := hb.size; simp at this; omega
      clear hb
      go_wp2_with fail
      refine (CQ.out _).mono ?_
      rintro e w2 ⟨rfl, hb2⟩
      have d0 : w2.cell? ⟨w.heap.size, 0, none⟩ = some (.string nm) := (hb2.cell (p := ⟨w.heap.size, 0, none⟩) hlt).trans c0
      have hb3 := hb'.trans (hb2.mono hb'.size)
      clear c0 c1 c2 c3 hb2
      go_wp2_with fail
      go_ret2
      exact ⟨ret_se (by rw [HF.out, HV.out]) rfl, hb3⟩
    | fine3 a1 a2 a3 =>
      subst a1; subst a2; subst a3
      have HV : Hid (valB 3 0 ⟨#[]⟩ = ⟨#[40, 110, 117, 108, 108, 41]⟩) := Lib.hid rfl
      have hs1 : ¬ 9223372036854775807 < nm.size + 7 := by omega
      go_enter Tryz.func24, Tryz.ntmps24
      go_wp2_with fail
      refine (CC.out _).mono ?_
      rintro e w1 ⟨rfl, hb⟩
      have hb' := ((Below.refl w.heap.size w).alloc (Nat.le_refl _) _).trans (hb.mono (by simp))
      obtain ⟨c0, c1, c2, c3⟩ := HC.out _ hb
      clear hb
      go_wp2_with fail
      go_ret2
      exact ⟨ret_se (by rw [HF.out, HV.out]; apply ByteArray.ext; simp) rfl, hb'⟩
  · have HF := Lib.hid (fS_bad h0)
    generalize ckI nm k n t = er at *
    go_enter Tryz.func24, Tryz.ntmps24
    go_wp2_with fail
    refine (CC.out _).mono ?_
    rintro e w1 ⟨rfl, hb⟩
    go_wp2_with fail
    go_ret2
    exact ⟨ret_se HF.out.symm rfl, ((Below.refl _ _).alloc (Nat.le_refl _) _).trans (hb.mono (by simp))⟩
end Go.Proofs.YtdndngabddnpmaaGreatDoor.vl
