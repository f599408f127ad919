/-
  mask.Format writes the ranges of a set.
-/
import Derived.Test.YtjckgehlojcinaaDoorOf
import Derived.Test.YtjckgehlojcinaaDoorMem
import Derived.Test.YtjckgehlojcinaaDoorShelf
import Derived.Shelf.Spec.TrailingZeros
namespace Go.Proofs.YtjckgehlojcinaaDoor.mk
open Go.RowKit

theorem tz_core (x k idx : Nat) (w : World) (hx0 : ((x : Int) == 0) = false)
    (key : IntKind.u64.wrap (bits BinOp.and IntKind.u64 (x : Int) (IntKind.u64.wrap (-(x : Int))) * 285870213051353865) / 288230376151711744 = (idx : Int))
    (hi : idx < 64) (hk : k < 64) (hcell : w.cell? ⟨0, idx, none⟩ = some (.int .u8 k)) :
    Calls Tryd.prog 30 #[.int .u64 x] w fun e w' => e = .returned (.int .i64 k) ∧ w = w' := by
  go_enter Tryd.func30, Tryd.ntmps30
  go_wp2_with (simp only [key])
  go_ret
  exact ⟨rfl, rfl⟩

/-- what the library's table holds -/
def Tabs (w : World) : Prop := TabAt 0 Lib.deBruijn64tab w

theorem tz_any (x : Nat) (hx0 : x ≠ 0) (hx : x < 18446744073709551616) (w : World) (hT : Tabs w) :
    Calls Tryd.prog 30 #[.int .u64 x] w fun e w' => e = .returned (.int .i64 (Lib.ctz 64 x)) ∧ w = w' := by
  obtain ⟨hlow, hk⟩ := Lib.lowest_bit 64 x hx0 hx
  obtain ⟨hi, htab⟩ := Lib.deBruijn64_at _ hk
  have hcell := hT _ hi
  rw [htab] at hcell
  exact tz_core x _ _ w (by simp; omega) (tz64_key x _ hx hx0 hlow) hi hk hcell

theorem lowest_core (m L N : Nat) (w : World) (hL : L < 32) (hN : L + N ≤ 32) (hN1 : 1 ≤ N)
    (C1 : Hid (Calls Tryd.prog 30 #[.int .u64 m] w fun e w' => e = .returned (.int .i64 (L : Int)) ∧ w = w'))
    (C2 : Hid (Calls Tryd.prog 30 #[.int .u64 (bits .xor .u64 IntKind.u64.max ((m : Int) / 2 ^ L))] w fun e w' => e = .returned (.int .i64 (N : Int)) ∧ w = w')) :
    Calls Tryd.prog 31 #[.int .u64 m] w fun e w' => e = .returned (.tuple #[.int .i64 (L : Int), .int .i64 ((L : Int) + N - 1)]) ∧ w = w' := by
  go_enter Tryd.func31, Tryd.ntmps31
  go_wp2_with fail
  refine C1.out.mono ?_
  rintro e w' ⟨rfl, rfl⟩
  go_wp2_with fail
  refine C2.out.mono ?_
  rintro e w' ⟨rfl, rfl⟩
  go_wp2_with fail
  go_ret2
  exact ⟨rfl, rfl⟩

/-- the last number of the lowest range -/
def top (m : Nat) : Nat := lo m + ln m - 1

theorem lowest_any (m : Nat) (h0 : m ≠ 0) (h : m < 4294967296) (w : World) (hT : Tabs w) :
    Calls Tryd.prog 31 #[.int .u64 m] w fun e w' => e = .returned (.tuple #[.int .i64 (lo m), .int .i64 (top m)]) ∧ w = w' := by
  obtain ⟨l1, _, _⟩ := lo_bits m h0 h
  obtain ⟨a1, a2, _, _⟩ := ln_bits m h0 h
  have hq : m / 2 ^ lo m < 4294967296 := Nat.lt_of_le_of_lt (Nat.div_le_self _ _) h
  have c1 := tz_any m h0 (by omega) w hT
  have c2 := tz_any (18446744073709551615 - m / 2 ^ lo m) (by omega) (by generalize m / 2 ^ lo m = z at *; omega) w hT
  have e : bits .xor .u64 IntKind.u64.max ((m : Int) / 2 ^ lo m) = ((18446744073709551615 - m / 2 ^ lo m : Nat) : Int) := by
    have e0 : (m : Int) / 2 ^ lo m = ((m / 2 ^ lo m : Nat) : Int) := by simp
    rw [e0]
    exact compl_num _ (by omega)
  rw [← e] at c2
  have e2 : ((top m : Nat) : Int) = (lo m : Int) + ln m - 1 := by unfold top; omega
  rw [e2]
  exact lowest_core m (lo m) (ln m) w l1 a2 a1 (Lib.hid c1) (Lib.hid c2)

theorem ret_str {a b : ByteArray} (h : a = b) : Ending.returned (.string a) = .returned (.string b) := by rw [h]

theorem digits_len (a : Nat) (ha : a < 100) : (Lib.decDigits a).length ≤ 2 := by
  unfold Lib.decDigits
  split
  · simp
  · unfold Lib.decDigits
    rw [dif_pos (by omega)]
    simp

/-- the text of a range -/
def fmtR (r : Nat × Nat) : List UInt8 := if r.1 = r.2 then Lib.decDigits r.1 else Lib.decDigits r.1 ++ (45 :: Lib.decDigits r.2)

theorem fmtRange_any (a b : Nat) (ha : a < 32) (hb : b < 32) (w : World) :
    Calls Tryd.prog 32 #[.int .i64 a, .int .i64 b] w fun e w' => e = .returned (.string ⟨(fmtR (a, b)).toArray⟩) ∧ w = w' := by
  have c1 := Tryd.strconv_Itoa_small a (by omega) w
  have c2 := Tryd.strconv_Itoa_small b (by omega) w
  have l1 := digits_len a (by omega)
  have l2 := digits_len b (by omega)
  by_cases hab : a = b
  · subst hab
    have HF : Hid (fmtR (a, a) = Lib.decDigits a) := Lib.hid (by simp [fmtR])
    generalize Lib.decDigits a = d at *
    have C1 := Lib.hid c1
    clear c1 c2
    go_enter Tryd.func32, Tryd.ntmps32
    go_wp2_with fail
    refine C1.out.mono ?_
    rintro e w' ⟨rfl, rfl⟩
    go_wp2_with fail
    go_ret
    exact ⟨ret_str (by rw [HF.out]), rfl⟩
  · have HF : Hid (fmtR (a, b) = Lib.decDigits a ++ (45 :: Lib.decDigits b)) := Lib.hid (by simp [fmtR, hab])
    generalize Lib.decDigits a = d at *
    generalize Lib.decDigits b = d2 at *
    have C1 := Lib.hid c1
    have C2 := Lib.hid c2
    clear c1 c2
    have hne : ((a : Int) == (b : Int)) = false := by simp; omega
    go_enter Tryd.func32, Tryd.ntmps32
    go_wp2_with fail
    refine C1.out.mono ?_
    rintro e w' ⟨rfl, rfl⟩
    go_wp2_with fail
    refine C2.out.mono ?_
    rintro e w' ⟨rfl, rfl⟩
    go_wp2_with fail
    go_ret
    exact ⟨ret_str (by rw [HF.out]; apply ByteArray.ext; simp), rfl⟩

theorem low_num (m : Nat) (hm : m < 18446744073709551616) : bits .and .u64 (m : Int) 4294967295 = ((m % 4294967296 : Nat) : Int) := by
  have e : bits .and .u64 (m : Int) ((4294967295 : Nat) : Int) = ((m &&& 4294967295 : Nat) : Int) := u64_and_nat m 4294967295 hm (by omega)
  have k : m &&& 4294967295 = m % 4294967296 := by
    have := Nat.and_two_pow_sub_one_eq_mod m 32
    simpa using this
  rw [k] at e
  exact e

theorem format_none (m : Nat) (hb : bits .and .u64 (m : Int) 4294967295 = 0) (w : World) :
    Calls Tryd.prog 20 #[.int .u64 m] w fun e w' => e = .returned (.string ⟨[110, 111, 110, 101].toArray⟩) ∧ w = w' := by
  go_enter Tryd.func20, Tryd.ntmps20
  go_wp2_with fail
  go_ret
  exact ⟨rfl, rfl⟩

theorem format_full (m : Nat) (hb : bits .and .u64 (m : Int) 4294967295 = 4294967295) (w : World) :
    Calls Tryd.prog 20 #[.int .u64 m] w fun e w' => e = .returned (.string ⟨[97, 108, 108].toArray⟩) ∧ w = w' := by
  go_enter Tryd.func20, Tryd.ntmps20
  go_wp2_with fail
  go_ret
  exact ⟨rfl, rfl⟩

theorem Tryd.info9 : (Tryd.prog.info? 9).map (fun i => (i.zero, i.size, i.bytes)) = some (some (.string ⟨#[]⟩), 1, 16) := by kernel_rfl

/-- the items of a text as strings -/
def strR (r : Nat × Nat) : ByteArray := ⟨(fmtR r).toArray⟩


theorem row_cells {w : World} {B : Nat} {v : Value} {xs : List Value} {n : Nat} (h : w.ownsRow B 9 1 v n xs) (hn : n ≠ 0) :
    ∃ g cap, v = .slice (some ⟨g, 0, none⟩) n cap ∧ (B ≤ g ∧ g < w.heap.size) ∧ n ≤ cap ∧ ∀ (j : Nat) x, xs[j]? = some x → w.cell? ⟨g, 0 + j, none⟩ = some x := by
  have hlt := h.lt
  have hc := @World.ownsRow.cells _ _ _ _ _ _ _ h
  rcases h.2 with ⟨_, h0⟩ | ⟨g, cap, cur, rfl, hg, hb, hcap, _, _, _⟩
  · exact absurd h0 hn
  · refine ⟨g, cap, rfl, hlt g rfl, hcap, fun j x hj => ?_⟩
    have := hc (g := g) rfl j x hj
    cases j with
    | zero => simpa [Addr.add] using this
    | succ j => simpa [Addr.add] using this

theorem fmtR_le (r : Nat × Nat) (h1 : r.1 < 32) (h2 : r.2 < 32) : (fmtR r).length ≤ 5 := by
  have a := digits_len r.1 (by omega)
  have b := digits_len r.2 (by omega)
  unfold fmtR
  split
  · omega
  · simp; omega

theorem rngs_lt : ∀ (f m : Nat), m < 4294967296 → ∀ r ∈ rngs f m, r.1 < 32 ∧ r.2 < 32
  | 0, _, _, r, h => by simp [rngs] at h
  | f + 1, m, hm, r, h => by
    unfold rngs at h
    by_cases h0 : m = 0
    · simp [h0] at h
    · rw [if_neg h0] at h
      rcases List.mem_cons.1 h with rfl | h
      · obtain ⟨l1, _, _⟩ := lo_bits m h0 hm
        obtain ⟨a1, a2, _, _⟩ := ln_bits m h0 hm
        exact ⟨l1, by show lo m + ln m - 1 < 32; omega⟩
      · exact rngs_lt f (nxt m) (nxt_lt m hm) r h

theorem join_len (sep : List UInt8) (b : Nat) : ∀ xs : List (List UInt8), (∀ x ∈ xs, x.length ≤ b) → (Lib.join xs sep).length ≤ xs.length * (b + sep.length)
  | [], _ => by simp [Lib.join_nil]
  | [x], h => by
    rw [Lib.join_one]
    have := h x (by simp)
    simp; omega
  | x :: y :: r, h => by
    have ih := join_len sep b (y :: r) (fun z hz => h z (List.mem_cons_of_mem _ hz))
    have hx := h x (by simp)
    have e : Lib.join (x :: y :: r) sep = x ++ sep ++ Lib.join (y :: r) sep := by simp [Lib.join, List.intercalate, List.intersperse]
    rw [e]
    simp only [List.length_append, List.length_cons, Nat.add_mul] at ih ⊢
    omega

theorem join_row (g cap : Nat) (done : List (Nat × Nat)) (w : World) (hcells : ∀ (j : Nat) x, (done.map fun r => Value.string (strR r))[j]? = some x → w.cell? ⟨g, 0 + j, none⟩ = some x)
    (hg : g < w.heap.size) (hcap : done.length ≤ cap) (hl : done.length ≤ 32) (hr : ∀ r ∈ done, r.1 < 32 ∧ r.2 < 32) :
    Calls Tryd.prog 33 #[.slice (some ⟨g, 0, none⟩) done.length cap, .string ⟨#[44]⟩] w fun e w' => e = .returned (.string ⟨(Lib.join (done.map fmtR) [44]).toArray⟩) ∧ Below w.heap.size w w' := by
  have e1 : (done.map strR).map (fun x => x.data.toList) = done.map fmtR := by
    rw [List.map_map]; apply List.map_congr_left; intro r _; simp [strR]
  have e2 : (⟨#[44]⟩ : ByteArray).data.toList = [44] := rfl
  have len := join_len [44] 5 (done.map fmtR) (fun x hx => by
    obtain ⟨r, hr', rfl⟩ := List.mem_map.1 hx
    exact fmtR_le r (hr r hr').1 (hr r hr').2)
  have c := Tryd.strings_Join g 0 cap (done.map strR) ⟨#[44]⟩ w (fun j x hj => hcells j (.string x) (by
      rw [List.getElem?_map] at hj ⊢
      cases hd : done[j]? with
      | none => rw [hd] at hj; simp at hj
      | some r => rw [hd] at hj; simp at hj; simp [hj])) hg (by simp; omega) (by simpa using hcap) (by rw [e1, e2]; simp at len; omega)
  rw [e1, e2, List.length_map] at c
  exact c

theorem cnt_pos (m : Nat) (h0 : m ≠ 0) (h : m < 4294967296) : 0 < (mem m).length := by
  have := cnt_nxt m h0 h
  omega

theorem andNot_num (m : Nat) (h0 : m ≠ 0) (h : m < 4294967296) : bits .andNot .u64 (m : Int) ((2 ^ (top m + 1) - 2 ^ lo m : Nat) : Int) = ((nxt m : Nat) : Int) := by
  obtain ⟨a1, a2, _, _⟩ := ln_bits m h0 h
  have hs := span_lt (lo m) (top m) (by unfold top; omega)
  rw [u64_andNot_nat m _ (by omega) hs]
  unfold nxt
  rw [show top m + 1 = lo m + ln m by unfold top; omega]

theorem ownsRow_drewN {w : World} {base : Nat} {e : TypeId} {size : Nat} {v : Value} {n : Nat} {xs : List Value} (h : w.ownsRow base e size v n xs) (k : Nat) : (w.drewN k).ownsRow base e size v n xs := h

theorem Tabs.below {B : Nat} {w w' : World} (h : Tabs w) (hb : Below B w w') (hB : 0 < B) : Tabs w' := fun j hj => (hb.cell (p := ⟨0, j, none⟩) hB).trans (h j hj)

set_option maxHeartbeats 1000000 in
set_option maxRecDepth 100000 in
theorem format_some (m M : Nat) (hb : bits .and .u64 (m : Int) 4294967295 = (M : Int)) (hM : M < 4294967295) (hM0 : M ≠ 0) (w : World) (hT : Tabs w) (h0w : 0 < w.heap.size) :
    Calls Tryd.prog 20 #[.int .u64 m] w fun e w' => e = .returned (.string ⟨(Lib.join ((rngs 33 M).map fmtR) [44]).toArray⟩) ∧ Below w.heap.size w w' := by
  obtain ⟨i0, hi, hz0, hz1, hz2⟩ := info_parts Tryd.info9
  have t1 : ((M : Int) == 4294967295) = false := by simp; omega
  have t2 : ((M : Int) == 0) = false := by simp; omega
  have hcM := cnt_le M
  have HT := Lib.hid hT
  clear hT
  go_enter Tryd.func20, Tryd.ntmps20
  go_wp2_with fail
  go_loopw [0, 3] (fun x v wr => ∃ (cur f : Nat) (done : List (Nat × Nat)), x = .int .u64 (cur : Int) ∧ cur < 4294967296 ∧ Hid (rngs 33 M = done ++ rngs f cur) ∧ (mem cur).length ≤ f ∧
      done.length + (mem cur).length ≤ 32 ∧ wr.ownsRow w.heap.size 9 1 v done.length (done.map fun r => Value.string (strR r)) ∧ Below w.heap.size w wr)
    (fun x _ _ => (mem (intOf x).toNat).length)
  case atStart => exact ⟨M, 33, [], rfl, by omega, Lib.hid rfl, by omega, by simpa using hcM, World.ownsRow_nil _ _ _ _, Below.refl _ _⟩
  case round =>
    obtain ⟨cur, f, done, rfl, hcur, HR, hf, hd, hown, hbel⟩ := hrel
    by_cases hz : cur = 0
    · have HD : Hid (rngs 33 M = done) := Lib.hid (by rw [HR.out, hz]; cases f <;> simp [rngs])
      have HM0 := Lib.hid hM0
      have hdn : done ≠ [] := by
        intro hc
        have := HD.out
        rw [hc] at this
        simp [rngs, hM0] at this
      obtain ⟨g, cap, hu3, hg, hcap, hcells⟩ := row_cells hown (by intro hc; exact hdn (List.length_eq_zero_iff.1 hc))
      subst hu3
      subst hz
      have hz' : ((0 : Int) != 0) = false := by decide
      have CJ := Lib.hid (join_row g cap done wr hcells (hg.2) hcap (by omega) (by rw [← HD.out]; exact rngs_lt _ _ (by omega)))
      go_wp2_with fail
      refine CJ.out.mono ?_
      rintro e w' ⟨rfl, hb2⟩
      go_wp2_with fail
      go_ret
      exact ⟨ret_str (by rw [HD.out]), hbel.trans (hb2.mono hbel.size)⟩
    · have hne : ((cur : Int) != 0) = true := by simp; omega
      have C1 := Lib.hid (lowest_any cur hz hcur wr (HT.out.below hbel h0w))
      obtain ⟨l1, _, _⟩ := lo_bits cur hz hcur
      obtain ⟨a1, a2, _, _⟩ := ln_bits cur hz hcur
      have hhi : top cur < 32 := by unfold top; omega
      have hlohi : lo cur ≤ top cur := by unfold top; omega
      have HNX := Lib.hid (andNot_num cur hz hcur)
      have HC := Lib.hid (cnt_nxt cur hz hcur)
      have HNL := Lib.hid (nxt_lt cur hcur)
      have HRS : Hid (∀ f', f = f' + 1 → rngs f cur = (lo cur, top cur) :: rngs f' (nxt cur)) := Lib.hid (by intro f' hf'; subst hf'; simp [rngs, hz, top])
      have HP := Lib.hid (cnt_pos cur hz hcur)
      generalize lo cur = L at *
      generalize top cur = T at *
      generalize nxt cur = N at *
      go_wp2_with fail
      refine C1.out.mono ?_
      rintro e w' ⟨rfl, rfl⟩
      go_wp2_with fail
      refine (fmtRange_any L T l1 hhi _).mono ?_
      rintro e w' ⟨rfl, rfl⟩
      have hbs := hbel.size
      go_wp2_with (first
        | (at_builtin; refine wpList_append_own _ rfl _ _ 45 rfl w.heap.size 9 i0 (.string ⟨#[]⟩) 1 16 Tryd.underlying45 hi hz0 hz1 hz2 rfl (by decide) _ _ _ rfl (hown.alloc _) ⟨wr.heap.size, 0, none⟩ 1 1 [.string ⟨(fmtR (L, T)).toArray⟩] rfl rfl ?c1 ?c2 ?c3 ?c4 ?c5 ?_)
        | fail)
      case c1 =>
        intro j u hj
        match j, hj with
        | 0, hj => simp at hj; subst hj; simp [Addr.add]
      case c2 => intro u hu; simp at hu; subst hu; rfl
      case c3 => unfold maxLen; omega
      case c4 => omega
      case c5 => simp; omega
      intro v' w1 hown' hgrow _
      go_wp2_with fail
      refine (span_any L T _ hlohi hhi).mono ?_
      rintro e w' ⟨rfl, nq, rfl⟩
      go_wp2_with fail
      obtain ⟨f', hf'⟩ : ∃ f', f = f' + 1 := ⟨f - 1, by have := HP.out; omega⟩
      refine ⟨⟨N, f', done ++ [(L, T)], by rw [HNX.out], HNL.out, Lib.hid ?_, by have := HC.out; omega, by have := HC.out; simp; omega, ?_, ?_⟩, ?_⟩
      · rw [HR.out, HRS.out f' hf', List.append_assoc]; rfl
      · have e : (done ++ [(L, T)]).map (fun r => Value.string (strR r)) = done.map (fun r => Value.string (strR r)) ++ [Value.string ⟨(fmtR (L, T)).toArray⟩] := by simp [strR]
        rw [e, List.length_append]
        exact (ownsRow_drewN hown' nq)
      · exact below_drewN ((hbel.alloc hbs _).grown hgrow (by simp; omega) (fun k hk => (hown.lt k hk).1)) _
      · rw [HNX.out]; exact HC.out

/-- the text of a set -/
def fmtS (m : Nat) : List UInt8 :=
  if m % 4294967296 = 4294967295 then [97, 108, 108] else if m % 4294967296 = 0 then [110, 111, 110, 101] else Lib.join ((rngs 33 (m % 4294967296)).map fmtR) [44]

theorem format_any (m : Nat) (hm : m < 18446744073709551616) (w : World) (hT : Tabs w) (h0w : 0 < w.heap.size) :
    Calls Tryd.prog 20 #[.int .u64 m] w fun e w' => e = .returned (.string ⟨(fmtS m).toArray⟩) ∧ Below w.heap.size w w' := by
  have hb := low_num m hm
  unfold fmtS
  by_cases h1 : m % 4294967296 = 4294967295
  · rw [if_pos h1]
    rw [h1] at hb
    exact (format_full m hb w).mono (by rintro e w' ⟨rfl, rfl⟩; exact ⟨rfl, Below.refl _ _⟩)
  · rw [if_neg h1]
    by_cases h2 : m % 4294967296 = 0
    · rw [if_pos h2]
      rw [h2] at hb
      exact (format_none m hb w).mono (by rintro e w' ⟨rfl, rfl⟩; exact ⟨rfl, Below.refl _ _⟩)
    · rw [if_neg h2]
      exact format_some m _ hb (by omega) h2 w hT h0w
end Go.Proofs.YtjckgehlojcinaaDoor.mk