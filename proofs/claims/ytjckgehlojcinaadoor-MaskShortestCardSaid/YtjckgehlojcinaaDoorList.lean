/-
  mask.List and the reference's List return the members of a set; same compares lists.
-/
import Derived.Test.YtjckgehlojcinaaDoorFmt
import Derived.Laws.Bits128
namespace Go.Proofs.YtjckgehlojcinaaDoor.mk
open Go.RowKit

/-- the numbers of a list as the walk has them -/
def ints (l : List Nat) : List Int := l.map Int.ofNat

/-- a call returned a slice of the numbers l, and nothing that was there has turned -/
def RetInts (w : World) (l : List Nat) (e : Ending) (w' : World) : Prop := ∃ v, e = .returned v ∧ IsInts w' v (ints l) ∧ Below w.heap.size w w'

theorem IsInts.below {w w' : World} {v : Value} {zs : List Int} (h : IsInts w v zs) (hb : Below w.heap.size w w') : IsInts w' v zs := by
  rcases h with h | ⟨b, o, c, hv, hc⟩
  · exact .inl h
  · refine .inr ⟨b, o, c, hv, fun k hk => ?_⟩
    have := hc k hk
    have hlt : b < w.heap.size := by
      apply Nat.lt_of_not_le
      intro hle
      have hn : w.heap[b]? = none := by simp; omega
      simp [World.cell?, hn] at this
    rw [hb.cell (p := ⟨b, o + k, none⟩) hlt, this]

/-- a call returned a number from 0 to 127 -/
def SmallRet (e : Ending) : Prop := ∃ n : Nat, n ≤ 127 ∧ e = .returned (.int .i64 n)

theorem small_ret (x : Int) : SmallRet (.returned (.int .i64 (bits .and .i64 x 127))) := by
  refine ⟨(x % 128).toNat, by omega, ?_⟩
  rw [i64_and127]
  exact ret_int (by omega)

theorem ones_any (x : Nat) (w : World) :
    Calls Tryd.prog 29 #[.int .u64 x] w fun e w' => SmallRet e ∧ w = w' := by
  go_enter Tryd.func29, Tryd.ntmps29
  go_wp2
  go_ret
  exact ⟨small_ret _, rfl⟩

theorem Tryd.info3 : (Tryd.prog.info? 3).map (fun i => (i.zero, i.size, i.bytes)) = some (some (.int .i64 0), 1, 8) := by kernel_rfl

theorem ints_of_own {w : World} {B : Nat} {v : Value} {l : List Nat} (h : w.ownsRow B 3 1 v l.length (l.map fun n : Nat => Value.int .i64 (n : Int))) : IsInts w v (ints l) := by
  have hc := @World.ownsRow.cells _ _ _ _ _ _ _ h
  rcases h.2 with ⟨rfl, h0⟩ | ⟨g, cap, cur, rfl, hg, hb, hcap, _, _, _⟩
  · refine .inl ⟨none, 0, ?_, ?_⟩
    · rfl
    · have : l = [] := List.length_eq_zero_iff.1 h0
      subst this; rfl
  · refine .inr ⟨g, 0, cap, by simp [ints], fun k hk => ?_⟩
    have hk' : k < l.length := by simpa [ints] using hk
    have := hc (g := g) rfl k (.int .i64 ((l.getD k 0 : Nat) : Int)) (by simp [List.getD, hk'])
    have e : (ints l).getD k 0 = ((l.getD k 0 : Nat) : Int) := by simp [ints, List.getD, hk']
    rw [e]
    cases k with
    | zero => simpa [Addr.add] using this
    | succ k => simpa [Addr.add] using this

set_option maxHeartbeats 1000000 in
theorem list_any (m : Nat) (hm : m < 18446744073709551616) (w : World) (hT : Tabs w) (h0w : 0 < w.heap.size) :
    Calls Tryd.prog 18 #[.int .u64 m] w (RetInts w (mem (m % 4294967296))) := by
  obtain ⟨i0, hi, hz0, hz1, hz2⟩ := info_parts Tryd.info3
  have hb := low_num m hm
  have hM : m % 4294967296 < 4294967296 := by omega
  generalize m % 4294967296 = M at *
  have HT := Lib.hid hT
  clear hT
  go_enter Tryd.func18, Tryd.ntmps18
  go_wp2_with fail
  refine (ones_any M _).mono ?_
  rintro e w' ⟨⟨n, hn, rfl⟩, rfl⟩
  go_wp2_with (first
    | (at_make; refine wpList_make_own _ rfl _ _ 22 rfl w.heap.size 3 i0 (.int .i64 0) 1 Tryd.underlying22 hi hz0 hz1 .i64 .i64 n n rfl rfl rfl ?c1 ?c2 ?c3 ?_)
    | fail)
  case c1 => rw [hz2]; omega
  case c2 => unfold maxLen; omega
  case c3 => omega
  intro w1 hown1 hgrow1
  have hb1 : Below w.heap.size w w1 := (Below.refl _ _).grown hgrow1 (Nat.le_refl _) (fun k hk => by cases hk)
  go_wp2_with fail
  go_loopw [3, 4] (fun x v wr => ∃ (cur : Nat) (done : List Nat), x = .int .u64 (cur : Int) ∧ cur < 4294967296 ∧ Hid (mem M = done ++ mem cur) ∧
      wr.ownsRow w.heap.size 3 1 v done.length (done.map fun r : Nat => Value.int .i64 (r : Int)) ∧ Below w.heap.size w wr)
    (fun x _ _ => (mem (intOf x).toNat).length)
  case atStart => exact ⟨M, [], rfl, hM, Lib.hid rfl, hown1, hb1⟩
  case round =>
    obtain ⟨cur, done, rfl, hcur, HR, hown, hbel⟩ := hrel
    have hdl : done.length ≤ 32 := by have h1 := cnt_le M; have := HR.out; rw [this] at h1; simp at h1; omega
    have hbs := hbel.size
    clear hown1 hgrow1 hb1
    by_cases hz : cur = 0
    · have HD : Hid (mem M = done) := Lib.hid (by rw [HR.out, hz, mem_zero, List.append_nil])
      subst hz
      have hz' : ((0 : Int) != 0) = false := by decide
      go_wp2_with fail
      go_ret
      exact ⟨_, rfl, by rw [HD.out]; exact ints_of_own hown, hbel⟩
    · have hne : ((cur : Int) != 0) = true := by simp; omega
      have C1 := Lib.hid (tz_any cur hz (by omega) wr (HT.out.below hbel h0w))
      have HM := Lib.hid (mem_clr cur hz hcur)
      have HN := Lib.hid (clr_num cur hz hcur)
      have HL := Lib.hid (clr_lt cur hcur)
      have hl1 : Lib.ctz 64 cur < 32 := (lo_bits cur hz hcur).1
      have HLO : Hid (Lib.ctz 64 cur = lo cur) := Lib.hid rfl
      generalize Lib.ctz 64 cur = L at *
      generalize clr cur = N at *
      go_wp2_with fail
      refine C1.out.mono ?_
      rintro e w' ⟨rfl, rfl⟩
      go_wp2_with (first
        | (at_builtin; refine wpList_append_own _ rfl _ _ 22 rfl w.heap.size 3 i0 (.int .i64 0) 1 8 Tryd.underlying22 hi hz0 hz1 hz2 rfl (by decide) _ _ _ rfl (hown.alloc _) ⟨wr.heap.size, 0, none⟩ 1 1 [.int .i64 (L : Int)] rfl rfl ?c4 ?c5 ?c6 ?c7 ?c8 ?_)
        | fail)
      case c4 =>
        intro j u hj
        match j, hj with
        | 0, hj => simp at hj; subst hj; simp [Addr.add]
      case c5 => intro u hu; simp at hu; subst hu; rfl
      case c6 => unfold maxLen; omega
      case c7 => omega
      case c8 => simp; omega
      intro v' w1 hown' hgrow _
      go_wp2_with fail
      refine ⟨⟨N, done ++ [L], by rw [HN.out], HL.out, Lib.hid ?_, ?_, ?_⟩, ?_⟩
      · rw [HR.out, HM.out, List.append_assoc, ← HLO.out]; rfl
      · rw [List.length_append, List.map_append]; exact hown'
      · exact ((hbel.alloc hbs _).grown hgrow (by simp; omega) (fun k hk => (hown.lt k hk).1))
      · rw [HN.out]
        show (mem N).length < (mem cur).length
        rw [HM.out]; simp

/-- the members of a set below k -/
def memTo (m k : Nat) : List Nat := (List.range k).filter fun n => m.testBit n

theorem memTo_succ (m k : Nat) : memTo m (k + 1) = memTo m k ++ (if m.testBit k then [k] else []) := by
  unfold memTo
  rw [List.range_succ, List.filter_append]
  cases h : m.testBit k <;> simp [h]

theorem memTo_le (m k : Nat) : (memTo m k).length ≤ k := by
  unfold memTo
  have := List.length_filter_le (fun n => m.testBit n) (List.range k)
  simpa using this

theorem memTo_low (m : Nat) : memTo m 32 = mem (m % 4294967296) := by
  unfold memTo mem
  apply List.filter_congr
  intro x hx
  have hx' := List.mem_range.1 hx
  have := Nat.testBit_mod_two_pow m 32 x
  rw [show (2 : Nat) ^ 32 = 4294967296 from rfl] at this
  rw [this]
  simp [hx']

set_option maxHeartbeats 1000000 in
set_option maxRecDepth 100000 in
theorem rlist_any (m : Nat) (hm : m < 18446744073709551616) (w : World) :
    Calls Tryd.prog 19 #[.int .u64 m] w (RetInts w (mem (m % 4294967296))) := by
  obtain ⟨i0, hi, hz0, hz1, hz2⟩ := info_parts Tryd.info3
  go_enter Tryd.func19, Tryd.ntmps19
  go_wp2_with fail
  go_loopw [3, 4] (fun v i wr => ∃ k : Nat, k ≤ 32 ∧ i = .int .i64 k ∧ wr.ownsRow w.heap.size 3 1 v (memTo m k).length ((memTo m k).map fun r : Nat => Value.int .i64 (r : Int)) ∧ Below w.heap.size w wr)
    (fun _ i _ => 32 - (intOf i).toNat)
  case atStart => exact ⟨0, by omega, rfl, World.ownsRow_nil _ _ _ _, Below.refl _ _⟩
  case round =>
    obtain ⟨k, hk, rfl, hown, hbel⟩ := hrel
    have hdl := memTo_le m k
    have hbs := hbel.size
    by_cases hlt : k < 32
    · have HS := Lib.hid (memTo_succ m k)
      have HH : Hid (hasB m k = m.testBit k) := Lib.hid (by simp [hasB]; omega)
      have C1 := fun W => rhas_any m (k : Int) W hm
      rw [HH.out] at C1
      have C1 := Lib.hid C1
      generalize hL : memTo m k = L at *
      have HL := Lib.hid hL
      clear hL
      cases hbit : m.testBit k
      · rw [hbit] at C1 HS
        clear hbit HH
        go_wp2_with fail
        refine (C1.out _).mono ?_
        rintro e w' ⟨rfl, rfl⟩
        go_wp2_with fail
        refine ⟨⟨k + 1, by omega, by go_num, ?_, hbel⟩, ?_⟩
        · rw [HS.out]; simpa using hown
        · simp [intOf]; omega
      · rw [hbit] at C1 HS
        clear hbit HH
        go_wp2_with fail
        refine (C1.out _).mono ?_
        rintro e w' ⟨rfl, rfl⟩
        go_wp2_with (first
          | (at_builtin; refine wpList_append_own _ rfl _ _ 22 rfl w.heap.size 3 i0 (.int .i64 0) 1 8 Tryd.underlying22 hi hz0 hz1 hz2 rfl (by decide) _ _ _ rfl (hown.alloc _) ⟨wr.heap.size, 0, none⟩ 1 1 [.int .i64 (k : Int)] rfl rfl ?c4 ?c5 ?c6 ?c7 ?c8 ?_)
          | fail)
        case c4 =>
          intro j u hj
          match j, hj with
          | 0, hj => simp at hj; subst hj; simp [Addr.add]
        case c5 => intro u hu; simp at hu; subst hu; rfl
        case c6 => unfold maxLen; omega
        case c7 => omega
        case c8 => simp; omega
        intro v' w1 hown' hgrow _
        go_wp2_with fail
        refine ⟨⟨k + 1, by omega, by go_num, ?_, ?_⟩, ?_⟩
        · rw [HS.out]; simpa using hown'
        · exact ((hbel.alloc hbs _).grown hgrow (by simp; omega) (fun k hk => (hown.lt k hk).1))
        · simp [intOf]; omega
    · obtain rfl : k = 32 := by omega
      have HE := Lib.hid (memTo_low m)
      go_wp2_with fail
      go_ret
      exact ⟨_, rfl, by rw [← HE.out]; exact ints_of_own hown, hbel⟩

set_option maxHeartbeats 1000000 in
/-- two slices of the same numbers are the same -/
theorem same_any (v v' : Value) (zs : List Int) (w : World) (hv : IsInts w v zs) (hv' : IsInts w v' zs) (hl : zs.length ≤ 1000) :
    Calls Tryd.prog 17 #[v, v'] w fun e w' => e = .returned (.bool true) ∧ ∃ k, w' = w.drewN k := by
  rcases hv with ⟨a, c, rfl, rfl⟩ | ⟨b, o, c, rfl, hc⟩
  · rcases hv' with ⟨a', c', rfl, _⟩ | ⟨b', o', c', rfl, hc'⟩
    all_goals
      go_enter Tryd.func17, Tryd.ntmps17
      go_wp2
      go_loop [5] (fun i => i = .int .i64 0) (fun _ => 0)
      case atStart => exact rfl
      case round =>
        subst hrel
        go_wp2
        go_ret
        exact ⟨rfl, 0, rfl⟩
  · by_cases hz : zs.length = 0
    · have hzs : zs = [] := List.length_eq_zero_iff.1 hz
      subst hzs
      rcases hv' with ⟨a', c', rfl, _⟩ | ⟨b', o', c', rfl, hc'⟩
      all_goals
        go_enter Tryd.func17, Tryd.ntmps17
        go_wp2
        go_loop [5] (fun i => i = .int .i64 0) (fun _ => 0)
        case atStart => exact rfl
        case round =>
          subst hrel
          go_wp2
          go_ret
          exact ⟨rfl, 0, rfl⟩
    · rcases hv' with ⟨a', c', rfl, hzs⟩ | ⟨b', o', c', rfl, hc'⟩
      · rw [hzs] at hz; exact absurd rfl hz
      · generalize hn : zs.length = n at *
        have HN := Lib.hid hn
        clear hn
        go_enter Tryd.func17, Tryd.ntmps17
        go_wp2
        go_loopw [5] (fun i wr => ∃ k : Nat, k ≤ n ∧ i = .int .i64 k ∧ ∃ q, wr = w.drewN q) (fun i _ => n - (intOf i).toNat)
        case atStart => exact ⟨0, Nat.zero_le _, rfl, 0, rfl⟩
        case round =>
          obtain ⟨k, hk, rfl, q, rfl⟩ := hrel
          by_cases hlt : k < n
          · have h1 := hc k hlt
            have h2 := hc' k hlt
            have HC := Lib.hid hc
            have HC' := Lib.hid hc'
            clear hc hc'
            generalize zs.getD k 0 = x at *
            go_wp2
            go_quiet (fail)
            go_wp2
            go_roundw
            case rel => exact ⟨k + 1, by omega, by go_num, _, rfl⟩
            case measure => simp [intOf]; omega
          · clear hc hc'
            go_wp2
            go_ret
            exact ⟨rfl, _, rfl⟩
end Go.Proofs.YtjckgehlojcinaaDoor.mk
