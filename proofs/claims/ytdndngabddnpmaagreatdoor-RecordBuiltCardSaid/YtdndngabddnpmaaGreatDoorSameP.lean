/-
  Same and SamePairs of the reference compare records.
-/
import Derived.Test.YtdndngabddnpmaaGreatDoorRChk
import Derived.Laws.StructEq
namespace Go.Proofs.YtdndngabddnpmaaGreatDoor.rd
open Go.RowKit Go.Proofs.YtdndngabddnpmaaGreatDoor.cm Go.Proofs.YtdndngabddnpmaaGreatDoor.vl

def samep (p q : PairP) : Bool := p.name == q.name && (p.kind == q.kind && (p.num == q.num && p.text == q.text))
theorem samep_iff (p q : PairP) : samep p q = true ↔ p = q := by
  cases p; cases q
  simp [samep]
theorem bs_beq (a b : List UInt8) : ((bs a).toList == (bs b).toList) = (a == b) := by
  rw [str_beq, bs_data, Bool.eq_iff_iff]
  simp

theorem neq_pair (p q : PairP) (W : World) : (binOp .neq 39 (.agg #[.string (bs p.name), .int .i64 p.kind, .int .i64 p.num, .string (bs p.text)]) (.agg #[.string (bs q.name), .int .i64 q.kind, .int .i64 q.num, .string (bs q.text)])).run Tryz.prog W = .ok (.bool (!samep p q)) W := by
  rw [run_neq_struct, run_equalIn_agg _ _ _ _ _ (by kernel_rfl) (by kernel_rfl)]
  have e1 := bs_beq p.name q.name
  have e2 := bs_beq p.text q.text
  simp [Op.eqFields, go_sem, samep, e1, e2]
  by_cases a1 : p.name = q.name
  · by_cases a2 : p.kind = q.kind
    · by_cases a3 : p.num = q.num
      · by_cases a4 : p.text = q.text
        · simp [a1, a2, a3, a4]
        · simp [a1, a2, a3, a4]
      · simp [a1, a2, a3]
    · simp [a1, a2]
  · simp [a1]

def sameL : List PairP → List PairP → Bool
  | [], [] => true
  | p :: r, q :: s => samep p q && sameL r s
  | [], _ :: _ => false
  | _ :: _, [] => false
theorem sameL_iff : ∀ a b, sameL a b = true ↔ a = b
  | [], [] => by simp [sameL]
  | p :: r, q :: s => by simp [sameL, samep_iff, sameL_iff r s]
  | [], _ :: _ => by simp [sameL]
  | _ :: _, [] => by simp [sameL]
theorem sameL_len {a b : List PairP} (h : a.length ≠ b.length) : sameL a b = false := by
  cases hs : sameL a b
  · rfl
  · rw [(sameL_iff a b).1 hs] at h; exact absurd rfl h
/-- the pairs before k are equal -/
def SmTo (a b : List PairP) (k : Nat) : Prop := sameL a b = sameL (a.drop k) (b.drop k)
theorem SmTo.zero (a b : List PairP) : SmTo a b 0 := rfl
theorem SmTo.hit {a b : List PairP} {k : Nat} {p q : PairP} (h : SmTo a b k) (hp : a[k]? = some p) (hq : b[k]? = some q) (hs : samep p q = false) : sameL a b = false := by
  unfold SmTo at h
  obtain ⟨hk, rfl⟩ := List.getElem?_eq_some_iff.1 hp
  obtain ⟨hj, rfl⟩ := List.getElem?_eq_some_iff.1 hq
  rw [h, List.drop_eq_getElem_cons hk, List.drop_eq_getElem_cons hj, sameL, hs]
  rfl
theorem SmTo.succ {a b : List PairP} {k : Nat} {p q : PairP} (h : SmTo a b k) (hp : a[k]? = some p) (hq : b[k]? = some q) (hs : samep p q = true) : SmTo a b (k + 1) := by
  unfold SmTo at h ⊢
  obtain ⟨hk, rfl⟩ := List.getElem?_eq_some_iff.1 hp
  obtain ⟨hj, rfl⟩ := List.getElem?_eq_some_iff.1 hq
  rw [h, List.drop_eq_getElem_cons hk, List.drop_eq_getElem_cons hj, sameL, hs]
  rfl
theorem SmTo.all {a b : List PairP} (h : SmTo a b a.length) (hl : a.length = b.length) : sameL a b = true := by
  unfold SmTo at h
  rw [h, List.drop_length, hl, List.drop_length]
  rfl

set_option maxRecDepth 100000 in
set_option maxHeartbeats 4000000 in
theorem samePairs_any (a a' : Option Addr) (cap cap' : Nat) (ps qs : List PairP) (w : World) (hP : PairsAt w a ps) (hQ : PairsAt w a' qs) (hl : ps.length ≤ 9223372036854775807) :
    Calls Tryz.prog 33 #[.slice a ps.length cap, .slice a' qs.length cap'] w fun e w' => e = .returned (.bool (sameL ps qs)) ∧ Below w.heap.size w w' := by
  by_cases hlen : ps.length = qs.length
  · have HP := Lib.hid hP
    have HQ := Lib.hid hQ
    have e0 : ((ps.length : Int) != (qs.length : Int)) = false := by simp [hlen]
    have HL := Lib.hid hlen
    clear hP hQ hlen
    go_enter Tryz.func33, Tryz.ntmps33
    go_wp2_with fail
    go_loopw [5] (fun i wr => ∃ k q : Nat, k ≤ ps.length ∧ i = .int .i64 k ∧ Hid (SmTo ps qs k) ∧ wr = w.drewN q) (fun i _ => ps.length - (intOf i).toNat)
    case atStart => exact ⟨0, 0, Nat.zero_le _, rfl, Lib.hid (SmTo.zero _ _), rfl⟩
    case round =>
      obtain ⟨k, q, hk, rfl, HS, rfl⟩ := hrel
      by_cases hlt : k < ps.length
      · obtain ⟨b, o, p, rfl, hpk, hpa, -, -⟩ := HP.out.get hlt
        obtain ⟨b', o', p', rfl, hqk, hqa, -, -⟩ := HQ.out.get (k := k) (by rw [← HL.out]; exact hlt)
        have HPK := Lib.hid hpk
        have HQK := Lib.hid hqk
        obtain ⟨a0, a1, a2, a3⟩ := hpa
        obtain ⟨b0, b1, b2, b3⟩ := hqa
        have hn := neq_pair p p'
        have hkk : (k : Int) < (ps.length : Int) := by omega
        have hk0 : (0 : Int) ≤ (k : Int) := by omega
        have hkq : (k : Int) < (qs.length : Int) := by have := HL.out; omega
        clear hpk hqk
        cases hs : samep p p'
        · have HF := Lib.hid (HS.out.hit HPK.out HQK.out hs)
          rw [hs] at hn
          clear hs
          go_wp2_with fail
          go_quiet (fail)
          go_wp2_with fail
          go_ret
          exact ⟨ret_bool HF.out.symm, below_drewN (below_drewN (Below.refl _ _) _) _⟩
        · have HN2 := Lib.hid (HS.out.succ HPK.out HQK.out hs)
          rw [hs] at hn
          clear hs
          go_wp2_with fail
          go_quiet (fail)
          go_wp2_with fail
          exact ⟨⟨k + 1, _, by omega, by go_num, HN2, rfl⟩, by simp [intOf]; omega⟩
      · have hke : SmTo ps qs ps.length := by rw [← show k = ps.length by omega]; exact HS.out
        have HF := Lib.hid (hke.all HL.out)
        clear hke
        go_wp2_with fail
        go_ret
        exact ⟨ret_bool HF.out.symm, below_drewN (Below.refl _ _) _⟩
  · have HF := Lib.hid (sameL_len hlen)
    have e0 : ((ps.length : Int) != (qs.length : Int)) = true := by simp; omega
    clear hlen
    go_enter Tryz.func33, Tryz.ntmps33
    go_wp2_with fail
    go_ret
    exact ⟨ret_bool HF.out.symm, Below.refl _ _⟩

def sameR (t tm sr t' tm' sr' : Int) (ps qs : List PairP) : Bool := (t == t') && ((tm == tm') && ((sr == sr') && sameL ps qs))
theorem sameR_iff (t tm sr t' tm' sr' : Int) (ps qs : List PairP) : sameR t tm sr t' tm' sr' ps qs = true ↔ t = t' ∧ tm = tm' ∧ sr = sr' ∧ ps = qs := by
  simp [sameR, sameL_iff]

set_option maxRecDepth 100000 in
set_option maxHeartbeats 4000000 in
theorem Same_any (t tm sr t' tm' sr' : Int) (a a' : Option Addr) (cap cap' : Nat) (ps qs : List PairP) (w : World) (hP : PairsAt w a ps) (hQ : PairsAt w a' qs) (hl : ps.length ≤ 9223372036854775807) :
    Calls Tryz.prog 15 #[.agg #[.int .i64 t, .int .i64 tm, .int .i64 sr, .slice a ps.length cap], .agg #[.int .i64 t', .int .i64 tm', .int .i64 sr', .slice a' qs.length cap']] w
      fun e w' => e = .returned (.bool (sameR t tm sr t' tm' sr' ps qs)) ∧ Below w.heap.size w w' := by
  have h0 : Below w.heap.size w (w.alloc (.cells #[.int .i64 t, .int .i64 tm, .int .i64 sr, .slice a ps.length cap] 29)) := (Below.refl _ _).alloc (Nat.le_refl _) _
  have h1 := h0.alloc h0.size (.cells #[.int .i64 t', .int .i64 tm', .int .i64 sr', .slice a' qs.length cap'] 29)
  have CS := Lib.hid (samePairs_any a a' cap cap' ps qs _ (hP.below h1) (hQ.below h1) hl)
  have q1 := (Quad.new w 29 (.int .i64 t) (.int .i64 tm) (.int .i64 sr) (.slice a ps.length cap)).alloc (.cells #[.int .i64 t', .int .i64 tm', .int .i64 sr', .slice a' qs.length cap'] 29)
  have q2 := Quad.new1 (w.alloc (.cells #[.int .i64 t, .int .i64 tm, .int .i64 sr, .slice a ps.length cap] 29)) 29 (w.heap.size + 1) (.int .i64 t') (.int .i64 tm') (.int .i64 sr') (.slice a' qs.length cap') (heap_alloc _ _)
  obtain ⟨c0, c1, c2, c3, _, _, _, _⟩ := q1
  obtain ⟨d0, d1, d2, d3, _, _, _, _⟩ := q2
  unfold sameR
  clear hP hQ h0
  by_cases e0 : (t == t') = true
  · by_cases e1 : (tm == tm') = true
    · by_cases e2 : (sr == sr') = true
      · rw [e0, e1, e2]
        go_enter Tryz.func15, Tryz.ntmps15
        go_wp2_with fail
        refine CS.out.mono ?_
        rintro e w' ⟨rfl, hb⟩
        go_wp2_with fail
        go_ret
        exact ⟨by simp, h1.trans (hb.mono h1.size)⟩
      · have e2 : (sr == sr') = false := by simpa using e2
        rw [e0, e1, e2]
        go_enter Tryz.func15, Tryz.ntmps15
        go_wp2_with fail
        go_ret
        exact ⟨rfl, h1⟩
    · have e1 : (tm == tm') = false := by simpa using e1
      rw [e0, e1]
      go_enter Tryz.func15, Tryz.ntmps15
      go_wp2_with fail
      go_ret
      exact ⟨rfl, h1⟩
  · have e0 : (t == t') = false := by simpa using e0
    rw [e0]
    go_enter Tryz.func15, Tryz.ntmps15
    go_wp2_with fail
    go_ret
    exact ⟨rfl, h1⟩
end Go.Proofs.YtdndngabddnpmaaGreatDoor.rd
