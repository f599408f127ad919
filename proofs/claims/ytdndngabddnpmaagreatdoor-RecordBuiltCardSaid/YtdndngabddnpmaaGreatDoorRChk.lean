/-
  Check of package record and of its reference return the same first error.
-/
import Derived.Test.YtdndngabddnpmaaGreatDoorFindP
import Derived.Test.YtdndngabddnpmaaGreatDoorRTab
import Derived.Test.YtdndngabddnpmaaGreatDoorChk
namespace Go.Proofs.YtdndngabddnpmaaGreatDoor.rd
open Go.RowKit Go.Proofs.YtdndngabddnpmaaGreatDoor.cm Go.Proofs.YtdndngabddnpmaaGreatDoor.vl

/-- the first error of a record, or 0 -/
def ckR (t tm sr : Int) (ps : List PairP) : Int := checkR ⟨t, tm, sr, ps⟩
theorem ck_bs (p : PairP) : ckI (bs p.name) p.kind p.num (bs p.text) = checkP p := by unfold ckI; rw [bs_data, bs_data]

def inTime (tm sr : Int) : Prop := (0 ≤ tm ∧ tm ≤ 1099511627776) ∧ (0 ≤ sr ∧ sr ≤ 1073741824)
theorem ckR_type {t tm sr : Int} {ps : List PairP} (h : isT t = false) : ckR t tm sr ps = 30 := by
  unfold ckR checkR; rw [if_pos (show (findT t).isSome = false from h)]
theorem ckR_stamp {t tm sr : Int} {ps : List PairP} (h : isT t = true) (h2 : ¬ inTime tm sr) : ckR t tm sr ps = 31 := by
  unfold ckR checkR
  rw [if_neg (show ¬ (findT t).isSome = false by rw [show (findT t).isSome = true from h]; simp)]
  unfold inTime at h2
  rw [if_pos (by dsimp only; omega)]
theorem ckR_pairs {t tm sr : Int} {ps : List PairP} (h : isT t = true) (h2 : inTime tm sr) (h3 : 24 < ps.length) : ckR t tm sr ps = 32 := by
  unfold ckR checkR
  rw [if_neg (show ¬ (findT t).isSome = false by rw [show (findT t).isSome = true from h]; simp)]
  unfold inTime at h2
  rw [if_neg (by dsimp only; omega), if_pos h3]
theorem ckR_rest {t tm sr : Int} {ps : List PairP} (h : isT t = true) (h2 : inTime tm sr) (h3 : ps.length ≤ 24) : ckR t tm sr ps = checkPs [] ps := by
  unfold ckR checkR
  rw [if_neg (show ¬ (findT t).isSome = false by rw [show (findT t).isSome = true from h]; simp)]
  unfold inTime at h2
  rw [if_neg (by dsimp only; omega), if_neg (by dsimp only; omega)]

/-- the pairs before k have no error -/
def CkTo (ps : List PairP) (k : Nat) : Prop := checkPs [] ps = checkPs ((ps.take k).map (·.name)) (ps.drop k)
theorem CkTo.zero (ps : List PairP) : CkTo ps 0 := rfl
theorem CkTo.bad {ps : List PairP} {k : Nat} {p : PairP} (h : CkTo ps k) (hp : ps[k]? = some p) (he : checkP p ≠ 0) : checkPs [] ps = checkP p := by
  unfold CkTo at h
  obtain ⟨hk, rfl⟩ := List.getElem?_eq_some_iff.1 hp
  rw [h, List.drop_eq_getElem_cons hk, checkPs, if_pos he]
theorem has_iff (ps : List PairP) (nm : List UInt8) (k : Nat) : hasP (ps.take k) (bs nm) = decide (nm ∈ (ps.take k).map (·.name)) := by
  unfold hasP findP
  rw [bs_data, Bool.eq_iff_iff, List.find?_isSome]
  simp only [beq_iff_eq, decide_eq_true_eq, List.mem_map]
theorem CkTo.twice {ps : List PairP} {k : Nat} {p : PairP} (h : CkTo ps k) (hp : ps[k]? = some p) (he : checkP p = 0) (hh : hasP (ps.take k) (bs p.name) = true) : checkPs [] ps = 33 := by
  unfold CkTo at h
  obtain ⟨hk, rfl⟩ := List.getElem?_eq_some_iff.1 hp
  rw [has_iff] at hh
  rw [h, List.drop_eq_getElem_cons hk, checkPs, if_neg (by simp [he]), if_pos (of_decide_eq_true hh)]
theorem CkTo.succ {ps : List PairP} {k : Nat} {p : PairP} (h : CkTo ps k) (hp : ps[k]? = some p) (he : checkP p = 0) (hh : hasP (ps.take k) (bs p.name) = false) : CkTo ps (k + 1) := by
  unfold CkTo at h ⊢
  obtain ⟨hk, rfl⟩ := List.getElem?_eq_some_iff.1 hp
  rw [has_iff] at hh
  rw [h, List.drop_eq_getElem_cons hk, checkPs, if_neg (by simp [he]), if_neg (of_decide_eq_false hh), List.take_succ_eq_append_getElem hk, List.map_append]
  rfl
theorem CkTo.all {ps : List PairP} (h : CkTo ps ps.length) : checkPs [] ps = 0 := by
  unfold CkTo at h
  rw [h, List.drop_length]
  rfl

theorem name_nil {t : Int} (h : isT t = false) : nameB t = ⟨#[]⟩ := by
  have hn : findT t = none := by unfold isT at h; cases hf : findT t; rfl; rw [hf] at h; cases h
  unfold nameB nameT; rw [hn]
theorem name_some {t : Int} (h : isT t = true) : ((nameB t).toList == []) = false ∧ (nameB t).toList.isEmpty = false := by
  have : nameB t ≠ ⟨#[]⟩ := by
    rcases find_cases h with rfl | rfl | rfl | rfl | rfl | rfl | rfl | rfl | rfl | rfl <;> decide
  exact ⟨nil_false this, nil_empty this⟩
theorem time_cases (tm sr : Int) : inTime tm sr ∨ tm < 0 ∨ (0 ≤ tm ∧ 1099511627776 < tm) ∨ ((0 ≤ tm ∧ tm ≤ 1099511627776) ∧ sr < 0) ∨ ((0 ≤ tm ∧ tm ≤ 1099511627776) ∧ 0 ≤ sr ∧ 1073741824 < sr) := by
  unfold inTime; omega

set_option maxRecDepth 100000 in
set_option maxHeartbeats 8000000 in
theorem Check_any (t tm sr : Int) (a : Option Addr) (cap : Nat) (ps : List PairP) (w : World) (hP : PairsAt w a ps) (hl : ps.length ≤ 9223372036854775807) (hc : ps.length ≤ cap) (hT : RecT w) :
    Calls Tryz.prog 19 #[.agg #[.int .i64 t, .int .i64 tm, .int .i64 sr, .slice a ps.length cap]] w fun e w' => e = .returned (.int .i64 (ckR t tm sr ps)) ∧ Below w.heap.size w w' := by
  have hb1 : Below w.heap.size w (w.alloc (.cells #[.int .i64 t, .int .i64 tm, .int .i64 sr, .slice a ps.length cap] 29)) := (Below.refl _ _).alloc (Nat.le_refl _) _
  have q1 := Quad.new w 29 (.int .i64 t) (.int .i64 tm) (.int .i64 sr) (.slice a ps.length cap)
  have CN := Name_any t _ (hT.below hb1 hT.pos)
  have HP := Lib.hid (fun W (h : Below w.heap.size w W) => hP.below h)
  clear hP hT
  by_cases ht : isT t = true
  · obtain ⟨n1, n2⟩ := name_some ht
    generalize nameB t = N at *
    have CN := Lib.hid CN
    rcases time_cases tm sr with htm | htm
    · by_cases hlen : 24 < ps.length
      · have HF := Lib.hid (ckR_pairs (ps := ps) ht htm hlen)
        unfold inTime at htm
        obtain ⟨⟨g1, g2⟩, g3, g4⟩ := htm
        have hlen' : (24 : Int) < (ps.length : Int) := by omega
        clear ht
        go_enter Tryz.func19, Tryz.ntmps19
        go_wp2_with fail
        refine CN.out.mono ?_
        rintro e w1 ⟨rfl, hb⟩
        have q := q1.below hb
        have hbw := hb1.trans (hb.mono hb1.size)
        obtain ⟨c0, c1, c2, c3, f0, f1, f2, f3⟩ := q
        clear hb hb1 q1
        go_wp2_with fail
        go_ret
        exact ⟨ret_int HF.out.symm, hbw⟩
      · have HR := Lib.hid (ckR_rest ht htm (by omega : ps.length ≤ 24))
        unfold inTime at htm
        obtain ⟨⟨g1, g2⟩, g3, g4⟩ := htm
        have hlen' : (ps.length : Int) ≤ 24 := by omega
        have x1 : decide (tm < 0) = false := by simp; omega
        have x2 : decide (1099511627776 < tm) = false := by simp; omega
        have x3 : decide (sr < 0) = false := by simp; omega
        have x4 : decide (1073741824 < sr) = false := by simp; omega
        have x5 : decide ((24 : Int) < (ps.length : Int)) = false := by simp; omega
        clear ht
        go_enter Tryz.func19, Tryz.ntmps19
        go_wp2_with fail
        refine CN.out.mono ?_
        rintro e w1 ⟨rfl, hb⟩
        have q := q1.below hb
        have hbw := hb1.trans (hb.mono hb1.size)
        obtain ⟨c0, c1, c2, c3, f0, f1, f2, f3⟩ := q
        clear hb hb1 q1
        go_wp2_with fail
        have hlw := World.block_lt_of_cell? w1 ⟨w.heap.size, 3, none⟩ c3
        clear c0 c1 c2 f0 f1 f2 f3
        go_loopw [38] (fun i wr => ∃ k : Nat, k ≤ ps.length ∧ i = .int .i64 k ∧ Hid (CkTo ps k) ∧ Below w.heap.size w wr ∧ w.heap.size < wr.heap.size ∧ wr.cell? ⟨w.heap.size, 3, none⟩ = some (.slice a ps.length cap)) (fun i _ => ps.length - (intOf i).toNat)
        case atStart => exact ⟨0, Nat.zero_le _, rfl, Lib.hid (CkTo.zero _), hbw, hlw, c3⟩
        case round =>
          obtain ⟨k, hk, rfl, HK, hb, hlr, r3⟩ := hrel
          clear c3 hlw hbw
          by_cases hlt : k < ps.length
          · obtain ⟨b, o, p, rfl, hpk, hpa, hpo, hbl⟩ := (HP.out _ hb).get hlt
            have HPK := Lib.hid hpk
            have CC := fun W => vl.Check_any (bs p.name) (bs p.text) p.kind p.num W (by rw [bs_size]; exact hpo.name) (by rw [bs_size]; exact hpo.text)
            rw [ck_bs] at CC
            obtain ⟨a0, a1, a2, a3⟩ := hpa
            have hb2 := hb.alloc hb.size (.cells #[.string (bs p.name), .int .i64 p.kind, .int .i64 p.num, .string (bs p.text)] 39)
            have hkk : (k : Int) < (ps.length : Int) := by omega
            have qp := Quad.new wr 39 (.string (bs p.name)) (.int .i64 p.kind) (.int .i64 p.num) (.string (bs p.text))
            have r3' : (wr.alloc (.cells #[.string (bs p.name), .int .i64 p.kind, .int .i64 p.num, .string (bs p.text)] 39)).cell? ⟨w.heap.size, 3, none⟩ = some (.slice (some ⟨b, o, none⟩) ps.length cap) := by simp [go_sem, hlr, r3]
            clear hpk hpo
            by_cases he : checkP p = 0
            · rw [he] at CC
              have CC := Lib.hid CC
              have HE := Lib.hid he
              clear he
              go_wp2_with fail
              refine (CC.out _).mono ?_
              rintro e w2 ⟨rfl, hbb⟩
              have hbz := hb2.trans (hbb.mono hb2.size)
              have n0 : w2.cell? ⟨wr.heap.size, 0, none⟩ = some (.string (bs p.name)) := (hbb.cell (p := ⟨wr.heap.size, 0, none⟩) (by simp)).trans qp.c0
              have z3 : w2.cell? ⟨w.heap.size, 3, none⟩ = some (.slice (some ⟨b, o, none⟩) ps.length cap) := (hbb.cell (p := ⟨w.heap.size, 3, none⟩) (by simp; omega)).trans r3'
              have hl2 : w.heap.size < w2.heap.size := World.block_lt_of_cell? w2 ⟨w.heap.size, 3, none⟩ z3
              have hl3 : wr.heap.size < w2.heap.size := World.block_lt_of_cell? w2 ⟨wr.heap.size, 0, none⟩ n0
              have CF := fun W (h : Below w.heap.size w W) => find_any (some ⟨b, o, none⟩) cap (ps.take k) (bs p.name) W ((HP.out _ h).take k) (by rw [List.length_take]; omega)
              rw [show (ps.take k).length = k by rw [List.length_take]; omega] at CF
              have CF := Lib.hid CF
              have hkc : (k : Int) ≤ (cap : Int) := by omega
              have hk0 : (0 : Int) ≤ (k : Int) := by omega
              clear hbb qp r3 r3' hb2 hb a0 a1 a2 a3
              go_wp2_with fail
              go_region_held3 (fun w' => w'.cell? ⟨wr.heap.size, 0, none⟩ = some (.string (bs p.name)) ∧ w'.cell? ⟨w.heap.size, 3, none⟩ = some (.slice (some ⟨b, o, none⟩) ps.length cap))
                (first
                  | go_keep
                  | (go_split_ands
                     refine ⟨?_, ?_⟩
                     · first
                         | exact mA0
                         | (rw [World.cell?_alloc_lt _ _ _ (by first | exact lA3 | exact hl3 | (simp; omega))]; assumption)
                         | (rw [set4_cell (by show wr.heap.size ≠ w2.heap.size; omega)]; assumption)
                     · first
                         | exact mA3
                         | (rw [World.cell?_alloc_lt _ _ _ (by first | exact lA0 | exact hl2 | (simp; omega))]; assumption)
                         | (rw [set4_cell (by show w.heap.size ≠ w2.heap.size; omega)]; assumption)))
                (first
                  | ((go_at_call 38; refine (CF.out _ hbz.drew).mono ?_; rintro e wA ⟨rfl, hbA⟩; have mA0 := (hbA.cell (p := ⟨wr.heap.size, 0, none⟩) hl3).trans n0; have mA3 := (hbA.cell (p := ⟨w.heap.size, 3, none⟩) hl2).trans z3; have lA0 := World.block_lt_of_cell? wA ⟨w.heap.size, 3, none⟩ mA3; have lA3 := World.block_lt_of_cell? wA ⟨wr.heap.size, 0, none⟩ mA0; have hbE := hbz.drew.trans (hbA.mono hbz.size)))
                  | ((go_at_call 38; refine (CF.out _ (hbz.alloc hbz.size (.cells #[.string ⟨#[]⟩, .int .i64 0, .int .i64 0, .string ⟨#[]⟩] 39)).drew).mono ?_; rintro e wA ⟨rfl, hbA⟩; obtain ⟨kc, kl, kb, kw⟩ := after_alloc hbA; obtain ⟨y0, y1, y2, y3, y4, y5, y6, y7⟩ := quad_of kb; have mA0 := (kc ⟨wr.heap.size, 0, none⟩ hl3).trans n0; have mA3 := (kc ⟨w.heap.size, 3, none⟩ hl2).trans z3; have lA0 := World.block_lt_of_cell? wA ⟨w.heap.size, 3, none⟩ mA3; have lA3 := World.block_lt_of_cell? wA ⟨wr.heap.size, 0, none⟩ mA0; have hbE := hbz.trans (kw.mono hbz.size); clear kc kb kw)))
              all_goals
                generalize getP (ps.take k) (bs p.name) = gg at *
                cases hh : hasP (ps.take k) (bs p.name)
                rotate_left
                · have HF := Lib.hid (HR.out.trans (HK.out.twice HPK.out HE.out hh))
                  clear n0 z3 hh
                  go_wp2_with fail
                  go_ret
                  first
                    | exact ⟨ret_int HF.out.symm, hbE.alloc hbE.size _⟩
                    | exact ⟨ret_int HF.out.symm, below_set4 hbE (Nat.le_of_lt hl2) _ _ _ _⟩
                · have HN2 := Lib.hid (HK.out.succ HPK.out HE.out hh)
                  clear n0 z3 hh
                  go_wp2_with fail
                  first
                    | exact ⟨⟨k + 1, by omega, by go_num, HN2, hbE.alloc hbE.size _, by simp; omega, by rw [World.cell?_alloc_lt _ _ _ lA0]; exact mA3⟩, by simp [intOf]; omega⟩
                    | exact ⟨⟨k + 1, by omega, by go_num, HN2, below_set4 hbE (Nat.le_of_lt hl2) _ _ _ _, by simp; omega, by rw [set4_cell (by show w.heap.size ≠ w2.heap.size; omega)]; exact mA3⟩, by simp [intOf]; omega⟩
            · have HF := Lib.hid ((HR.out).trans (HK.out.bad HPK.out he))
              have e1 : (checkP p != 0) = true := by simp [he]
              have CC := Lib.hid CC
              clear he
              generalize checkP p = er at *
              go_wp2_with fail
              refine (CC.out _).mono ?_
              rintro e w2 ⟨rfl, hbb⟩
              have hbz := hb2.trans (hbb.mono hb2.size)
              clear hbb
              go_wp2_with fail
              go_ret
              exact ⟨ret_int HF.out.symm, hbz⟩
          · have HF := Lib.hid (HR.out.trans (CkTo.all (by have : k = ps.length := by omega
                                                           rw [← this]; exact HK.out)))
            go_wp2_with fail
            go_ret
            exact ⟨ret_int HF.out.symm, hb⟩
    · have HF := Lib.hid (ckR_stamp (tm := tm) (sr := sr) (ps := ps) ht (by unfold inTime; omega))
      clear ht
      rcases htm with g1 | ⟨g1, g2⟩ | ⟨⟨g1, g2⟩, g3⟩ | ⟨⟨g1, g2⟩, g3, g4⟩
      all_goals
        go_enter Tryz.func19, Tryz.ntmps19
        go_wp2_with fail
        refine CN.out.mono ?_
        rintro e w1 ⟨rfl, hb⟩
        have q := q1.below hb
        have hbw := hb1.trans (hb.mono hb1.size)
        obtain ⟨c0, c1, c2, c3, f0, f1, f2, f3⟩ := q
        clear hb hb1 q1
        go_wp2_with fail
        go_ret
        exact ⟨ret_int HF.out.symm, hbw⟩
  · have ht : isT t = false := by simpa using ht
    have HF := Lib.hid (ckR_type (tm := tm) (sr := sr) (ps := ps) ht)
    rw [name_nil ht] at CN
    have CN := Lib.hid CN
    clear ht
    go_enter Tryz.func19, Tryz.ntmps19
    go_wp2_with fail
    refine CN.out.mono ?_
    rintro e w1 ⟨rfl, hb⟩
    have hbw := hb1.trans (hb.mono hb1.size)
    clear hb hb1 q1
    go_wp2_with fail
    go_ret
    exact ⟨ret_int HF.out.symm, hbw⟩
end Go.Proofs.YtdndngabddnpmaaGreatDoor.rd
