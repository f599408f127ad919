/-
  Check of the reference returns the first error.
-/
import Derived.Test.YtdndngabddnpmaaGreatDoorRChk
namespace Go.Proofs.YtdndngabddnpmaaGreatDoor.rd
open Go.RowKit Go.Proofs.YtdndngabddnpmaaGreatDoor.cm Go.Proofs.YtdndngabddnpmaaGreatDoor.vl

theorem two_beq (a b : List UInt8) : ((bs a).toList == (bs b).toList) = decide (a = b) := by rw [str_beq, bs_data]
theorem has_hit {ps : List PairP} {nm : List UInt8} {j k : Nat} {q : PairP} (hj : ps[j]? = some q) (hk : j < k) (hn : q.name = nm) : hasP (ps.take k) (bs nm) = true := by
  rw [has_iff]
  obtain ⟨hl, rfl⟩ := List.getElem?_eq_some_iff.1 hj
  refine decide_eq_true (List.mem_map.2 ⟨ps[j], ?_, hn⟩)
  rw [List.mem_take_iff_getElem]
  exact ⟨j, by omega, rfl⟩
theorem has_miss {ps : List PairP} {nm : ByteArray} {k : Nat} (h : NoP ps nm k) : hasP (ps.take k) nm = false := by
  unfold hasP; unfold NoP at h; rw [h]; rfl

set_option maxRecDepth 100000 in
set_option maxHeartbeats 8000000 in
theorem rCheck_any (t tm sr : Int) (a : Option Addr) (cap : Nat) (ps : List PairP) (w : World) (hP : PairsAt w a ps) (hl : ps.length ≤ 9223372036854775807) :
    Calls Tryz.prog 20 #[.agg #[.int .i64 t, .int .i64 tm, .int .i64 sr, .slice a ps.length cap]] w fun e w' => e = .returned (.int .i64 (ckR t tm sr ps)) ∧ Below w.heap.size w w' := by
  have hb1 : Below w.heap.size w (w.alloc (.cells #[.int .i64 t, .int .i64 tm, .int .i64 sr, .slice a ps.length cap] 29)) := (Below.refl _ _).alloc (Nat.le_refl _) _
  have q1 := Quad.new w 29 (.int .i64 t) (.int .i64 tm) (.int .i64 sr) (.slice a ps.length cap)
  have CN := rfind_any t (w.alloc (.cells #[.int .i64 t, .int .i64 tm, .int .i64 sr, .slice a ps.length cap] 29))
  have HP := Lib.hid (fun W (h : Below w.heap.size w W) => hP.below h)
  clear hP
  unfold RFind at CN
  generalize nameB t = N at *
  generalize singleT t = S at *
  by_cases ht : isT t = true
  · rw [ht] at CN
    have CN := Lib.hid CN
    rcases time_cases tm sr with htm | htm
    · by_cases hlen : 24 < ps.length
      · have HF := Lib.hid (ckR_pairs (ps := ps) ht htm hlen)
        unfold inTime at htm
        obtain ⟨⟨g1, g2⟩, g3, g4⟩ := htm
        have hlen' : (24 : Int) < (ps.length : Int) := by omega
        clear ht
        go_enter Tryz.func20, Tryz.ntmps20
        go_wp2_with fail
        refine CN.out.mono ?_
        rintro e w1 ⟨n, rfl, hb⟩
        have q := q1.below hb
        have hbw := hb1.trans (hb.mono hb1.size)
        have hlw := q.lt
        obtain ⟨c0, c1, c2, c3, f0, f1, f2, f3⟩ := q
        clear hb hb1 q1
        go_wp2_with fail
        go_ret
        exact ⟨ret_int HF.out.symm, hbw.alloc hbw.size _⟩
      · have HR := Lib.hid (ckR_rest ht htm (by omega : ps.length ≤ 24))
        unfold inTime at htm
        obtain ⟨⟨g1, g2⟩, g3, g4⟩ := htm
        have hlen' : (ps.length : Int) ≤ 24 := by omega
        have x1 : decide (tm < 0) = false := by simp; omega
        have x2 : decide (1099511627776 < tm) = false := by simp; omega
        have x3 : decide (sr < 0) = false := by simp; omega
        have x4 : decide (1073741824 < sr) = false := by simp; omega
        have x5 : decide ((24 : Int) < (ps.length : Int)) = false := by simp; omega
        clear ht
        go_enter Tryz.func20, Tryz.ntmps20
        go_wp2_with fail
        refine CN.out.mono ?_
        rintro e w1 ⟨n, rfl, hb⟩
        have q := q1.below hb
        have hbw := hb1.trans (hb.mono hb1.size)
        have hlw := q.lt
        obtain ⟨c0, c1, c2, c3, f0, f1, f2, f3⟩ := q
        clear hb hb1 q1
        go_wp2_with fail
        have z3 : (w1.alloc (.cells #[.string N, .int .i64 n, .bool S] 73)).cell? ⟨w.heap.size, 3, none⟩ = some (.slice a ps.length cap) := by rw [World.cell?_alloc_lt _ _ _ hlw]; exact c3
        have hbv := hbw.alloc hbw.size (.cells #[.string N, .int .i64 n, .bool S] 73)
        clear c0 c1 c2 c3 f0 f1 f2 f3 hbw hlw
        generalize w1.alloc (.cells #[.string N, .int .i64 n, .bool S] 73) = V at *
        go_loopw [5] (fun i wr => ∃ k : Nat, k ≤ ps.length ∧ i = .int .i64 k ∧ Hid (CkTo ps k) ∧ Below w.heap.size w wr ∧ wr.cell? ⟨w.heap.size, 3, none⟩ = some (.slice a ps.length cap)) (fun i _ => ps.length - (intOf i).toNat)
        case atStart => exact ⟨0, Nat.zero_le _, rfl, Lib.hid (CkTo.zero _), hbv, z3⟩
        case round =>
          obtain ⟨k, hk, rfl, HK, hb, r3⟩ := hrel
          clear z3 hbv
          by_cases hlt : k < ps.length
          · obtain ⟨b, o, p, rfl, hpk, hpa, hpo, hbl⟩ := (HP.out _ hb).get hlt
            have HPK := Lib.hid hpk
            have CC := fun W => vl.rCheck_any (bs p.name) (bs p.text) p.kind p.num W (by rw [bs_size]; exact hpo.name) (by rw [bs_size]; exact hpo.text)
            rw [ck_bs] at CC
            obtain ⟨a0, a1, a2, a3⟩ := hpa
            have hkk : (k : Int) < (ps.length : Int) := by omega
            have hk0 : (0 : Int) ≤ (k : Int) := by omega
            clear hpk hpo
            by_cases he : checkP p = 0
            · rw [he] at CC
              have CC := Lib.hid CC
              have HE := Lib.hid he
              clear he
              go_wp2_with fail
              refine (CC.out _).mono ?_
              rintro e w2 ⟨rfl, hbb⟩
              have hbz := hb.trans (hbb.mono hb.size)
              have z3 : w2.cell? ⟨w.heap.size, 3, none⟩ = some (.slice (some ⟨b, o, none⟩) ps.length cap) := (hbb.cell (p := ⟨w.heap.size, 3, none⟩) (World.block_lt_of_cell? wr ⟨w.heap.size, 3, none⟩ r3)).trans r3
              have n0 : w2.cell? ⟨b, o + k * 4, none⟩ = some (.string (bs p.name)) := (hbb.cell (p := ⟨b, o + k * 4, none⟩) hbl).trans a0
              clear hbb a0 a1 a2 a3 r3 hb
              go_wp2_with fail
              have HPS := Lib.hid (HP.out _ hbz)
              go_loopw [7] (fun i wr => ∃ j q : Nat, j ≤ k ∧ i = .int .i64 j ∧ Hid (NoP ps (bs p.name) j) ∧ wr = w2.drewN q) (fun i _ => k - (intOf i).toNat)
              case atStart => exact ⟨0, 0, Nat.zero_le _, rfl, Lib.hid (NoP.zero _ _), rfl⟩
              case round =>
                obtain ⟨j, q, hj, rfl, HN, rfl⟩ := hrel
                by_cases hjk : j < k
                · obtain ⟨b', o', p', hab, hpj, hpa', -, -⟩ := HPS.out.get (k := j) (by omega)
                  cases hab
                  have HPJ := Lib.hid hpj
                  have b0 := hpa'.c0
                  have e1 := two_beq p'.name p.name
                  have hjj : (j : Int) < (ps.length : Int) := by omega
                  have hj0 : (0 : Int) ≤ (j : Int) := by omega
                  have hjk' : (j : Int) < (k : Int) := by omega
                  clear hpj hpa'
                  by_cases hq : p'.name = p.name
                  · rw [decide_eq_true hq] at e1
                    have HF := Lib.hid (HR.out.trans (HK.out.twice HPK.out HE.out (has_hit HPJ.out hjk hq)))
                    clear hq
                    go_wp2_with fail
                    go_quiet (fail)
                    go_wp2_with fail
                    go_ret
                    exact ⟨ret_int HF.out.symm, below_drewN (below_drewN hbz _) _⟩
                  · rw [decide_eq_false hq] at e1
                    have HN2 := Lib.hid (HN.out.succ HPJ.out (by rw [bs_data]; exact hq))
                    clear hq
                    go_wp2_with fail
                    go_quiet (fail)
                    go_wp2_with fail
                    exact ⟨⟨j + 1, _, by omega, by go_num, HN2, rfl⟩, by simp [intOf]; omega⟩
                · have hN : NoP ps (bs p.name) k := by rw [← show j = k by omega]; exact HN.out
                  have HN2 := Lib.hid (HK.out.succ HPK.out HE.out (has_miss hN))
                  clear hN
                  have hjk' : (k : Int) ≤ (j : Int) := by omega
                  go_wp2_with fail
                  exact ⟨⟨k + 1, by omega, by go_num, HN2, below_drewN hbz _, z3⟩, by simp [intOf]; omega⟩
            · have HF := Lib.hid ((HR.out).trans (HK.out.bad HPK.out he))
              have e1 : (checkP p != 0) = true := by simp [he]
              have CC := Lib.hid CC
              clear he
              generalize checkP p = er at *
              go_wp2_with fail
              refine (CC.out _).mono ?_
              rintro e w2 ⟨rfl, hbb⟩
              have hbz := hb.trans (hbb.mono hb.size)
              clear hbb
              go_wp2_with fail
              go_ret
              exact ⟨ret_int HF.out.symm, hbz⟩
          · have HF := Lib.hid (HR.out.trans (CkTo.all (by have : k = ps.length := by omega
                                                           rw [← this]; exact HK.out)))
            go_wp2_with fail
            go_ret
            exact ⟨ret_int HF.out.symm, hb⟩
    · have HF := Lib.hid (ckR_stamp (tm := tm) (sr := sr) (ps := ps) ht (by unfold inTime; omega))
      clear ht
      rcases htm with g1 | ⟨g1, g2⟩ | ⟨⟨g1, g2⟩, g3⟩ | ⟨⟨g1, g2⟩, g3, g4⟩
      all_goals
        go_enter Tryz.func20, Tryz.ntmps20
        go_wp2_with fail
        refine CN.out.mono ?_
        rintro e w1 ⟨n, rfl, hb⟩
        have q := q1.below hb
        have hbw := hb1.trans (hb.mono hb1.size)
        have hlw := q.lt
        obtain ⟨c0, c1, c2, c3, f0, f1, f2, f3⟩ := q
        clear hb hb1 q1
        go_wp2_with fail
        go_ret
        exact ⟨ret_int HF.out.symm, hbw.alloc hbw.size _⟩
  · have ht : isT t = false := by simpa using ht
    have HF := Lib.hid (ckR_type (tm := tm) (sr := sr) (ps := ps) ht)
    rw [ht] at CN
    have CN := Lib.hid CN
    clear ht
    go_enter Tryz.func20, Tryz.ntmps20
    go_wp2_with fail
    refine CN.out.mono ?_
    rintro e w1 ⟨n, rfl, hb⟩
    have hbw := hb1.trans (hb.mono hb1.size)
    clear hb hb1 q1
    go_wp2_with fail
    go_ret
    exact ⟨ret_int HF.out.symm, hbw.alloc hbw.size _⟩
end Go.Proofs.YtdndngabddnpmaaGreatDoor.rd
