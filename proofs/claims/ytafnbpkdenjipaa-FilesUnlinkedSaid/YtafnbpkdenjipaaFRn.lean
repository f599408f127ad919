/-
  New of the reference of files.
-/
import Derived.Test.YtafnbpkdenjipaaFGl
namespace Go.Proofs.Ytafnbpkdenjipaa.fl
open Go.RowKit Go.Proofs.Ytafnbpkdenjipaa.cm

set_option maxRecDepth 100000 in
set_option maxHeartbeats 1000000 in
theorem rNew_any (n : Int) (w : World) :
    Calls Try.prog 10 #[.int .i64 n] w (NewR (newP n) w) := by
  obtain ⟨i0, hi, hz0, hz1, hz2⟩ := info_parts infoD
  have hb1 : Below w.heap.size w (w.alloc (.cells #[.slice none 0 0] 24)) := (Below.refl _ _).alloc (Nat.le_refl _) _
  have t1 := TB.new1 w [.slice none 0 0] 24 _ rfl
  have HN := Lib.hid (new_eq n)
  by_cases hr : 1 ≤ n ∧ n ≤ 3
  · have HN := Lib.hid (HN.out.trans (if_pos hr))
    obtain ⟨m, rfl⟩ : ∃ m : Nat, n = (m : Int) := ⟨n.toNat, by omega⟩
    have h1 : ¬ (m : Int) < 1 := by omega
    have h2 : ¬ (m : Int) > 3 := by omega
    have hm3 : m ≤ 3 := by omega
    have HN := Lib.hid (show newP (m : Int) = (List.replicate m rootD, 0) from HN.out)
    have hb2 := hb1.alloc hb1.size (.cells #[.slice none 0 0] 24)
    have t1' := t1.alloc (.cells #[.slice none 0 0] 24)
    have t2 : TB 24 ((w.alloc (.cells #[.slice none 0 0] 24)).alloc (.cells #[.slice none 0 0] 24)) (w.heap.size + 1) [.slice none 0 0] := TB.new1 _ [.slice none 0 0] _ _ (size_alloc _ _)
    clear hr hb1 t1
    obtain ⟨F, hF⟩ : ∃ F, F = List.replicate m rootD := ⟨_, rfl⟩
    have HLN : Hid (F.length = m) := Lib.hid (by rw [hF, List.length_replicate])
    have HAT : Hid (∀ k, k < m → F[k]? = some rootD) := Lib.hid (fun k hk => by rw [hF, List.getElem?_replicate, if_pos hk])
    rw [← hF] at HN
    clear hF
    go_enter Try.func10, Try.ntmps10
    go_wp2_with fail
    go_loopw [5] (fun i wr => ∃ (k : Nat) (v : Value) (vn : Nat → Value) (ev : Nat → Nat → Value), k ≤ m ∧ i = .int .i64 k ∧ Hid (DevsK w.heap.size wr v vn ev F k) ∧ Below w.heap.size w wr ∧ TB 24 wr w.heap.size [.slice none 0 0] ∧ TB 24 wr (w.heap.size + 1) [v]) (fun i _ => m - (intOf i).toNat)
    case atStart => exact ⟨0, _, _, _, Nat.zero_le _, rfl, Lib.hid (DevsK.zero _ _ _), hb2, t1', t2⟩
    case round =>
      obtain ⟨k, v, vn, ev, hk, rfl, HK, hb, tR, tF⟩ := hrel
      obtain ⟨vo, vc, rfl⟩ := own_isS HK.out.row
      obtain ⟨f0, ff0⟩ := tF.blk.c1
      obtain ⟨r0, rf0⟩ := tR.blk.c1
      clear hb2 t1' t2 h1 h2
      by_cases hlt : k < m
      · have hkk : (k : Int) < (m : Int) := by omega
        have own3 := (HK.out.row).alloc (.cells #[.int .i64 1, .int .i64 2, .int .i64 493, .int .i64 0, .int .i64 0, .int .i64 1, .string ⟨#[]⟩, .slice none 0 0] 43)
        obtain ⟨wB, hwB⟩ : ∃ wB, wB = wr.alloc (.cells #[.int .i64 1, .int .i64 2, .int .i64 493, .int .i64 0, .int .i64 0, .int .i64 1, .string ⟨#[]⟩, .slice none 0 0] 43) := ⟨_, rfl⟩
        have hsB : wB.heap.size = wr.heap.size + 1 := by rw [hwB, size_alloc]
        have hbB : Below wr.heap.size wr wB := by
          rw [hwB]
          exact (Below.refl wr.heap.size wr).alloc (Nat.le_refl _) _
        have tN : TB 43 wB (wr.heap.size) (ncs rootN (.slice none 0 0)) := by rw [hwB]; exact TB.new1 _ (ncs rootN (.slice none 0 0)) _ _ rfl
        have nw : Hid (∀ j u, (dcs rootD (.slice (some ⟨wr.heap.size, 0, none⟩) 1 1))[j]? = some u → (wB.alloc (.cells #[.int .i64 2, .slice (some ⟨wr.heap.size, 0, none⟩) 1 1] 72)).cell? ((⟨wr.heap.size + 1, 0, none⟩ : Addr).add j) = some u) := Lib.hid (by
          rw [← hsB]
          exact World.news_of_block (cs := #[.int .i64 2, .slice (some ⟨wr.heap.size, 0, none⟩) 1 1]) (t := 72) (fr := (0, 0)) (heap_alloc_new wB _))
        rw [hwB] at nw
        have tFB := tF.stay hbB
        have tRB := tR.stay hbB
        have hbz := hb.size
        have hlF := tF.lt
        have f1 := cell_stays f0 ((Below.refl wr.heap.size wr).alloc (Nat.le_refl _) (.cells #[.int .i64 1, .int .i64 2, .int .i64 493, .int .i64 0, .int .i64 0, .int .i64 1, .string ⟨#[]⟩, .slice none 0 0] 43))
        have HB := Lib.hid hb
        have HBB := Lib.hid hbB
        have HSB := Lib.hid hsB
        have HWB := Lib.hid hwB
        clear hwB hsB hb
        go_wp2_with (first
          | (at_builtin; refine wpList_append_own _ rfl _ _ 22 rfl w.heap.size 72 i0 _ 2 32 Try.underlying22 hi hz0 hz1 hz2 rfl (by omega) _ k _ rfl (own3.alloc _) ⟨wr.heap.size + 1, 0, none⟩ 1 1 (dcs rootD (.slice (some ⟨wr.heap.size, 0, none⟩) 1 1)) rfl rfl nw.out ?c5 ?c6 ?c7 ?c8 ?_)
          | fail)
        case c5 => simp [Value.oneCell', dcs]
        case c6 => unfold maxLen; omega
        case c7 => omega
        case c8 => simp; omega
        intro v2 w3 own4 hgrow _
        rw [← HWB.out] at hgrow own3
        obtain ⟨vo2, vc2, rfl⟩ := own_isS own4
        have ownC := own3.alloc (.cells #[.int .i64 2, .slice (some ⟨wr.heap.size, 0, none⟩) 1 1] 72)
        have hal : Below wB.heap.size wB (wB.alloc (.cells #[.int .i64 2, .slice (some ⟨wr.heap.size, 0, none⟩) 1 1] 72)) := (Below.refl _ _).alloc (Nat.le_refl _) _
        have tF3 : TB 24 w3 (w.heap.size + 1) [.slice vo k vc] := (tFB.stay hal).grown ownC (by decide) hgrow
        have tR3 : TB 24 w3 w.heap.size [.slice none 0 0] := (tRB.stay hal).grown ownC (by decide) hgrow
        have HK2 := Lib.hid ((DevsK.next (w2 := wB.alloc (.cells #[.int .i64 2, .slice (some ⟨wr.heap.size, 0, none⟩) 1 1] 72)) (d := rootD) HK.out (HAT.out k hlt) (HBB.out.trans (hal.mono HBB.out.size)) ((one_nodes (by omega) tN).keep hal) hgrow own4 hbz).same (tF3.same (by decide) 0 (.slice vo2 (k + 1) vc2)))
        have hb5 : Below w.heap.size w w3 := (HB.out.trans ((HBB.out.trans (hal.mono HBB.out.size)).mono hbz)).grown hgrow (by have := hal.size; have := HBB.out.size; omega) (fun g hg => (own_lt ownC hg).1)
        have hb6 := below_set hb5 (show w.heap.size ≤ w.heap.size + 1 by omega) 0 (.slice vo2 (k + 1) vc2)
        have tF4 := tF3.set 0 (.slice vo2 (k + 1) vc2)
        have tR4 := tR3.other (show w.heap.size ≠ w.heap.size + 1 by omega) 0 (.slice vo2 (k + 1) vc2)
        obtain ⟨f3, ff3⟩ := tF3.blk.c1
        clear hgrow own4 own3 ownC nw tF3 tR3 hb5 hal tFB tRB
        go_wp2_with fail
        exact ⟨⟨k + 1, _, _, _, by omega, by go_num, HK2, hb6, tR4, tF4⟩, by simp [intOf]; omega⟩
      · have hkk : ¬ (k : Int) < (m : Int) := by omega
        obtain rfl : k = m := by omega
        have hD : DevsK w.heap.size wr (.slice vo k vc) vn ev F F.length := by rw [HLN.out]; exact HK.out
        have n0 := (TB.blk (cs := [.slice vo k vc]) (tR.set 0 (.slice vo k vc))).c1.1
        have HFN : Hid (NewR (newP (k : Int)) w (.returned (.tuple #[.agg #[.slice vo k vc], .int .i64 0])) (wr.setCell ⟨w.heap.size, 0, none⟩ (.slice vo k vc))) := Lib.hid (by
          rw [HN.out]
          exact ⟨_, rfl, ⟨_, _, hD.files.same (tR.same (by decide) 0 _)⟩, below_set hb (Nat.le_refl _) 0 _⟩)
        clear hlt hk hD hb HK tR tF
        go_wp2_with fail
        exact bodyPost_ret (v := .tuple #[.agg #[.slice vo k vc], .int .i64 0]) (by simp [results, Try.f10, go_sem, n0]) rfl HFN.out
  · have HN := Lib.hid (HN.out.trans (if_neg hr))
    by_cases h1 : n < 1
    · have HFN : Hid (NewR (newP n) w (.returned (.tuple #[.agg #[.slice none 0 0], .int .i64 50])) (w.alloc (.cells #[.slice none 0 0] 24))) := Lib.hid (by
        rw [HN.out]
        exact ⟨_, rfl, OutF.nil _ _, hb1⟩)
      obtain ⟨n0, -⟩ := t1.blk.c1
      go_enter Try.func10, Try.ntmps10
      go_wp2_with fail
      exact bodyPost_ret (v := .tuple #[.agg #[.slice none 0 0], .int .i64 50]) (by simp [results, Try.f10, go_sem, n0]) rfl HFN.out
    · have h2 : n > 3 := by omega
      have HFN : Hid (NewR (newP n) w (.returned (.tuple #[.agg #[.slice none 0 0], .int .i64 50])) (w.alloc (.cells #[.slice none 0 0] 24))) := Lib.hid (by
        rw [HN.out]
        exact ⟨_, rfl, OutF.nil _ _, hb1⟩)
      obtain ⟨n0, -⟩ := t1.blk.c1
      go_enter Try.func10, Try.ntmps10
      go_wp2_with fail
      exact bodyPost_ret (v := .tuple #[.agg #[.slice none 0 0], .int .i64 50]) (by simp [results, Try.f10, go_sem, n0]) rfl HFN.out
end Go.Proofs.Ytafnbpkdenjipaa.fl
