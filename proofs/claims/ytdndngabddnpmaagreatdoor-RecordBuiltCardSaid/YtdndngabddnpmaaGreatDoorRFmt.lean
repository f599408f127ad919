/-
  Format of package record and of its reference write the same line.
-/
import Derived.Test.YtdndngabddnpmaaGreatDoorRHead
import Derived.Test.YtdndngabddnpmaaGreatDoorRRChk
import Derived.Test.YtdndngabddnpmaaGreatDoorRParseP
import Derived.Test.YtdndngabddnpmaaGreatDoorBld
namespace Go.Proofs.YtdndngabddnpmaaGreatDoor.rd
open Go.RowKit Go.Proofs.YtdndngabddnpmaaGreatDoor.cm Go.Proofs.YtdndngabddnpmaaGreatDoor.vl

/-- the line that Format writes, or nothing -/
def fR (t tm sr : Int) (ps : List PairP) : ByteArray := if ckR t tm sr ps = 0 then bs (lineL ⟨t, tm, sr, ps⟩) else ⟨#[]⟩
def tailL (ps : List PairP) : List UInt8 := (ps.map fun p => 32 :: pairL p).flatten
theorem tail_snoc {ps : List PairP} {k : Nat} {p : PairP} (h : ps[k]? = some p) : tailL (ps.take (k + 1)) = tailL (ps.take k) ++ 32 :: pairL p := by
  obtain ⟨hk, rfl⟩ := List.getElem?_eq_some_iff.1 h
  unfold tailL
  rw [List.take_succ_eq_append_getElem hk, List.map_append, List.flatten_append]
  simp
theorem line_eq (t : Int) (tm sr : Nat) (ps : List PairP) : lineL ⟨t, tm, sr, ps⟩ = headL t tm sr ++ tailL ps := by
  unfold lineL headL tailL
  simp
theorem fS_pair {p : PairP} (h : checkP p = 0) : fS (bs p.name) p.kind p.num (bs p.text) = bs (pairL p) := by
  rcases fS_P (bs p.name) p.kind p.num (bs p.text) with ⟨_, h2⟩ | ⟨h1, _⟩
  · rw [bs_data, bs_data] at h2
    have e : fmtP p = some (fS (bs p.name) p.kind p.num (bs p.text)).data.toList := h2
    unfold pairL
    rw [e]
    exact (bs_of _).symm
  · rw [ck_bs, h] at h1; simp at h1
theorem head_size (t : Int) (tm sr : Nat) (h1 : tm ≤ 1099511627776) (h2 : sr ≤ 1073741824) : (headL t tm sr).length ≤ 60 := by
  have a := stamp_len tm sr h1 h2
  have b := nameB_size t
  have c : (nameT t).length ≤ 8 := by
    have : (nameT t).toArray.size ≤ 8 := b
    simpa using this
  unfold headL word0 word1
  simp
  omega
/-- what a sound record is -/
structure Sound (t tm sr : Int) (ps : List PairP) : Prop where
  time : 0 ≤ tm ∧ tm ≤ 1099511627776
  serial : 0 ≤ sr ∧ sr ≤ 1073741824
  few : ps.length ≤ 24
  each : ∀ p ∈ ps, checkP p = 0
theorem sound_of {t tm sr : Int} {ps : List PairP} (h : ckR t tm sr ps = 0) : Sound t tm sr ps := by
  obtain ⟨_, h2, h3, h4, h5⟩ := checkR_parts (r := ⟨t, tm, sr, ps⟩) h
  exact ⟨h2, h3, h4, checkPs_sound ps [] h5⟩
theorem tail_size {ps : List PairP} (h : ∀ p ∈ ps, checkP p = 0) (hi : ∀ p ∈ ps, isInt p.num) (k : Nat) : (tailL (ps.take k)).length ≤ 1299 * k := by
  have := flat_len (ps.take k) (fun p hp => (pair_len (h p (List.mem_of_mem_take hp)) (hi p (List.mem_of_mem_take hp))).2)
  have hk : (ps.take k).length ≤ k := by rw [List.length_take]; omega
  unfold tailL
  omega

set_option maxRecDepth 100000 in
set_option maxHeartbeats 8000000 in
theorem Format_any (t tm sr : Int) (a : Option Addr) (cap : Nat) (ps : List PairP) (w : World) (hP : PairsAt w a ps) (hl : ps.length ≤ 9223372036854775807) (hc : ps.length ≤ cap) (hE : EnvR w) :
    Calls Tryz.prog 12 #[.agg #[.int .i64 t, .int .i64 tm, .int .i64 sr, .slice a ps.length cap]] w fun e w' => e = .returned (.tuple #[.string (fR t tm sr ps), .int .i64 (ckR t tm sr ps)]) ∧ Below w.heap.size w w' := by
  have h0 := HW.new w 29 t tm sr (.slice a ps.length cap)
  have CC := Check_any t tm sr a cap ps _ (hP.below h0.bel) hl hc (hE.below h0.bel).tab
  by_cases hz : ckR t tm sr ps = 0
  · have hF : fR t tm sr ps = bs (lineL ⟨t, tm, sr, ps⟩) := by unfold fR; rw [if_pos hz]
    obtain ⟨⟨g1, g2⟩, ⟨g3, g4⟩, hfew, hck⟩ := sound_of hz
    obtain ⟨m, rfl⟩ := Int.eq_ofNat_of_zero_le g1
    obtain ⟨r, rfl⟩ := Int.eq_ofNat_of_zero_le g3
    rw [line_eq] at hF
    rw [hF]
    rw [hz] at CC ⊢
    have hhl := head_size t m r (by omega) (by omega)
    have HT := Lib.hid (fun k => tail_size hck (fun p hp => (hP.ok p hp).num) k)
    have HCK := Lib.hid hck
    have HP := Lib.hid (fun W (h : Below w.heap.size w W) => hP.below h)
    have HE := Lib.hid (fun W (h : Below w.heap.size w W) => hE.below h)
    have CH := Lib.hid (fun W (h : EnvR W) => head_any t m r (.slice a ps.length cap) W ⟨_, _, _, rfl⟩ (by omega) (by omega) h)
    have CC := Lib.hid CC
    clear hz hF hck hP hE
    obtain ⟨c0, c1, c2, c3, f0, f1, f2, f3⟩ := h0.box
    go_enter Tryz.func12, Tryz.ntmps12
    go_wp2_with fail
    refine CC.out.mono ?_
    rintro e w1 ⟨rfl, hb⟩
    have h1 := h0.step hb
    clear c0 c1 c2 c3 f0 f1 f2 f3 hb h0
    have h1a := h1.step ((Below.refl w1.heap.size w1).alloc (Nat.le_refl _) (.cells #[.pointer none, .slice none 0 0] 53))
    have bl := bld_new w1
    have hBw := heap_alloc w1 (.cells #[.pointer none, .slice none 0 0] 53)
    have hbl := h1.bel
    have hlt := h1.box.lt
    have hBB : Below w1.heap.size w1 (w1.alloc (.cells #[.pointer none, .slice none 0 0] 53)) := (Below.refl _ _).alloc (Nat.le_refl _) _
    obtain ⟨c0, c1, c2, c3, f0, f1, f2, f3⟩ := h1.box
    have HBW := Lib.hid hBw
    clear hBw
    go_wp2_with fail
    refine (CH.out _ (HE.out _ h1a.bel)).mono ?_
    rintro e w2 ⟨rfl, hb⟩
    have bl2 := bl.later hb
    have hB2 := hBB.trans (hb.mono hBB.size)
    have h2 := h1a.step hb
    have CW := Lib.hid (write_any w1.heap.size w1.heap.size [] (bs (headL t m r)) w2 bl2 (by rw [bs_size]; simp; omega) hB2.size)
    clear hb bl h1 h1a hBB c0 c1 c2 c3 f0 f1 f2 f3
    go_wp2_with fail
    refine CW.out.mono ?_
    rintro e w3 ⟨rfl, bl3, hb3⟩
    rw [bs_data, List.nil_append] at bl3
    have hB3 := hB2.trans hb3
    have h3 : HW w t m r (.slice a ps.length cap) w3 := by
      have hbx : w3.heap[w.heap.size]? = w2.heap[w.heap.size]? := hb3.block _ hlt
      exact ⟨h2.bel.trans (hb3.mono (Nat.le_of_lt hlt)), h2.box.of_block hbx⟩
    obtain ⟨c0, c1, c2, c3, f0, f1, f2, f3⟩ := h3.box
    have hb4 := h3.bel
    clear h2 h3 hb3 hB2 bl2
    go_wp2_with fail
    clear c0 c1 c2 c3 f0 f1 f2 f3
    go_loopw [21] (fun i wr => ∃ k : Nat, k ≤ ps.length ∧ i = .int .i64 k ∧ Bld w1.heap.size w1.heap.size (headL t m r ++ tailL (ps.take k)) wr ∧ Below w1.heap.size w1 wr) (fun i _ => ps.length - (intOf i).toNat)
    case atStart => exact ⟨0, Nat.zero_le _, rfl, by simpa [tailL] using bl3, hB3⟩
    case round =>
      obtain ⟨k, hk, rfl, bk, hbk⟩ := hrel
      clear bl3 hB3 hb4
      have hbw := hbl.trans (hbk.mono hbl.size)
      by_cases hlt2 : k < ps.length
      · obtain ⟨b, o, p, rfl, hpk, hpa, hpo, hbb⟩ := (HP.out _ hbw).get hlt2
        have hcp := HCK.out p (List.mem_of_getElem? hpk)
        have hpl := pair_len hcp hpo.num
        have hts := HT.out k
        have CV := fun W (h : Env W) => vl.Format_any (bs p.name) (bs p.text) p.kind p.num W (by rw [bs_size]; exact hpo.name) (by rw [bs_size]; exact hpo.text) hpo.num h
        rw [fS_pair hcp, ck_bs, hcp] at CV
        have CV := Lib.hid CV
        have hsz := bs_size (pairL p)
        have HSN := Lib.hid (tail_snoc hpk)
        obtain ⟨a0, a1, a2, a3⟩ := hpa
        have hb2 := hbw.alloc hbw.size (.cells #[.string (bs p.name), .int .i64 p.kind, .int .i64 p.num, .string (bs p.text)] 39)
        have bk2 := bk.later ((Below.refl wr.heap.size wr).alloc (Nat.le_refl _) (.cells #[.string (bs p.name), .int .i64 p.kind, .int .i64 p.num, .string (bs p.text)] 39))
        have hbk2 := hbk.alloc hbk.size (.cells #[.string (bs p.name), .int .i64 p.kind, .int .i64 p.num, .string (bs p.text)] 39)
        have hkk : (k : Int) < (ps.length : Int) := by omega
        have hpsz : (bs (pairL p)).size ≤ 1298 := by omega
        have HSZ := Lib.hid hsz
        clear hpk hpo hcp hsz
        go_wp2_with fail
        refine (CV.out _ (HE.out _ hb2).env).mono ?_
        rintro e w5 ⟨rfl, hb5⟩
        have bk5 := bk2.later hb5
        have hbk5 := hbk2.trans (hb5.mono hbk2.size)
        have CW := write_any w1.heap.size w1.heap.size (headL t m r ++ tailL (ps.take k)) ((⟨#[32]⟩ : ByteArray) ++ bs (pairL p)) w5 bk5 (by rw [ByteArray.size_append, List.length_append]; show _ + (1 + _) ≤ _; omega) hbk5.size
        rw [show (headL t m r ++ tailL (ps.take k)) ++ ((⟨#[32]⟩ : ByteArray) ++ bs (pairL p)).data.toList = headL t m r ++ tailL (ps.take (k + 1)) by rw [HSN.out, List.append_assoc]; simp [bs]] at CW
        have CW := Lib.hid CW
        clear hb5 bk2 hbk2 hb2 a0 a1 a2 a3 bk hbk hbw
        go_wp2_with fail
        refine CW.out.mono ?_
        rintro e w6 ⟨rfl, bk6, hb6⟩
        go_wp2_with fail
        exact ⟨⟨k + 1, by omega, by go_num, bk6, hbk5.trans hb6⟩, by simp [intOf]; omega⟩
      · have e : ps.take k = ps := List.take_of_length_le (by omega)
        rw [e] at bk
        have CS := Lib.hid (bstring_any _ _ _ wr bk hbk.size)
        clear e
        go_wp2_with fail
        refine CS.out.mono ?_
        rintro e w6 ⟨rfl, hb6⟩
        go_wp2_with fail
        go_ret2
        exact ⟨rfl, hbl.trans ((hbk.trans hb6).mono hbl.size)⟩
  · have hF : fR t tm sr ps = ⟨#[]⟩ := by unfold fR; rw [if_neg hz]
    have e1 : (ckR t tm sr ps != 0) = true := by simp [hz]
    have HF := Lib.hid hF
    rw [hF]
    have CC := Lib.hid CC
    clear hF hz HF
    generalize ckR t tm sr ps = er at *
    obtain ⟨c0, c1, c2, c3, f0, f1, f2, f3⟩ := h0.box
    have hb0 := h0.bel
    go_enter Tryz.func12, Tryz.ntmps12
    go_wp2_with fail
    refine CC.out.mono ?_
    rintro e w1 ⟨rfl, hb⟩
    go_wp2_with fail
    go_ret2
    exact ⟨rfl, hb0.trans (hb.mono hb0.size)⟩
end Go.Proofs.YtdndngabddnpmaaGreatDoor.rd
