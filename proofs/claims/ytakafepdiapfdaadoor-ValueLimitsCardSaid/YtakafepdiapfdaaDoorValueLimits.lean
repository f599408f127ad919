/-
  The law ValueLimits: its walk.
-/
import Derived.Test.YtakafepdiapfdaaDoorRUnq2
import Derived.Test.YtakafepdiapfdaaDoorVAwake
import Derived.OpenShut
namespace Go.Proofs.YtakafepdiapfdaaDoor
open Go.RowKit Go.Proofs.YtakafepdiapfdaaDoor.cm Go.Proofs.YtakafepdiapfdaaDoor.vl

theorem vl.quoteO_B {t : ByteArray} (h : t.size ≤ 640) : quoteO t.data.toList = some (quoteB t).data.toList := by
  unfold quoteB
  cases hb : safeB t
  · rw [if_neg (by simp), quoteO_hex (by rw [bytes_len]; exact h) hb]
  · rw [if_pos rfl, quoteO_safe (by rw [bytes_len]; exact h) hb]
theorem vl.quoteB_len (t : ByteArray) : (quoteB t).size = t.size + 2 ∨ (quoteB t).size = 2 * t.size + 1 := by
  unfold quoteB
  have hl := bytes_len t
  have hL := hexL_len t.data.toList
  split
  · left
    show (34 :: (t.data.toList ++ [34])).toArray.size = _
    rw [List.size_toArray]; simp
  · right
    show (120 :: hexL t.data.toList).toArray.size = _
    rw [List.size_toArray, List.length_cons]; omega

/-- a row of one byte, again and again -/
theorem cm.rep_text (W : World) (g m cap : Nat) (c : UInt8) (h : ∀ j, j < m → W.cell? ⟨g, j, none⟩ = some (.int .u8 (c.toNat : Int))) :
    (convert 39 9 (.slice (some ⟨g, 0, none⟩) m cap)).run Tryd.prog W = .ok (.string ⟨(List.replicate m c).toArray⟩) W := by
  have := run_convert_bytes_back (P := Tryd.prog) W 39 9 5 ⟨g, 0, none⟩ cap (List.replicate m c) Tryd.underlying39 Tryd.underlying5 Tryd.underlying9 (fun j hj => by
    rw [List.length_replicate] at hj
    have := h j hj
    cases j with
    | zero => simpa [Addr.add] using this
    | succ j => simpa [Addr.add] using this)
  rwa [List.length_replicate] at this

namespace valueLimits
/-- the first k cells hold the byte -/
def Full (l : List Value) (c : UInt8) (k m : Nat) : Prop := l.length = m ∧ ∀ j, j < k → l[j]? = some (.int .u8 (c.toNat : Int))

set_option maxRecDepth 100000 in
set_option maxHeartbeats 8000000 in
theorem walk (n c : Int) (w : World) (hn : (Lit.int .u8 n).wf = true) (hc : (Lit.int .u8 c).wf = true) (hL : laidMetH Tryd.prog Rows.valueLimitsRow.laid w) (_ : w.ShapedOpen Tryd.prog) :
    Calls Tryd.prog 8 #[.int .u8 n, .int .u8 c] w fun e w' => e = .returned (.bool true) ∧ Below w.heap.size w w' := by
  have hT : HexT w := hex_of hL (by rfl)
  have h0 := pos_of hT
  have HT : Hid (∀ W, Below w.heap.size w W → HexT W) := Lib.hid (fun W h => hT.below h h0)
  clear hT hL
  have hn' : 0 ≤ n ∧ n ≤ 255 := bounds_u8 hn
  have hc' : 0 ≤ c ∧ c ≤ 255 := bounds_u8 hc
  obtain ⟨C, rfl⟩ : ∃ C : UInt8, c = (C.toNat : Int) := ⟨UInt8.ofNat c.toNat, by rw [UInt8.toNat_ofNat']; omega⟩
  obtain ⟨N, rfl⟩ : ∃ N : Nat, n = (N : Int) := ⟨n.toNat, by omega⟩
  clear hn hc hc'
  obtain ⟨m, hm⟩ : ∃ m : Nat, m = 638 + N % 5 := ⟨_, rfl⟩
  have hm2 : (638 : Int) + (N : Int) % 5 = (m : Int) := by omega
  have hm3 : 638 ≤ m ∧ m ≤ 642 := by omega
  clear hm
  obtain ⟨i0, hi, hz0, hz1, hz2⟩ := info_parts infoB
  have CA := Lib.hid (fun W (h : HexT W) (h0 : 0 < W.heap.size) => vl.awake_any W h h0)
  go_enter Tryd.func8, Tryd.ntmps8
  go_wp2_with (at_make; refine wpList_make_full _ rfl _ _ 39 rfl w.heap.size 5 i0 (.int .u8 0) 1 Tryd.underlying39 hi hz0 hz1 .i64 .i64 _ _ m rfl rfl (by first | rfl | exact hm2) (by first | rfl | exact hm2) (by rw [hz2]; omega) (by unfold maxLen; omega) (Nat.le_refl _) ?_; intro w0 hown0 hgrow0)
  have hb0 : Below w.heap.size w w0 := (Below.refl _ _).grown hgrow0 (by simp) (fun k hk => by cases hk)
  have HF0 : Hid (Full (madeCells (Value.cells (.int .u8 0)) (m * 1)).toList C 0 m) := Lib.hid ⟨by rw [Array.length_toList, size_madeCells]; omega, fun j hj => by omega⟩
  generalize (madeCells (Value.cells (.int .u8 0)) (m * 1)).toList = l0 at *
  clear hgrow0
  go_loopw [6] (fun i wr => ∃ (k : Nat) (l : List Value), k ≤ m ∧ i = .int .i64 (k : Int) ∧ wr.ownsRow w.heap.size 5 1 (.slice (some ⟨w.heap.size, 0, none⟩) m m) m l ∧ Hid (Full l C k m) ∧ Below w.heap.size w wr) (fun i _ => m - (intOf i).toNat)
  case atStart => exact ⟨0, l0, Nat.zero_le _, rfl, hown0, HF0, hb0⟩
  case round =>
    obtain ⟨k, l, hk, rfl, hown, HF, hbel⟩ := hrel
    by_cases hlt : k < m
    · have hlk : k < l.length := by rw [HF.out.1]; exact hlt
      have d0 : wr.cell? ⟨w.heap.size, k, none⟩ = some (l[k]) := by rw [hown.cellAt k (by omega), List.getElem?_eq_getElem hlk]
      have f0 := hown.frozenAt k
      obtain ⟨hown2, _⟩ := hown.stored k (.int .u8 (C.toNat : Int))
      have HF2 : Hid (Full (l.set k (.int .u8 (C.toNat : Int))) C (k + 1) m) := Lib.hid ⟨by rw [List.length_set, HF.out.1], fun j hj => by
        by_cases hjk : j = k
        · subst hjk; rw [List.getElem?_set_self hlk]
        · rw [List.getElem?_set_ne (by omega)]; exact HF.out.2 j (by omega)⟩
      have hb2 := hbel.setCell (p := ⟨w.heap.size, k, none⟩) (Nat.le_refl _) (.int .u8 (C.toNat : Int))
      clear hbel
      go_wp2_with fail
      exact ⟨⟨k + 1, _, by omega, by go_num, hown2, HF2, hb2⟩, by simp [intOf]; omega⟩
    · have hkm : k = m := by omega
      have hcells : ∀ j, j < m → wr.cell? ⟨w.heap.size, j, none⟩ = some (.int .u8 (C.toNat : Int)) := fun j hj => by
        rw [hown.cellAt j (by omega)]; exact HF.out.2 j (by omega)
      have hwl := (hown.lt w.heap.size rfl).2
      have HC : Hid (∀ W, Below wr.heap.size wr W → (convert 39 9 (.slice (some ⟨w.heap.size, 0, none⟩) m m)).run Tryd.prog W = .ok (.string ⟨(List.replicate m C).toArray⟩) W) :=
        Lib.hid (fun W hb => rep_text W w.heap.size m m C (fun j hj => (hb.cell (p := ⟨w.heap.size, j, none⟩) hwl).trans (hcells j hj)))
      have ht := HC.out wr (Below.refl _ _)
      have hsz : (⟨(List.replicate m C).toArray⟩ : ByteArray).size = m := by show (List.replicate m C).toArray.size = m; rw [List.size_toArray, List.length_replicate]
      have CQ := Quote_any ⟨(List.replicate m C).toArray⟩ wr (by unfold maxLen; omega) (HT.out _ hbel) (by omega)
      have HB := Lib.hid (quoteB_len ⟨(List.replicate m C).toArray⟩)
      clear hkm hcells hown
      by_cases hbig : 640 < m
      · have q1 : qS ⟨(List.replicate m C).toArray⟩ = ⟨#[]⟩ := by unfold qS; rw [if_pos (by omega)]
        have q2 : qE ⟨(List.replicate m C).toArray⟩ = 20 := by unfold qE; rw [if_pos (by omega)]
        rw [q1, q2] at CQ
        have CQ := Lib.hid CQ
        clear q1 q2 hsz
        generalize (⟨(List.replicate m C).toArray⟩ : ByteArray) = T at *
        go_wp2_with fail
        refine CQ.out.mono ?_
        rintro e w2 ⟨rfl, hb2⟩
        have hbz := hbel.trans (hb2.mono hbel.size)
        go_wp2_with fail
        refine (CA.out _ (HT.out _ hbz) (by have := hbz.size; omega)).mono ?_
        rintro e w3 ⟨rfl, hb3⟩
        go_wp2_with fail
        go_ret
        exact ⟨rfl, hbz.trans (hb3.mono hbz.size)⟩
      · have q1 : qS ⟨(List.replicate m C).toArray⟩ = quoteB ⟨(List.replicate m C).toArray⟩ := by unfold qS; rw [if_neg (by omega)]
        have q2 : qE ⟨(List.replicate m C).toArray⟩ = 0 := by unfold qE; rw [if_neg (by omega)]
        rw [q1, q2] at CQ
        have hu : unqO (quoteB ⟨(List.replicate m C).toArray⟩).data.toList = some (⟨(List.replicate m C).toArray⟩ : ByteArray).data.toList := (unqO_iff _ _).2 (quoteO_B (by omega))
        obtain ⟨u1, u2⟩ := uq_some hu
        have CU := fun W (h : HexT W) (h0 : 0 < W.heap.size) => Unquote_any (quoteB ⟨(List.replicate m C).toArray⟩) W (by have := HB.out; unfold maxLen; omega) h h0
        rw [u1, u2] at CU
        rw [show (⟨(⟨(List.replicate m C).toArray⟩ : ByteArray).data.toList.toArray⟩ : ByteArray) = ⟨(List.replicate m C).toArray⟩ from rfl] at CU
        have hq := quoteB_len ⟨(List.replicate m C).toArray⟩
        rw [hsz] at hq
        have CQ := Lib.hid CQ
        have CU := Lib.hid CU
        clear q1 q2 hu u1 u2 hsz
        generalize quoteB ⟨(List.replicate m C).toArray⟩ = Q at *
        generalize (⟨(List.replicate m C).toArray⟩ : ByteArray) = T at *
        have hq2 : ((Q.size : Int) == (m : Int) + 2) = true ∨ (((Q.size : Int) == (m : Int) + 2) = false ∧ ((Q.size : Int) == 2 * (m : Int) + 1) = true) := by
          by_cases hqq : Q.size = m + 2
          · exact .inl (beq_iff_eq.2 (by omega))
          · exact .inr ⟨beq_eq_false_iff_ne.2 (by omega), beq_iff_eq.2 (by omega)⟩
        clear hq
        rcases hq2 with hq2 | ⟨hq2, hq3⟩
        all_goals
          go_wp2_with fail
          refine CQ.out.mono ?_
          rintro e w2 ⟨rfl, hb2⟩
          have hbz := hbel.trans (hb2.mono hbel.size)
          go_wp2_with fail
          refine (CU.out _ (HT.out _ hbz) (by have := hbz.size; omega)).mono ?_
          rintro e w3 ⟨rfl, hb3⟩
          have hby := hbz.trans (hb3.mono hbz.size)
          have ht3 := HC.out w3 (hb2.trans (hb3.mono hb2.size))
          go_wp2_with fail
          refine (CA.out _ (HT.out _ hby) (by have := hby.size; omega)).mono ?_
          rintro e w4 ⟨rfl, hb4⟩
          go_wp2_with fail
          go_ret
          exact ⟨rfl, hby.trans (hb4.mono hby.size)⟩
end valueLimits
end Go.Proofs.YtakafepdiapfdaaDoor
