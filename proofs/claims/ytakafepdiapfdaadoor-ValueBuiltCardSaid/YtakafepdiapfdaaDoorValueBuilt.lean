/-
  The law ValueBuilt: its walk.
-/
import Derived.Test.YtakafepdiapfdaaDoorValueParses
import Derived.Test.YtakafepdiapfdaaDoorValueDiffer
import Derived.OpenShut
namespace Go.Proofs.YtakafepdiapfdaaDoor
open Go.RowKit Go.Proofs.YtakafepdiapfdaaDoor.cm Go.Proofs.YtakafepdiapfdaaDoor.vl Go.Proofs.YtakafepdiapfdaaDoor.sr
attribute [local go_sem ↓] Go.wp_at_zero Go.wp_at_succ

/-- a row of bytes is a string -/
theorem cm.text_ex (W : World) (g n cap : Nat) (h : ∀ j, j < n → ∃ v : UInt8, W.cell? ⟨g, j, none⟩ = some (.int .u8 (v.toNat : Int))) :
    ∃ X : ByteArray, X.size = n ∧ (convert 39 9 (.slice (some ⟨g, 0, none⟩) n cap)).run Tryd.prog W = .ok (.string X) W := by
  have hf : ∃ f : Nat → UInt8, ∀ j, j < n → W.cell? ⟨g, j, none⟩ = some (.int .u8 ((f j).toNat : Int)) :=
    ⟨fun j => if hj : j < n then Classical.choose (h j hj) else 0, fun j hj => by dsimp only; rw [dif_pos hj]; exact Classical.choose_spec (h j hj)⟩
  obtain ⟨f, hf⟩ := hf
  refine ⟨⟨((List.range n).map f).toArray⟩, by show ((List.range n).map f).toArray.size = n; rw [List.size_toArray, List.length_map, List.length_range], ?_⟩
  have := run_convert_bytes_back (P := Tryd.prog) W 39 9 5 ⟨g, 0, none⟩ cap ((List.range n).map f) Tryd.underlying39 Tryd.underlying5 Tryd.underlying9 (fun j hj => by
    have hj' : j < n := by simpa using hj
    have := hf j hj'
    cases j with
    | zero => simpa [Addr.add] using this
    | succ j => simpa [Addr.add] using this)
  rwa [List.length_map, List.length_range] at this

/-- '[]byte(s)': a new row of the string's bytes -/
theorem cm.bytes_new (W : World) (s : ByteArray) : ∃ (W2 : World) (cp : Nat), (convert 9 39 (.string s)).run Tryd.prog W = .ok (.slice (some ⟨W.heap.size, 0, none⟩) s.size cp) W2 ∧ Below W.heap.size W W2 ∧ W.heap.size < W2.heap.size ∧
    (∀ j, j < s.size → ∃ v : UInt8, W2.cell? ⟨W.heap.size, j, none⟩ = some (.int .u8 (v.toNat : Int))) ∧ (∀ j, j < s.size → W2.frozen? ⟨W.heap.size, j, none⟩ = false) := by
  have hr := run_bytes_of_string (P := Tryd.prog) W 9 39 5 s Tryd.underlying9 Tryd.underlying39 Tryd.underlying5
  generalize hcp : grownCap W s.size 0 5 = cp at hr
  have hrow : s.size ≤ (bytesRow s cp).size := by unfold bytesRow; simp only [Array.size_append, Array.size_map]; exact Nat.le_add_right _ _
  have hat : ∀ j (hj : j < s.size), (bytesRow s cp)[j]? = some (.int .u8 ((s[j].toNat : Nat) : Int)) := fun j hj => by
    have hj2 : j < s.data.size := hj
    have hsz : j < (s.data.map (fun b => Value.int .u8 (b.toNat : Int))).size := by simpa using hj2
    unfold bytesRow
    rw [Array.getElem?_append_left hsz, Array.getElem?_eq_getElem hsz, Array.getElem_map]
    rfl
  generalize bytesRow s cp = row at *
  refine ⟨_, _, hr, ((Below.refl _ _).drew).alloc (Nat.le_refl _) _, by simp [World.alloc], fun j hj => ⟨s[j], ?_⟩, fun j hj => ?_⟩
  · have hb : (W.drew.alloc (.cells row 5 (row.size, row.size + 1))).heap[W.heap.size]? = some (.cells row 5 (row.size, row.size + 1)) := by
      show (W.heap.push _)[W.heap.size]? = _
      simp
    generalize W.drew.alloc (.cells row 5 (row.size, row.size + 1)) = V at *
    simp [World.cell?, hb, hat j hj]
  · have hb : (W.drew.alloc (.cells row 5 (row.size, row.size + 1))).heap[W.heap.size]? = some (.cells row 5 (row.size, row.size + 1)) := by
      show (W.heap.push _)[W.heap.size]? = _
      simp
    generalize W.drew.alloc (.cells row 5 (row.size, row.size + 1)) = V at *
    simp [World.frozen?, hb]
    omega
namespace valueBuilt
set_option maxRecDepth 100000 in
set_option maxHeartbeats 8000000 in
theorem walk (a : Option Addr) (len cap : Nat) (zs : List Int) (c : Int) (w : World) (hr : IsRow .i64 w a len cap zs) (hcw : (Lit.int .u8 c).wf = true) (hL : laidMetH Tryd.prog Rows.valueBuiltRow.laid w) (_ : w.ShapedOpen Tryd.prog) :
    Calls Tryd.prog 7 #[.slice a len cap, .int .u8 c] w fun e w' => e = .returned (.bool true) ∧ Below w.heap.size w w' := by
  have hT : HexT w := hex_of hL (by rfl)
  have hP : PowT w := pow_of hL (by rfl)
  have h0 := pos_of hT
  have hs1 := syn_of hL (by rfl)
  have hs2 := rng_of hL (by rfl)
  have HE : Hid (∀ W, Below w.heap.size w W → Env2 W) := Lib.hid (fun W h => (Env2.mk ⟨hT, hP, h0⟩ hs1 hs2).below h)
  have hs0 := src_new w a len cap (nums_of_row hr)
  have CN := Lib.hid (new_any a len cap w)
  have CA := Lib.hid (fun W (h : Env W) => vl.awake_any W h.hex h.pos)
  have hc' := bounds_u8 hcw
  obtain ⟨C, rfl⟩ : ∃ C : UInt8, c = (C.toNat : Int) := ⟨UInt8.ofNat c.toNat, by rw [UInt8.toNat_ofNat']; omega⟩
  clear hT hP hs1 hs2 hL hr hcw hc'
  go_enter Tryd.func7, Tryd.ntmps7
  go_wp2_with fail
  refine CN.out.mono ?_
  rintro e w1 ⟨rfl, hw1⟩
  rw [← hw1] at hs0
  have C1 := Lib.hid (pair_b w w1 _ a len cap 0 hs0 (by omega))
  have hbe1 : Beside w.heap.size w w1 := by rw [hw1]; exact (Beside.refl _ w).alloc _
  clear hw1 hs0
  go_wp2_with fail
  refine C1.out.mono ?_
  rintro e w2 ⟨n1, k1, m1, t1, q1, rfl, hn1, hk1, hm1, ht1, hq1, hs2, hb2⟩
  have hbe2 := hbe1.trans hb2
  have hlt2 := hs2.lt
  have fp := Four.new w2 29 (.string n1) (.int .i64 k1) (.int .i64 m1) (.string t1)
  have hbw : Below w.heap.size w (w2.alloc (.cells #[.string n1, .int .i64 k1, .int .i64 m1, .string t1] 29)) := (hbe2.below (Nat.le_refl _) (Nat.le_refl _)).alloc (by omega) _
  have hs3 := hs2.alloc (.cells #[.string n1, .int .i64 k1, .int .i64 m1, .string t1] 29)
  have CF := Lib.hid (fun W (h : Env W) => Format_any n1 t1 k1 m1 W (by unfold maxLen; omega) (by unfold maxLen; omega) hm1 h)
  have CR := Lib.hid (fun W => rFormat_any n1 t1 k1 m1 W (by unfold maxLen; omega) (by unfold maxLen; omega) hm1)
  have K1 := Lib.hid (fun W => Check_any n1 t1 k1 m1 W (by unfold maxLen; omega) (by unfold maxLen; omega))
  have K2 := Lib.hid (fun W => rCheck_any n1 t1 k1 m1 W (by unfold maxLen; omega) (by unfold maxLen; omega))
  have hss : (fS n1 k1 m1 t1).size ≤ 5000 := by
    rcases ckI_cases n1 k1 m1 t1 with z | z
    · have := valB_size z hm1
      rw [fS_fine z, ByteArray.size_append, ByteArray.size_append]
      show n1.size + 1 + _ ≤ _
      omega
    · rw [fS_bad z]; decide
  generalize fS n1 k1 m1 t1 = S at *
  generalize ckI n1 k1 m1 t1 = er at *
  clear hbe1 hb2 hs2 hbe2
  go_wp2_with fail
  refine (CF.out _ (HE.out _ hbw).env).mono ?_
  rintro e w3 ⟨rfl, hb3⟩
  have fp3 := fp.below hb3
  have hbw3 := hbw.trans (hb3.mono hbw.size)
  have hs4 := hs3.later hb3
  obtain ⟨c0, c1, c2, c3, _, _, _, _⟩ := fp3
  have hz3 := cell_lt c0
  clear fp hb3 hs3
  go_wp2_with fail
  refine (CR.out _).mono ?_
  rintro e w4 ⟨rfl, hb4⟩
  have d0 := (hb4.cell (p := ⟨w2.heap.size, 0, none⟩) hz3).trans c0
  have d1 := (hb4.cell (p := ⟨w2.heap.size, 1, none⟩) hz3).trans c1
  have d2 := (hb4.cell (p := ⟨w2.heap.size, 2, none⟩) hz3).trans c2
  have d3 := (hb4.cell (p := ⟨w2.heap.size, 3, none⟩) hz3).trans c3
  have hbw4 := hbw3.trans (hb4.mono hbw3.size)
  have hs5 := hs4.later hb4
  have hz4 := cell_lt d0
  have hbd := hbw4.drew
  have hltd : w2.heap.size < w4.drew.heap.size := hz4
  have hs5d := hs5.later (Below.refl w4.heap.size w4).drew
  clear c0 c1 c2 c3 hb4 hs4 hs5
  go_wp2_with fail
  go_region_held3 (fun w' => w'.cell? ⟨w2.heap.size, 0, none⟩ = some (.string n1) ∧ w'.cell? ⟨w2.heap.size, 1, none⟩ = some (.int .i64 k1) ∧ w'.cell? ⟨w2.heap.size, 2, none⟩ = some (.int .i64 m1) ∧ w'.cell? ⟨w2.heap.size, 3, none⟩ = some (.string t1))
    (first
      | go_keep
      | (go_split_ands
         refine ⟨?_, ?_, ?_, ?_⟩ <;> first
           | (rw [hbB.cell (by first | exact hltA | exact hltd)]; assumption)
           | (rw [hbA.cell (by first | exact hltB | exact hltd)]; assumption)))
    (first
      | (go_at_call 18; refine (K1.out _).mono ?_; rintro e wA ⟨rfl, hbA⟩; have hbbA : Below w.heap.size w wA := (by first | exact hbbB.trans (hbA.mono hbbB.size) | exact hbd.trans (hbA.mono hbd.size)); have hltA : w2.heap.size < wA.heap.size := (by first | exact Nat.lt_of_lt_of_le hltB hbA.size | exact Nat.lt_of_lt_of_le hltd hbA.size); have hsA := (by first | exact hsB.later hbA | exact hs5d.later hbA : SrcAt w wA w.heap.size a len cap q1))
      | (go_at_call 19; refine (K2.out _).mono ?_; rintro e wB ⟨rfl, hbB⟩; have hbbB : Below w.heap.size w wB := (by first | exact hbbA.trans (hbB.mono hbbA.size) | exact hbd.trans (hbB.mono hbd.size)); have hltB : w2.heap.size < wB.heap.size := (by first | exact Nat.lt_of_lt_of_le hltA hbB.size | exact Nat.lt_of_lt_of_le hltd hbB.size); have hsB := (by first | exact hsA.later hbB | exact hs5d.later hbB : SrcAt w wB w.heap.size a len cap q1)))
  by_cases hS0 : S.size = 0
  · have hSe := size_nil hS0
    subst hSe
    have hX : (⟨#[]⟩ : ByteArray).size ≤ 100000 := by decide
    have hbW := hbbB
    have C1 := Parse_any (⟨#[]⟩ : ByteArray) wB hX (HE.out _ hbW)
    have C2 := fun W => rParse_any (⟨#[]⟩ : ByteArray) W hX
    obtain ⟨pa, pk, pn, pb, hv⟩ := vl.parV_form (⟨#[]⟩ : ByteArray)
    rw [hv] at C1 C2
    generalize parE (⟨#[]⟩ : ByteArray) = er3 at *
    have C1 := Lib.hid C1
    have C2 := Lib.hid C2
    clear hv
    go_wp2_with fail
    refine C1.out.mono ?_
    rintro e v2 ⟨rfl, b2⟩
    go_wp2_with fail
    refine (C2.out _).mono ?_
    rintro e v3 ⟨rfl, b3⟩
    have b4 := (b2.alloc b2.size (.cells #[.string pa, .int .i64 pk, .int .i64 pn, .string pb] 29)).trans (b3.mono (by have := b2.size; simp at this ⊢; omega))
    have hby := hbW.trans (b4.mono hbW.size)
    obtain ⟨y0, y1, y2, y3, _, _, _, _⟩ := box_of ((b3.block v2.heap.size (by simp)).trans (box_new v2 _ _ _ _ _))
    have hz4 : v2.heap.size < v3.heap.size := cell_lt y0
    have hbx := hby.alloc hby.size (.cells #[.string pa, .int .i64 pk, .int .i64 pn, .string pb] 29)
    clear b2 b3 b4
    go_wp2_with fail
    refine (CA.out _ (HE.out _ hbx).env).mono ?_
    rintro e v4 ⟨rfl, hb9⟩
    go_wp2_with fail
    go_ret
    exact ⟨rfl, hbx.trans (hb9.mono hbx.size)⟩
  · have hSp : 0 < S.size := by omega
    obtain ⟨W2, cp, hcv, hb2, hgt, hcel, hfro⟩ := bytes_new wB S
    have hs6 := hsB.later hb2
    have hlb := hsB.lt
    have CX := Lib.hid (n_b w W2 _ a len cap q1 S.size hs6 (by omega) (by omega) (by omega))
    have hbw6 := hbbB.trans (hb2.mono hbbB.size)
    have HCE := Lib.hid hcel
    have HFR := Lib.hid hfro
    clear hcel hfro hs6 hb2 hsB
    go_wp2_with fail
    refine CX.out.mono ?_
    rintro e w7 ⟨x, hx, rfl, hs7, hb7⟩
    have hgb : wB.heap.size ≠ w.heap.size := by omega
    have hall : ∀ j, j < S.size → ∃ v : UInt8, w7.cell? ⟨wB.heap.size, j, none⟩ = some (.int .u8 (v.toNat : Int)) := fun j hj => by
      obtain ⟨v, hv⟩ := HCE.out j hj
      exact ⟨v, (hb7.cells hgb hgt j).trans hv⟩
    have hfr : w7.frozen? ⟨wB.heap.size, x, none⟩ = false := (World.frozen?_of_block (w := W2) (hb7.block wB.heap.size hgt hgb)).trans (HFR.out x hx)
    obtain ⟨v0, hv0⟩ := hall x hx
    have hbw7 := hbw6.trans (hb7.below (Nat.le_refl _) hbw6.size)
    have hbW := hbw7.setCell (p := ⟨wB.heap.size, x, none⟩) (by show w.heap.size ≤ wB.heap.size; omega) (.int .u8 (C.toNat : Int))
    obtain ⟨X, hXs, hX2⟩ := text_ex (w7.setCell ⟨wB.heap.size, x, none⟩ (.int .u8 (C.toNat : Int))) wB.heap.size S.size cp (fun j hj => by
      by_cases hjx : j = x
      · subst hjx; exact ⟨C, by simp [go_sem, hv0]⟩
      · obtain ⟨v, hv⟩ := hall j hj
        exact ⟨v, (World.cell?_setCell_other w7 ⟨wB.heap.size, x, none⟩ ⟨wB.heap.size, j, none⟩ _ (fun hc => hjx (by injection hc with _ h2; exact h2.symm))).trans hv⟩)
    have hX : X.size ≤ 100000 := by omega
    clear hall hXs hs7 hb7 hbw6 hbw7
    have C1 := Parse_any X (w7.setCell ⟨wB.heap.size, x, none⟩ (.int .u8 (C.toNat : Int))) hX (HE.out _ hbW)
    have C2 := fun W => rParse_any X W hX
    obtain ⟨pa, pk, pn, pb, hv⟩ := vl.parV_form X
    rw [hv] at C1 C2
    generalize parE X = er3 at *
    have C1 := Lib.hid C1
    have C2 := Lib.hid C2
    clear hv
    go_wp2_with fail
    refine C1.out.mono ?_
    rintro e v2 ⟨rfl, b2⟩
    go_wp2_with fail
    refine (C2.out _).mono ?_
    rintro e v3 ⟨rfl, b3⟩
    have b4 := (b2.alloc b2.size (.cells #[.string pa, .int .i64 pk, .int .i64 pn, .string pb] 29)).trans (b3.mono (by have := b2.size; simp at this ⊢; omega))
    have hby := hbW.trans (b4.mono hbW.size)
    obtain ⟨y0, y1, y2, y3, _, _, _, _⟩ := box_of ((b3.block v2.heap.size (by simp)).trans (box_new v2 _ _ _ _ _))
    have hz4 : v2.heap.size < v3.heap.size := cell_lt y0
    have hbx := hby.alloc hby.size (.cells #[.string pa, .int .i64 pk, .int .i64 pn, .string pb] 29)
    clear b2 b3 b4
    go_wp2_with fail
    refine (CA.out _ (HE.out _ hbx).env).mono ?_
    rintro e v4 ⟨rfl, hb9⟩
    go_wp2_with fail
    go_ret
    exact ⟨rfl, hbx.trans (hb9.mono hbx.size)⟩
end valueBuilt
end Go.Proofs.YtakafepdiapfdaaDoor
