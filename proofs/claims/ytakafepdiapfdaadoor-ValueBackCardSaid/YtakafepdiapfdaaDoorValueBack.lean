/-
  The law ValueBack: its walk.
-/
import Derived.Test.YtakafepdiapfdaaDoorValueParses
import Derived.Test.YtakafepdiapfdaaDoorValueDiffer
namespace Go.Proofs.YtakafepdiapfdaaDoor
open Go.RowKit Go.Proofs.YtakafepdiapfdaaDoor.cm Go.Proofs.YtakafepdiapfdaaDoor.vl Go.Proofs.YtakafepdiapfdaaDoor.sr
attribute [local go_sem ↓] Go.wp_at_zero Go.wp_at_succ

/-- the text of a sound pair is read back, and its bytes are printable -/
theorem vl.fS_back {nm t : ByteArray} {k n : Int} (h : ckI nm k n t = 0) (hn : isInt n) :
    parV (fS nm k n t) = .agg #[.string nm, .int .i64 k, .int .i64 n, .string t] ∧ parE (fS nm k n t) = 0 ∧ (fS nm k n t).size ≤ 100000 ∧ ∀ (j : Nat) (hj : j < (fS nm k n t).size), (32 : Int) < ((fS nm k n t)[j].toNat : Int) ∧ ((fS nm k n t)[j].toNat : Int) ≤ 126 := by
  rcases fS_P nm k n t with ⟨_, a1⟩ | ⟨a1, _⟩
  · have e1 := parP_fmtP a1 hn
    obtain ⟨p1, p2⟩ := par_some e1
    obtain ⟨b1, b2⟩ := fmtP_bytes a1 hn
    rw [bytes_len] at b1
    refine ⟨p1, p2, by omega, fun j hj => ?_⟩
    have hm : (fS nm k n t)[j] ∈ (fS nm k n t).data.toList := by
      have : (fS nm k n t).data.toList[j]'(by rw [bytes_len]; exact hj) = (fS nm k n t)[j] := rfl
      rw [← this]; exact List.getElem_mem _
    have := b2 _ hm
    omega
  · rw [h] at a1; cases a1

namespace valueBack
/-- two pairs lie in a block -/
def Pairs (w : World) (G : Nat) : Prop := ∀ j, j < 2 → ∃ (nm : ByteArray) (k n : Int) (t : ByteArray),
  w.cell? ⟨G, j * 4, none⟩ = some (.string nm) ∧ w.cell? ⟨G, j * 4 + 1, none⟩ = some (.int .i64 k) ∧ w.cell? ⟨G, j * 4 + 2, none⟩ = some (.int .i64 n) ∧ w.cell? ⟨G, j * 4 + 3, none⟩ = some (.string t) ∧
  nm.size ≤ 100 ∧ t.size ≤ 640 ∧ isInt n
theorem Pairs.below {w w' : World} {G N : Nat} (h : Pairs w G) (hb : Below N w w') (hN : G < N) : Pairs w' G := fun j hj => by
  obtain ⟨nm, k, n, t, h0, h1, h2, h3, h4⟩ := h j hj
  exact ⟨nm, k, n, t, (hb.cell (p := ⟨G, j * 4, none⟩) hN).trans h0, (hb.cell (p := ⟨G, j * 4 + 1, none⟩) hN).trans h1, (hb.cell (p := ⟨G, j * 4 + 2, none⟩) hN).trans h2, (hb.cell (p := ⟨G, j * 4 + 3, none⟩) hN).trans h3, h4⟩

/-- a new source, in whatever world the call has come to -/
def NewB (w W : World) (a : Option Addr) (len cap : Nat) (e : Ending) (w' : World) : Prop :=
  e = .returned (.pointer (some ⟨W.heap.size, 0, none⟩)) ∧ SrcAt w w' W.heap.size a len cap 0 ∧ Below W.heap.size W w'
theorem new_b (w W : World) (a : Option Addr) (len cap : Nat) (hn : Nums w a len) (hb : Below w.heap.size w W) : Calls Tryd.prog 22 #[.slice a len cap] W (NewB w W a len cap) :=
  (new_any a len cap W).mono fun e w' ⟨he, hw⟩ => by
    subst hw
    refine ⟨he, ⟨hn, hb.alloc hb.size _, hb.size, ?_, by omega⟩, (Below.refl _ _).alloc (Nat.le_refl _) _⟩
    show (W.heap.push (.cells #[.slice a len cap, .int .i64 0] 61))[W.heap.size]? = _
    simp

set_option maxRecDepth 100000 in
set_option maxHeartbeats 8000000 in
theorem walk (nm : ByteArray) (k n : Int) (t : ByteArray) (a : Option Addr) (len cap : Nat) (zs : List Int) (w : World) (hnm : nm.size ≤ maxLen) (_ : isInt k) (hn : isInt n) (ht : t.size ≤ maxLen) (hr : IsRow .i64 w a len cap zs)
    (hL : laidMetH Tryd.prog Rows.valueBackRow.laid w) (_ : w.ShapedOpen Tryd.prog) :
    Calls Tryd.prog 9 #[.agg #[.string nm, .int .i64 k, .int .i64 n, .string t], .slice a len cap] w fun e w' => e = .returned (.bool true) ∧ Below w.heap.size w w' := by
  have hT : HexT w := hex_of hL (by rfl)
  have hP : PowT w := pow_of hL (by rfl)
  have h0 := pos_of hT
  have hs1 := syn_of hL (by rfl)
  have hs2 := rng_of hL (by rfl)
  have HE : Hid (∀ W, Below w.heap.size w W → Env2 W) := Lib.hid (fun W h => (Env2.mk ⟨hT, hP, h0⟩ hs1 hs2).below h)
  have CN := Lib.hid (fun W (hb : Below w.heap.size w W) => new_b w W a len cap (nums_of_row hr) hb)
  have CA := Lib.hid (fun W (h : Env W) => vl.awake_any W h.hex h.pos)
  have hb0 : Below w.heap.size w (w.alloc (.cells #[.string nm, .int .i64 k, .int .i64 n, .string t] 29)) := (Below.refl _ _).alloc (Nat.le_refl _) _
  clear hT hP hs1 hs2 hL hr
  unfold maxLen at hnm ht
  by_cases hbig : 640 < t.size
  · go_enter Tryd.func9, Tryd.ntmps9
    go_wp2_with fail
    refine (CA.out _ (HE.out _ hb0).env).mono ?_
    rintro e w' ⟨rfl, hb⟩
    go_wp2_with fail
    go_ret
    exact ⟨rfl, hb0.trans (hb.mono hb0.size)⟩
  · by_cases hbig2 : 100 < nm.size
    · go_enter Tryd.func9, Tryd.ntmps9
      go_wp2_with fail
      refine (CA.out _ (HE.out _ hb0).env).mono ?_
      rintro e w' ⟨rfl, hb⟩
      go_wp2_with fail
      go_ret
      exact ⟨rfl, hb0.trans (hb.mono hb0.size)⟩
    · have hd1 : decide (640 < (t.size : Int)) = false := by simp; omega
      have hd2 : decide (100 < (nm.size : Int)) = false := by simp; omega
      have c0 : (w.alloc (.cells #[.string nm, .int .i64 k, .int .i64 n, .string t] 29)).cell? ⟨w.heap.size, 0, none⟩ = some (.string nm) := by simp
      have c1 : (w.alloc (.cells #[.string nm, .int .i64 k, .int .i64 n, .string t] 29)).cell? ⟨w.heap.size, 1, none⟩ = some (.int .i64 k) := by simp
      have c2 : (w.alloc (.cells #[.string nm, .int .i64 k, .int .i64 n, .string t] 29)).cell? ⟨w.heap.size, 2, none⟩ = some (.int .i64 n) := by simp
      have c3 : (w.alloc (.cells #[.string nm, .int .i64 k, .int .i64 n, .string t] 29)).cell? ⟨w.heap.size, 3, none⟩ = some (.string t) := by simp
      have hlt0 : w.heap.size < (w.alloc (.cells #[.string nm, .int .i64 k, .int .i64 n, .string t] 29)).heap.size := by simp
      go_enter Tryd.func9, Tryd.ntmps9
      go_wp2_with fail
      generalize w.alloc (.cells #[.string nm, .int .i64 k, .int .i64 n, .string t] 29) = W0 at *
      have CN0 := Lib.hid (CN.out _ hb0.drew)
      have hltd : w.heap.size < W0.drew.heap.size := hlt0
      go_region_held3 (fun w' => w'.cell? ⟨w.heap.size, 0, none⟩ = some (.string nm) ∧ w'.cell? ⟨w.heap.size, 1, none⟩ = some (.int .i64 k) ∧ w'.cell? ⟨w.heap.size, 2, none⟩ = some (.int .i64 n) ∧ w'.cell? ⟨w.heap.size, 3, none⟩ = some (.string t))
        (first
          | go_keep
          | (go_split_ands
             refine ⟨?_, ?_, ?_, ?_⟩ <;> first
               | (rw [hbP.cells hne hltN]; assumption)
               | (rw [hbN.cell hltd]; assumption)))
        (first
          | (go_at_call 22; refine CN0.out.mono ?_; rintro e wN ⟨rfl, hsN, hbN⟩; have hltN : w.heap.size < wN.heap.size := Nat.lt_of_lt_of_le hltd hbN.size; have hne : w.heap.size ≠ W0.drew.heap.size := Nat.ne_of_lt hltd; have CP0 := Lib.hid (pair_b w wN _ a len cap 0 hsN (by omega)))
          | (go_at_call 23; refine CP0.out.mono ?_; rintro e wP ⟨n2, k2, m2, t2, q2, rfl, hn2, hk2, hm2, ht2, hq2, hsP, hbP⟩))
      have hx0 : Pairs (wP.alloc (.cells #[.string nm, .int .i64 k, .int .i64 n, .string t, .string n2, .int .i64 k2, .int .i64 m2, .string t2] 29)) wP.heap.size := fun j hj => by
        match j, hj with
        | 0, _ => exact ⟨nm, k, n, t, by simp, by simp, by simp, by simp, by omega, by omega, hn⟩
        | 1, _ => exact ⟨n2, k2, m2, t2, by simp, by simp, by simp, by simp, by omega, by omega, hm2⟩
      have hbn : Below w.heap.size w wN := hb0.drew.trans (hbN.mono (Nat.le_of_lt hltd))
      have hbp : Below w.heap.size w wP := hbn.trans (hbP.below (Nat.le_of_lt hltd) (Nat.le_of_lt hltN))
      have hbq : Below w.heap.size w (wP.alloc (.cells #[.string nm, .int .i64 k, .int .i64 n, .string t, .string n2, .int .i64 k2, .int .i64 m2, .string t2] 29)) := hbp.alloc hbp.size _
      have hgl : wP.heap.size < (wP.alloc (.cells #[.string nm, .int .i64 k, .int .i64 n, .string t, .string n2, .int .i64 k2, .int .i64 m2, .string t2] 29)).heap.size := by simp
      have HX0 := Lib.hid hx0
      clear hx0 hbn hbp hbN hbP hsN hsP CN0 CP0 c0 c1 c2 c3
      go_wp2_with fail
      generalize wP.alloc (.cells #[.string nm, .int .i64 k, .int .i64 n, .string t, .string n2, .int .i64 k2, .int .i64 m2, .string t2] 29) = W5 at *
      generalize wP.heap.size = G at *
      go_loopw [6] (fun i wr => ∃ j : Nat, j ≤ 2 ∧ i = .int .i64 (j : Int) ∧ G < wr.heap.size ∧ Hid (Pairs wr G) ∧ Below w.heap.size w wr) (fun i _ => 2 - (intOf i).toNat)
      case atStart => exact ⟨0, by omega, rfl, hgl, HX0, hbq⟩
      case round =>
        obtain ⟨j, hj, rfl, hg, HX, hbel⟩ := hrel
        by_cases hlt : j < 2
        · obtain ⟨xn, xk, xm, xt, e0, e1, e2, e3, z1, z2, z3⟩ := HX.out j hlt
          have HW := Lib.hid (HE.out _ hbel)
          have CF := Format_any xn xt xk xm wr (by unfold maxLen; omega) (by unfold maxLen; omega) z3 HW.out.env
          rcases ckI_cases xn xk xm xt with g | g
          · obtain ⟨p1, p2, p3, p4⟩ := fS_back g z3
            have CP := fun W (h : Env2 W) => Parse_any (fS xn xk xm xt) W p3 h
            rw [p1, p2] at CP
            rw [g] at CF
            have HB := Lib.hid p4
            clear p1 p2 p4 g
            generalize fS xn xk xm xt = S at *
            have CF := Lib.hid CF
            have CP := Lib.hid CP
            go_wp2_with fail
            refine CF.out.mono ?_
            rintro e w2 ⟨rfl, b2⟩
            have hb2 := hbel.trans (b2.mono hbel.size)
            have hg2 := Nat.lt_of_lt_of_le hg b2.size
            go_wp2_with fail
            refine (CP.out _ (HE.out _ hb2)).mono ?_
            rintro e w3 ⟨rfl, b3⟩
            have b23 := b2.trans (b3.mono b2.size)
            have hb3 := hb2.trans (b3.mono hb2.size)
            have hg3 : G < w3.heap.size := Nat.lt_of_lt_of_le hg2 b3.size
            have d0 := (b23.cell (p := ⟨G, j * 4, none⟩) hg).trans e0
            have d1 := (b23.cell (p := ⟨G, j * 4 + 1, none⟩) hg).trans e1
            have d2 := (b23.cell (p := ⟨G, j * 4 + 2, none⟩) hg).trans e2
            have d3 := (b23.cell (p := ⟨G, j * 4 + 3, none⟩) hg).trans e3
            have HX3 : Hid (Pairs (w3.alloc (.cells #[.string xn, .int .i64 xk, .int .i64 xm, .string xt] 29)) G) := Lib.hid ((HX.out.below b23 hg).below ((Below.refl w3.heap.size w3).alloc (Nat.le_refl _) _) hg3)
            have hb4 := hb3.alloc hb3.size (.cells #[.string xn, .int .i64 xk, .int .i64 xm, .string xt] 29)
            have hj0 : (0 : Int) ≤ (j : Int) := by omega
            have hj1 : (j : Int) < 2 := by omega
            clear e0 e1 e2 e3 b2 b3 b23
            go_wp2_with fail
            go_quiet (fail)
            go_wp2_with fail
            go_loop [11] (fun x => ∃ y : Nat, y ≤ S.size ∧ x = .int .i64 (y : Int)) (fun x => S.size - (intOf x).toNat)
            case atStart => exact ⟨0, Nat.zero_le _, rfl⟩
            case round =>
              obtain ⟨y, hy, rfl⟩ := hrel
              by_cases hyl : y < S.size
              · obtain ⟨q1, q2⟩ := HB.out y hyl
                go_wp2_with fail
                exact ⟨⟨y + 1, by omega, by go_num⟩, by simp [intOf]; omega⟩
              · go_wp2_with fail
                exact ⟨⟨j + 1, by omega, by go_num, by simp; omega, HX3, below_drewN hb4 _⟩, by simp [intOf]; omega⟩
          · have g7 : (ckI xn xk xm xt != 0) = true := by simp [bne, g]
            have CK := fun W => Check_any xn xt xk xm W (by unfold maxLen; omega) (by unfold maxLen; omega)
            generalize fS xn xk xm xt = S at *
            generalize ckI xn xk xm xt = er at *
            have CF := Lib.hid CF
            have CK := Lib.hid CK
            go_wp2_with fail
            refine CF.out.mono ?_
            rintro e w2 ⟨rfl, b2⟩
            have hb2 := hbel.trans (b2.mono hbel.size)
            have hg2 := Nat.lt_of_lt_of_le hg b2.size
            have d0 := (b2.cell (p := ⟨G, j * 4, none⟩) hg).trans e0
            have d1 := (b2.cell (p := ⟨G, j * 4 + 1, none⟩) hg).trans e1
            have d2 := (b2.cell (p := ⟨G, j * 4 + 2, none⟩) hg).trans e2
            have d3 := (b2.cell (p := ⟨G, j * 4 + 3, none⟩) hg).trans e3
            clear e0 e1 e2 e3
            go_wp2_with fail
            refine (CK.out _).mono ?_
            rintro e w3 ⟨rfl, b3⟩
            have b23 := b2.trans (b3.mono b2.size)
            have hb3 := hb2.trans (b3.mono hb2.size)
            have hg3 : G < w3.heap.size := Nat.lt_of_lt_of_le hg2 b3.size
            have HX3 : Hid (Pairs w3 G) := Lib.hid (HX.out.below b23 hg)
            clear d0 d1 d2 d3 b2 b3 b23
            go_wp2_with fail
            exact ⟨⟨j + 1, by omega, by go_num, hg3, HX3, hb3⟩, by simp [intOf]; omega⟩
        · obtain rfl : j = 2 := by omega
          go_wp2_with fail
          refine (CA.out _ (HE.out _ hbel).env).mono ?_
          rintro e w' ⟨rfl, hb⟩
          go_wp2_with fail
          go_ret
          exact ⟨rfl, hbel.trans (hb.mono hbel.size)⟩
end valueBack
end Go.Proofs.YtakafepdiapfdaaDoor
