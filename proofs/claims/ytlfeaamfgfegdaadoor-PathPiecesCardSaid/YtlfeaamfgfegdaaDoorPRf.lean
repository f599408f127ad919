/-
  Clean, Parent and Under of the reference.
-/
import Derived.Test.YtlfeaamfgfegdaaDoorPPu
namespace Go.Proofs.YtlfeaamfgfegdaaDoor.pt
open Go.RowKit Go.Shelf Go.Proofs.YtlfeaamfgfegdaaDoor.cm Go.Proofs.YtlfeaamfgfegdaaDoor.rg

/-- strings in memory -/
def StrsAt (W : World) (a : Option Addr) (xs : List ByteArray) : Prop :=
  xs = [] ∨ ∃ g, a = some ⟨g, 0, none⟩ ∧ g < W.heap.size ∧ ∀ j x, xs[j]? = some x → W.cell? ⟨g, j, none⟩ = some (.string x)
theorem StrsAt.below {W W' : World} {a : Option Addr} {xs : List ByteArray} {B : Nat} (h : StrsAt W a xs) (hb : Below B W W') (hB : W.heap.size ≤ B) : StrsAt W' a xs := by
  rcases h with h | ⟨g, h1, h2, h3⟩
  · exact .inl h
  · exact .inr ⟨g, h1, Nat.lt_of_lt_of_le h2 hb.size, fun j x hj => (hb.cell (p := ⟨g, j, none⟩) (by show g < B; omega)).trans (h3 j x hj)⟩
theorem StrsAt.get {W : World} {a : Option Addr} {xs : List ByteArray} (h : StrsAt W a xs) {j : Nat} (hj : j < xs.length) : ∃ g, a = some ⟨g, 0, none⟩ ∧ W.cell? ⟨g, j, none⟩ = some (.string (xs[j]'hj)) := by
  rcases h with rfl | ⟨g, h1, _, h3⟩
  · simp at hj
  · exact ⟨g, h1, h3 j _ (List.getElem?_eq_getElem hj)⟩
theorem own_strs {B : Nat} {W : World} {v : Value} {xs : List ByteArray} (h : OwnStrs B W v xs) : ∃ a cap, v = .slice a xs.length cap ∧ StrsAt W a xs := by
  rcases h.2 with ⟨rfl, hn⟩ | ⟨g, cap, cur, rfl, hB, hg, hn, hm, hz, ht⟩
  · have : xs = [] := List.length_eq_zero_iff.1 hn
    subst this
    exact ⟨_, _, rfl, .inl rfl⟩
  · refine ⟨_, _, rfl, .inr ⟨g, rfl, (Array.getElem?_eq_some_iff.1 hg).1, fun j x hj => ?_⟩⟩
    have := h.cells (g := g) rfl j (.string x) (by rw [List.getElem?_map, hj]; rfl)
    have e : (⟨g, 0, none⟩ : Addr).add j = ⟨g, j, none⟩ := by cases j <;> simp [Addr.add]
    rwa [e] at this

theorem bs_inj {a b : List UInt8} (h : bs a = bs b) : a = b := by rw [← bs_data a, h, bs_data]
theorem pieces_size (s : ByteArray) : (piecesB s).length ≤ s.size + 1 := Nat.le_trans (List.length_filter_le _ _) (by
  unfold cutB
  rw [List.length_map, Lib.size_eq]
  exact cutAt_count 47 _)
theorem pieces_at_list (s : ByteArray) {j : Nat} (hj : j < (piecesB s).length) : (piecesL s.data.toList)[j]? = some ((piecesB s)[j]'hj).data.toList := by
  rw [← pieces_list, List.getElem?_map, List.getElem?_eq_getElem hj]; rfl
theorem pieces_len (s : ByteArray) : (piecesL s.data.toList).length = (piecesB s).length := by rw [← pieces_list, List.length_map]

theorem take_succ_join {xs : List (List UInt8)} {k : Nat} {x : List UInt8} (h : xs[k]? = some x) : joinL (xs.take (k + 1)) = joinL (xs.take k) ++ 47 :: x := by
  rw [List.take_add_one, h, join_app]
  show joinL (xs.take k) ++ joinL [x] = _
  rw [join_cons, join_nil, List.append_nil]
theorem all_take_succ {xs : List (List UInt8)} {k : Nat} {x : List UInt8} (h : xs[k]? = some x) (ha : (xs.take k).all nameL = true) (hx : nameL x = true) : (xs.take (k + 1)).all nameL = true := by
  rw [List.take_add_one, h, List.all_append, ha]
  simp [hx]
theorem all_bad {xs : List (List UInt8)} {k : Nat} {x : List UInt8} (h : xs[k]? = some x) (hx : nameL x = false) : xs.all nameL = false := by
  rw [List.all_eq_false]
  exact ⟨x, List.mem_of_getElem? h, by rw [hx]; decide⟩

theorem cat_bs (p : List UInt8) (x : ByteArray) : bs p ++ (⟨#[47]⟩ ++ x) = bs (p ++ 47 :: x.data.toList) := by
  apply ByteArray.ext
  unfold bs
  simp
theorem cat_bs2 (p : List UInt8) (x : ByteArray) : bs p ++ ⟨#[47]⟩ ++ x = bs (p ++ 47 :: x.data.toList) := by
  apply ByteArray.ext
  unfold bs
  simp
theorem bs_len (l : List UInt8) : (bs l).size = l.length := by unfold bs; rfl

theorem val_str {a b : ByteArray} (h : a = b) : Value.string a = Value.string b := by rw [h]
theorem name_size {x : ByteArray} (h : nameS x = true) : x.size ≤ 12 := by
  have := (name_parts h).2.1
  rwa [← Lib.size_eq] at this

set_option maxHeartbeats 4000000 in
set_option maxRecDepth 100000 in
theorem rClean_any (s : ByteArray) (w : World) (hs : s.size ≤ 100000) :
    Calls Tryd.prog 28 #[.string s] w fun e w' => e = .returned (.bool (cleanS s)) ∧ Below w.heap.size w w' := by
  have CS := Lib.hid (rSplit_any s w hs)
  go_enter Tryd.func28, Tryd.ntmps28
  go_wp2_with fail
  refine CS.out.mono ?_
  rintro e w1 ⟨v, rfl, hown, hb1⟩
  obtain ⟨a, cap, rfl, hat⟩ := own_strs hown
  have hlen := pieces_size s
  have HAT := fun j hj => pieces_at_list s (j := j) hj
  have HLN := pieces_len s
  generalize startsL s.data.toList = b1
  generalize endsL s.data.toList = b2
  have HR := Lib.hid (rclean_eq s.data.toList)
  generalize hps : piecesB s = ps at *
  generalize hpl : piecesL s.data.toList = pl at *
  have HPL := Lib.hid hpl
  have HAT := Lib.hid HAT
  have HLN := Lib.hid HLN
  clear hown hps hpl
  go_wp2_with fail
  go_loopw [6, 7] (fun t i wr => ∃ k : Nat, k ≤ ps.length ∧ i = .int .i64 (k : Int) ∧ t = .string (bs (joinL (pl.take k))) ∧ (joinL (pl.take k)).length ≤ 13 * k ∧ Below w1.heap.size w1 wr ∧ Hid ((pl.take k).all nameL = true)) (fun _ i _ => ps.length - (intOf i).toNat)
  case atStart => exact ⟨0, Nat.zero_le _, rfl, rfl, Nat.le_refl 0, Below.refl _ _, Lib.hid rfl⟩
  case round =>
    obtain ⟨k, hk, rfl, rfl, hsz, hbel, HA⟩ := hrel
    by_cases hlt : k < ps.length
    · obtain ⟨g, rfl, hc⟩ := (hat.below hbel (Nat.le_refl _)).get hlt
      have hx := HAT.out k hlt
      generalize ps[k]'hlt = x at hx hc
      have CN := Name_any
      have CR := rName_any x wr
      have hlt' : (k : Int) < (ps.length : Int) := by omega
      have hk0 : (0 : Int) ≤ (k : Int) := by omega
      cases hn : nameS x
      · rw [hn] at CR
        have CR := Lib.hid CR
        have HB : Hid (cleanS s = false) := Lib.hid (by
          unfold cleanS
          rw [← HR.out]
          unfold rcleanL
          rw [HPL.out, all_bad hx hn]; rfl)
        clear hn hx CN
        go_wp2_with fail
        refine CR.out.mono ?_
        rintro e w2 ⟨rfl, rfl⟩
        go_wp2_with fail
        go_ret
        exact ⟨ret_bool HB.out.symm, hb1.trans (hbel.mono hb1.size)⟩
      · rw [hn] at CR
        have CR := Lib.hid CR
        have HN : Hid ((pl.take (k + 1)).all nameL = true) := Lib.hid (all_take_succ hx HA.out hn)
        have HJ := Lib.hid (take_succ_join hx)
        have hxs := name_size hn
        have hbl := bs_len (joinL (pl.take k))
        have HXL := Lib.hid (Lib.size_eq x)
        clear hn hx CN
        generalize hJ0 : joinL (pl.take k) = J0 at *
        go_wp2_with fail
        refine CR.out.mono ?_
        rintro e w2 ⟨rfl, rfl⟩
        go_wp2_with fail
        all_goals first
          | (refine ⟨⟨k + 1, by omega, by go_num, val_str (by rw [HJ.out]; first | exact cat_bs _ _ | exact cat_bs2 _ _), ?_, hbel, HN⟩, by simp [intOf]; omega⟩
             have h1 := HXL.out
             rw [HJ.out, List.length_append, List.length_cons]
             omega)
          | (exfalso; simp at *; omega)
    · obtain rfl : k = ps.length := by omega
      have HT : Hid (pl.take ps.length = pl) := Lib.hid (by rw [← HLN.out, List.take_length])
      have hlt' : ¬ ((ps.length : Int) < (ps.length : Int)) := by omega
      -- the answer
      have HB : Hid (cleanS s = (s.data.toList == [47] || (decide (0 < ps.length) && s.data.toList == joinL pl))) := Lib.hid (by
        unfold cleanS
        rw [← HR.out]
        unfold rcleanL
        have h1 := HA.out
        rw [HT.out] at h1
        rw [HPL.out, h1, Bool.true_and]
        congr 2
        rw [← HLN.out]
        cases pl <;> simp)
      rw [HT.out]
      cases h1 : (s.toList == [47])
      · by_cases h2 : 0 < ps.length
        · have h2' : decide ((0 : Int) < (ps.length : Int)) = true := by simp; omega
          have h3 : (s.toList == (bs (joinL pl)).toList) = (s.data.toList == joinL pl) := by rw [eq_test, toL, bs_data]
          generalize hq : (s.data.toList == joinL pl) = q at h3
          have HB2 : Hid (cleanS s = q) := Lib.hid (by
            have h1' := h1
            rw [eq_test] at h1'
            rw [HB.out, h1', decide_eq_true h2, hq]; simp)
          generalize bs (joinL pl) = T at *
          clear hq
          go_wp2_with fail
          go_ret
          exact ⟨ret_bool HB2.out.symm, hb1.trans (hbel.mono hb1.size)⟩
        · have h2' : decide ((0 : Int) < (ps.length : Int)) = false := decide_eq_false (by omega)
          have HB2 : Hid (cleanS s = false) := Lib.hid (by
            have h1' := h1
            rw [eq_test] at h1'
            rw [HB.out, h1', decide_eq_false h2]; rfl)
          generalize bs (joinL pl) = T at *
          go_wp2_with fail
          go_ret
          exact ⟨ret_bool HB2.out.symm, hb1.trans (hbel.mono hb1.size)⟩
      · have HB2 : Hid (cleanS s = true) := Lib.hid (by
          have h1' := h1
          rw [eq_test] at h1'
          rw [HB.out, h1']; rfl)
        generalize bs (joinL pl) = T at *
        go_wp2_with fail
        go_ret
        exact ⟨ret_bool HB2.out.symm, hb1.trans (hbel.mono hb1.size)⟩
theorem bs_self (s : ByteArray) : bs s.data.toList = s := (bs_ext rfl).symm
theorem joinB_bs (d : List UInt8) (n : ByteArray) : joinB (bs d) n = bs (joinP d n.data.toList) := by unfold joinB; rw [bs_data]; rfl
theorem dir_len {xs : List (List UInt8)} (h : xs.all nameL = true) : (dirL xs).length ≤ 1 + 13 * xs.length := by
  have hj : ∀ ys : List (List UInt8), ys.all nameL = true → (joinL ys).length ≤ 13 * ys.length := by
    intro ys
    induction ys with
    | nil => intro _; exact Nat.le_refl 0
    | cons y ys ih =>
      intro h
      rw [List.all_cons, Bool.and_eq_true] at h
      have := ih h.2
      have h2 := (name_parts h.1).2.1
      rw [join_cons]
      simp
      omega
  unfold dirL
  split
  · simp
  · have := hj xs h; omega
theorem take_snoc {xs : List (List UInt8)} {k : Nat} {x : List UInt8} (h : xs[k]? = some x) : xs.take (k + 1) = xs.take k ++ [x] := by rw [List.take_add_one, h]; rfl

set_option maxHeartbeats 8000000 in
set_option maxRecDepth 100000 in
theorem rParent_any (s : ByteArray) (w : World) (hs : s.size ≤ 7000) :
    Calls Tryd.prog 26 #[.string s] w (ParR s w) := by
  have CC := rClean_any s w (by omega)
  cases h2 : cleanS s
  · rw [h2] at CC
    have CC := Lib.hid CC
    have FIN : Hid (∀ W, Below w.heap.size w W → ParR s w (.returned (.tuple #[.string ⟨#[]⟩, .string ⟨#[]⟩, .bool false])) W) := Lib.hid (fun W hb => by
      unfold ParR
      rw [parent_no h2]
      exact ⟨rfl, hb⟩)
    clear h2
    go_enter Tryd.func26, Tryd.ntmps26
    go_wp2_with fail
    refine CC.out.mono ?_
    rintro e w1 ⟨rfl, hb⟩
    go_wp2_with fail
    go_ret3
    exact FIN.out _ hb
  · rw [h2] at CC
    have CC := Lib.hid CC
    cases h1 : (s.toList == [47])
    · have hne : s.data.toList ≠ [47] := by
        intro e
        have h1' := h1
        rw [eq_test, e] at h1'
        cases h1'
      obtain ⟨ys, n, hy, hn, he⟩ := clean_snoc h2 hne
      have hp := parent_join hy hn
      rw [← he] at hp
      have hpl : piecesL s.data.toList = ys ++ [n] := by rw [he, pieces_join (by rw [List.all_append, hy]; simp [hn])]
      have FIN : Hid (∀ d x W, d = bs (dirL ys) → x = bs n → Below w.heap.size w W → ParR s w (.returned (.tuple #[.string d, .string x, .bool true])) W) := Lib.hid (fun d x W e1 e2 hb => by
        unfold ParR
        rw [hp, e1, e2]
        exact ⟨rfl, hb⟩)
      have CS := Lib.hid (fun W => rSplit_any s W (by omega))
      have hlen := pieces_size s
      have HAT := fun j hj => pieces_at_list s (j := j) hj
      have HLN := pieces_len s
      rw [hpl] at HAT HLN
      have hl1 : (piecesB s).length = ys.length + 1 := by rw [← HLN]; simp
      have HAT := Lib.hid HAT
      have HY := Lib.hid hy
      clear h2 hne hp hpl he hn hy HLN
      go_enter Tryd.func26, Tryd.ntmps26
      go_wp2_with fail
      refine CC.out.mono ?_
      rintro e w1 ⟨rfl, hb1⟩
      go_wp2_with fail
      refine (CS.out _).mono ?_
      rintro e w2 ⟨v, rfl, hown, hb2⟩
      obtain ⟨a, cap, rfl, hat⟩ := own_strs hown
      generalize startsL s.data.toList = b1
      generalize endsL s.data.toList = b2
      have hb12 := hb1.trans (hb2.mono hb1.size)
      clear hown
      generalize piecesB s = ps at *
      go_wp2_with fail
      go_loopw [8, 9] (fun t i wr => ∃ k : Nat, k ≤ ys.length ∧ i = .int .i64 (k : Int) ∧ t = .string (bs (dirL (ys.take k))) ∧ Below w2.heap.size w2 wr) (fun _ i _ => ps.length - (intOf i).toNat)
      case atStart => exact ⟨0, Nat.zero_le _, rfl, rfl, Below.refl _ _⟩
      case round =>
        obtain ⟨k, hk, rfl, rfl, hbel⟩ := hrel
        have hwk : IntKind.i64.wrap ((k : Int) + 1) = ((k + 1 : Nat) : Int) := by rw [IntWalk.i64_in _ (by omega)]; omega
        by_cases hlt : k < ys.length
        · obtain ⟨g, rfl, hc⟩ := (hat.below hbel (Nat.le_refl _)).get (j := k) (by omega)
          have hx := HAT.out k (by omega)
          have hlt' : ((k + 1 : Nat) : Int) < (ps.length : Int) := by omega
          have hk1 : (k : Int) < (ps.length : Int) := by omega
          have hk0 : (0 : Int) ≤ (k : Int) := by omega
          generalize ps[k]'(by omega) = x at hx hc
          rw [List.getElem?_append_left hlt] at hx
          have hxn : nameL x.data.toList = true := List.all_eq_true.1 HY.out _ (List.mem_of_getElem? hx)
          have htk : (ys.take k).all nameL = true := by
            rw [List.all_eq_true]; intro y hy; exact List.all_eq_true.1 HY.out y (List.take_subset _ _ hy)
          have hdl := dir_len htk
          rw [List.length_take] at hdl
          have CJ := rJoin_any (bs (dirL (ys.take k))) x wr (by rw [bs_len]; omega) (by have := name_size hxn; omega)
          rw [joinB_bs, joinP_dir htk, ← take_snoc hx, ← dir_join (by
            intro e
            have := congrArg List.length e
            rw [List.length_take, List.length_nil] at this
            omega)] at CJ
          have CJ := Lib.hid CJ
          clear hx hxn htk hdl
          generalize bs (dirL (ys.take k)) = D0 at *
          go_wp2_with fail
          refine CJ.out.mono ?_
          rintro e w3 ⟨rfl, rfl⟩
          go_wp2_with fail
          refine ⟨⟨k + 1, by omega, by go_num, rfl, hbel⟩, by simp [intOf]; omega⟩
        · obtain rfl : k = ys.length := by omega
          have hwl : IntKind.i64.wrap ((ps.length : Int) - 1) = (ys.length : Int) := by rw [IntWalk.i64_in _ (by omega)]; omega
          obtain ⟨g, rfl, hc⟩ := (hat.below hbel (Nat.le_refl _)).get (j := ys.length) (by omega)
          have hx := HAT.out ys.length (by omega)
          have hk1 : (ys.length : Int) < (ps.length : Int) := by omega
          have hk0 : (0 : Int) ≤ (ys.length : Int) := by omega
          have hlt' : ¬ ((ys.length + 1 : Nat) : Int) < (ps.length : Int) := by omega
          generalize ps[ys.length]'(by omega) = x at hx hc
          rw [List.getElem?_append_right (Nat.le_refl _)] at hx
          simp at hx
          have HX : Hid (x = bs n) := Lib.hid (bs_ext hx.symm)
          have HD : Hid (bs (dirL (ys.take ys.length)) = bs (dirL ys)) := Lib.hid (by rw [List.take_length])
          clear hx
          generalize bs (dirL (ys.take ys.length)) = D0 at *
          go_wp2_with fail
          go_quiet (fail)
          go_wp2_with fail
          go_ret3
          exact FIN.out _ _ _ HD.out HX.out ((hb12.trans (hbel.mono hb12.size)).trans ⟨rfl, rfl, rfl, Nat.le_refl _, fun _ _ => rfl⟩)
    · have he := str_eq_true h1
      have FIN : Hid (∀ W, Below w.heap.size w W → ParR s w (.returned (.tuple #[.string ⟨#[]⟩, .string ⟨#[]⟩, .bool false])) W) := Lib.hid (fun W hb => by
        subst he
        exact ⟨rfl, hb⟩)
      clear he h2
      go_enter Tryd.func26, Tryd.ntmps26
      go_wp2_with fail
      refine CC.out.mono ?_
      rintro e w1 ⟨rfl, hb⟩
      go_wp2_with fail
      go_ret3
      exact FIN.out _ hb

theorem str_beq (a b : ByteArray) : (a.toList == b.toList) = (a.data.toList == b.data.toList) := by rw [toL, toL]
theorem prefix_bad {xs ys : List (List UInt8)} {k : Nat} {x y : List UInt8} (hx : xs[k]? = some x) (hy : ys[k]? = some y) (h : (x == y) = false) : xs.isPrefixOf ys = false := by
  rw [Bool.eq_false_iff]
  intro hp
  obtain ⟨t, rfl⟩ := List.isPrefixOf_iff_prefix.1 hp
  have hk := (List.getElem?_eq_some_iff.1 hx).1
  rw [List.getElem?_append_left hk, hx] at hy
  rw [Option.some.inj hy] at h
  simp at h
theorem prefix_good {xs ys : List (List UInt8)} (hl : xs.length ≤ ys.length) (h : ∀ k, k < xs.length → xs[k]? = ys[k]?) : xs.isPrefixOf ys = true := by
  rw [List.isPrefixOf_iff_prefix]
  refine ⟨ys.drop xs.length, ?_⟩
  have : xs = ys.take xs.length := by
    apply List.ext_getElem?
    intro k
    by_cases hk : k < xs.length
    · rw [h k hk, List.getElem?_take, if_pos hk]
    · rw [List.getElem?_eq_none (by omega), List.getElem?_eq_none (by rw [List.length_take]; omega)]
  conv => lhs; lhs; rw [this]
  exact List.take_append_drop _ _

set_option maxHeartbeats 8000000 in
set_option maxRecDepth 100000 in
theorem rUnder_any (a b : ByteArray) (w : World) (ha : a.size ≤ 100000) (hb : b.size ≤ 100000) :
    Calls Tryd.prog 15 #[.string a, .string b] w fun e w' => e = .returned (.bool (underS a b)) ∧ Below w.heap.size w w' := by
  have CA := rClean_any a w ha
  have CB := fun W => rClean_any b W hb
  cases h1 : cleanS a
  · have HB : Hid (underS a b = false) := Lib.hid (by unfold underS underL; rw [show cleanL a.data.toList = false from h1]; rfl)
    rw [h1] at CA
    have CA := Lib.hid CA
    clear h1 CB
    go_enter Tryd.func15, Tryd.ntmps15
    go_wp2_with fail
    refine CA.out.mono ?_
    rintro e w1 ⟨rfl, hb1⟩
    go_wp2_with fail
    go_ret
    exact ⟨ret_bool HB.out.symm, hb1⟩
  · rw [h1] at CA
    have CA := Lib.hid CA
    cases h2 : cleanS b
    · have HB : Hid (underS a b = false) := Lib.hid (by unfold underS underL; rw [show cleanL b.data.toList = false from h2]; simp)
      rw [h2] at CB
      have CB := Lib.hid CB
      clear h1 h2
      go_enter Tryd.func15, Tryd.ntmps15
      go_wp2_with fail
      refine CA.out.mono ?_
      rintro e w1 ⟨rfl, hb1⟩
      go_wp2_with fail
      refine (CB.out _).mono ?_
      rintro e w2 ⟨rfl, hb2⟩
      go_wp2_with fail
      go_ret
      exact ⟨ret_bool HB.out.symm, hb1.trans (hb2.mono hb1.size)⟩
    · rw [h2] at CB
      have CB := Lib.hid CB
      have HU : Hid (underS a b = (piecesL a.data.toList).isPrefixOf (piecesL b.data.toList)) := Lib.hid (by
        unfold underS underL
        rw [show cleanL a.data.toList = true from h1, show cleanL b.data.toList = true from h2]; rfl)
      have SA := Lib.hid (fun W => rSplit_any a W ha)
      have SB := Lib.hid (fun W => rSplit_any b W hb)
      have HTA := fun j hj => pieces_at_list a (j := j) hj
      have HTB := fun j hj => pieces_at_list b (j := j) hj
      have HLA := pieces_len a
      have HLB := pieces_len b
      have hla := pieces_size a
      have hlb := pieces_size b
      clear h1 h2
      go_enter Tryd.func15, Tryd.ntmps15
      go_wp2_with fail
      refine CA.out.mono ?_
      rintro e w1 ⟨rfl, hb1⟩
      go_wp2_with fail
      refine (CB.out _).mono ?_
      rintro e w2 ⟨rfl, hb2⟩
      have hb12 := hb1.trans (hb2.mono hb1.size)
      go_wp2_with fail
      refine (SA.out _).mono ?_
      rintro e w3 ⟨v, rfl, hown, hb3⟩
      obtain ⟨pa, capa, rfl, hata⟩ := own_strs hown
      have hb13 := hb12.trans (hb3.mono hb12.size)
      clear hown
      go_wp2_with fail
      refine (SB.out _).mono ?_
      rintro e w4 ⟨v, rfl, hown, hb4⟩
      obtain ⟨pb, capb, rfl, hatb⟩ := own_strs hown
      have hb14 := hb13.trans (hb4.mono hb13.size)
      have hata := hata.below hb4 (Nat.le_refl _)
      clear hown hb1 hb2 hb3 hb4 hb12 hb13
      generalize startsL a.data.toList = a1
      generalize endsL a.data.toList = a2
      generalize startsL b.data.toList = b1
      generalize endsL b.data.toList = b2
      generalize piecesB a = xs at *
      generalize piecesB b = ys at *
      generalize piecesL a.data.toList = xl at *
      generalize piecesL b.data.toList = yl at *
      have HTA := Lib.hid HTA
      have HTB := Lib.hid HTB
      have HLA := Lib.hid HLA
      have HLB := Lib.hid HLB
      by_cases hgt : ys.length < xs.length
      · have HB : Hid (underS a b = false) := Lib.hid (by
          rw [HU.out, Bool.eq_false_iff]
          intro hp
          have := (List.isPrefixOf_iff_prefix.1 hp).length_le
          rw [HLA.out, HLB.out] at this
          omega)
        have hgt' : ((ys.length : Nat) : Int) < (xs.length : Int) := by omega
        go_wp2_with fail
        go_ret
        exact ⟨ret_bool HB.out.symm, hb14⟩
      · have hgt' : decide (((ys.length : Nat) : Int) < (xs.length : Int)) = false := decide_eq_false (by omega)
        go_wp2_with fail
        go_loopw [11] (fun i wr => ∃ k : Nat, k ≤ xs.length ∧ i = .int .i64 (k : Int) ∧ Below w4.heap.size w4 wr ∧ Hid (∀ j, j < k → xl[j]? = yl[j]?)) (fun i _ => xs.length - (intOf i).toNat)
        case atStart => exact ⟨0, Nat.zero_le _, rfl, Below.refl _ _, Lib.hid (fun j hj => by omega)⟩
        case round =>
          obtain ⟨k, hk, rfl, hbel, HE⟩ := hrel
          have hq : ∀ q, Below w4.heap.size w4 (wr.drewN q) := fun q => hbel.trans ⟨rfl, rfl, rfl, Nat.le_refl _, fun _ _ => rfl⟩
          have HQ := Lib.hid hq
          have HBE := Lib.hid (hb14.trans (hbel.mono hb14.size))
          have HBQ := Lib.hid (fun q => hb14.trans ((hq q).mono hb14.size))
          clear hq
          by_cases hlt : k < xs.length
          · obtain ⟨ga, rfl, hca⟩ := (hata.below hbel (Nat.le_refl _)).get hlt
            obtain ⟨gb, rfl, hcb⟩ := (hatb.below hbel (Nat.le_refl _)).get (j := k) (by omega)
            have hxa := HTA.out k hlt
            have hxb := HTB.out k (by omega)
            generalize xs[k]'hlt = x at hxa hca
            generalize ys[k]'(by omega) = y at hxb hcb
            have hk0 : (0 : Int) ≤ (k : Int) := by omega
            have hk1 : (k : Int) < (xs.length : Int) := by omega
            have hk2 : (k : Int) < (ys.length : Int) := by omega
            cases he : (x.toList == y.toList)
            · have HB : Hid (underS a b = false) := Lib.hid (by
                rw [HU.out]
                exact prefix_bad hxa hxb (by rw [← str_beq]; exact he))
              clear hxa hxb
              go_wp2_with fail
              go_quiet (fail)
              go_wp2_with fail
              go_ret
              exact ⟨ret_bool HB.out.symm, HBQ.out _⟩
            · have HN : Hid (∀ j, j < k + 1 → xl[j]? = yl[j]?) := Lib.hid (fun j hj => by
                by_cases hjk : j < k
                · exact HE.out j hjk
                · have : j = k := by omega
                  subst this
                  rw [hxa, hxb]
                  rw [str_beq, beq_iff_eq] at he
                  rw [he])
              clear hxa hxb
              go_wp2_with fail
              go_quiet (fail)
              go_wp2_with fail
              exact ⟨⟨k + 1, by omega, by go_num, HQ.out _, HN⟩, by simp [intOf]; omega⟩
          · have HB : Hid (underS a b = true) := Lib.hid (by
              have : k = xs.length := by omega
              subst this
              rw [HU.out]
              exact prefix_good (by rw [HLA.out, HLB.out]; omega) (by rw [HLA.out]; exact HE.out))
            go_wp2_with fail
            go_ret
            exact ⟨ret_bool HB.out.symm, HBE.out⟩
end Go.Proofs.YtlfeaamfgfegdaaDoor.pt
