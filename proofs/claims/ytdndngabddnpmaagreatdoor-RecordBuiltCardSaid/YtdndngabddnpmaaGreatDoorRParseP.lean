/-
  The reference's Parse reads the same pairs.
-/
import Derived.Test.YtdndngabddnpmaaGreatDoorVParse
import Derived.Test.YtdndngabddnpmaaGreatDoorRUnq2
namespace Go.Proofs.YtdndngabddnpmaaGreatDoor.vl
open Go.RowKit Go.Proofs.YtdndngabddnpmaaGreatDoor.cm

/-- the bytes before k are no '=' -/
def NoEq (b : UInt8) : Bool := decide (b ≠ 61)

theorem cutE_at {s : ByteArray} {k : Nat} (h : SafeTo NoEq s k) (hk : k < s.size) (he : s[k] = 61) : cutE s.data.toList = some (s.data.toList.take k, s.data.toList.drop (k + 1)) := by
  have hl : k < s.data.toList.length := by rw [bytes_len]; exact hk
  have hd := List.drop_eq_getElem_cons hl
  rw [show s.data.toList[k]'hl = s[k] from rfl, he] at hd
  have hs : s.data.toList = s.data.toList.take k ++ 61 :: s.data.toList.drop (k + 1) := by rw [← hd, List.take_append_drop]
  have hc : ∀ c ∈ s.data.toList.take k, c ≠ 61 := by
    intro c hc
    obtain ⟨j, hj, e⟩ := List.getElem_of_mem hc
    have hj2 : j < k ∧ j < s.size := by rw [List.length_take, bytes_len] at hj; omega
    have := h j hj2.2 hj2.1
    rw [List.getElem_take] at e
    have e2 : s[j] = c := e
    rw [e2] at this
    simpa [NoEq] using this
  have := cutE_app (s.data.toList.take k) (s.data.toList.drop (k + 1)) hc
  rwa [← hs] at this
theorem cutE_no {s : ByteArray} (h : SafeTo NoEq s s.size) : cutE s.data.toList = none := by
  cases hc : cutE s.data.toList with
  | none => rfl
  | some q =>
    obtain ⟨nm, v⟩ := q
    have hs := (cutE_form hc).1
    have hm : (61 : UInt8) ∈ s.data.toList := by rw [hs]; simp
    obtain ⟨j, hj, e⟩ := List.getElem_of_mem hm
    rw [bytes_len] at hj
    have := h j hj hj
    have e2 : s[j] = 61 := e
    rw [e2] at this
    cases this

/-- the end: the pair is written again -/
theorem again {s : ByteArray} {nm v : List UInt8} (h : cutE s.data.toList = some (nm, v)) :
    parP s.data.toList = if fmtP (valP nm v) = some s.data.toList then some (valP nm v) else none := by unfold parP; rw [h]

/-- what the reference's Format answers of a pair, in terms of its text -/
theorem fS_P (nm : ByteArray) (k n : Int) (t : ByteArray) : (ckI nm k n t = 0 ∧ fmtP ⟨nm.data.toList, k, n, t.data.toList⟩ = some (fS nm k n t).data.toList) ∨ ((ckI nm k n t == 0) = false ∧ fmtP ⟨nm.data.toList, k, n, t.data.toList⟩ = none) := by
  rcases ckI_cases nm k n t with h | h
  · left
    refine ⟨h, ?_⟩
    have hc : checkP ⟨nm.data.toList, k, n, t.data.toList⟩ = 0 := h
    unfold fmtP
    rw [if_pos hc, fS_fine h]
    congr 1
    rw [ByteArray.data_append, ByteArray.data_append, Array.toList_append, Array.toList_append]
    show nm.data.toList ++ 61 :: _ = nm.data.toList ++ [61] ++ _
    rw [List.append_assoc]
    congr 1
    show 61 :: valL _ = 61 :: _
    congr 1
    have hw := ckI_ways (ck_name h) k n t
    rw [h] at hw
    unfold valL valB
    dsimp only
    by_cases k1 : k = 1
    · rw [if_pos k1, if_pos k1]; rfl
    · rw [if_neg k1, if_neg k1]
      by_cases k2 : k = 2
      · rw [if_pos k2, if_pos k2]
        have hl : t.size ≤ 640 := by cases hw <;> omega
        unfold quoteB safeB
        cases hs : t.data.toList.all isSafe
        · rw [if_neg (by simp), quoteO_hex (by rw [bytes_len]; exact hl) hs]; rfl
        · rw [if_pos rfl, quoteO_safe (by rw [bytes_len]; exact hl) hs]; rfl
      · rw [if_neg k2, if_neg k2]; rfl
  · right
    refine ⟨h, ?_⟩
    have hc : ¬ checkP ⟨nm.data.toList, k, n, t.data.toList⟩ = 0 := fun hc => by
      have : ckI nm k n t = 0 := hc
      rw [this] at h; cases h
    unfold fmtP
    rw [if_neg hc]

/-- the reference's last test: either the text comes back, or it is refused -/
theorem last_test {s : ByteArray} {nm v : List UInt8} (h : cutE s.data.toList = some (nm, v)) (NM T : ByteArray) (k n : Int) (hv : valP nm v = ⟨NM.data.toList, k, n, T.data.toList⟩) :
    (ckI NM k n T = 0 ∧ fS NM k n T = s ∧ parV s = .agg #[.string NM, .int .i64 k, .int .i64 n, .string T] ∧ parE s = 0) ∨
    (parV s = zV ∧ parE s = 21 ∧ ((ckI NM k n T == 0) = false ∨ (ckI NM k n T = 0 ∧ ((fS NM k n T).toList == s.toList) = false))) := by
  have ha := again h
  rw [hv] at ha
  rcases fS_P NM k n T with ⟨h1, h2⟩ | ⟨h1, h2⟩
  · rw [h2] at ha
    by_cases he : fS NM k n T = s
    · rw [if_pos (by rw [he])] at ha
      obtain ⟨a, b⟩ := par_some ha
      exact .inl ⟨h1, he, a, b⟩
    · have hne : ¬ (some (fS NM k n T).data.toList = some s.data.toList) := fun hc => he (ByteArray.ext (Array.toList_inj.1 (Option.some.inj hc)))
      rw [if_neg hne] at ha
      obtain ⟨a, b⟩ := par_none ha
      exact .inr ⟨a, b, .inr ⟨h1, by rw [beq_str]; simp [he]⟩⟩
  · rw [h2, if_neg (by simp)] at ha
    obtain ⟨a, b⟩ := par_none ha
    exact .inr ⟨a, b, .inl h1⟩

/-- the first block of the call, whatever is laid behind it -/
theorem box_keeps (w w' : World) (h : Below (w.heap.size + 1) (w.alloc (.cells #[.string ⟨#[]⟩, .int .i64 0, .int .i64 0, .string ⟨#[]⟩] 39)) w') : Box w' w.heap.size (.string ⟨#[]⟩) (.int .i64 0) (.int .i64 0) (.string ⟨#[]⟩) :=
  box_of ((h.block w.heap.size (by omega)).trans (box_new w _ _ _ _ _))
theorem below_keeps {w w' : World} (h : Below (w.heap.size + 1) (w.alloc (.cells #[.string ⟨#[]⟩, .int .i64 0, .int .i64 0, .string ⟨#[]⟩] 39)) w') : Below w.heap.size w w' := ((Below.refl _ _).alloc (Nat.le_refl _) _).trans (h.mono (by omega))

theorem Box.two {w : World} {B : Nat} {a b c d : Value} (h : Box w B a b c d) (y u : Value) : Box ((w.setCell ⟨B, 1, none⟩ y).setCell ⟨B, 3, none⟩ u) B a y c u := by
  obtain ⟨c0, c1, c2, c3, f0, f1, f2, f3⟩ := h
  constructor <;> simp [go_sem, c0, c1, c2, c3, f0, f1, f2, f3]

theorem rnB_num {v : ByteArray} (h : rnB v = true) : numI v.data.toList = some (readI v.data.toList) := by
  unfold numI; rw [if_pos (of_decide_eq_true h)]
theorem rnB_not {v : ByteArray} (h : rnB v = false) : numI v.data.toList = none := by
  unfold numI; rw [if_neg (of_decide_eq_false h)]

set_option maxRecDepth 100000 in
set_option maxHeartbeats 4000000 in
theorem rParse_any (s : ByteArray) (w : World) (hs : s.size ≤ 100000) :
    Calls Tryz.prog 32 #[.string s] w fun e w' => e = .returned (.tuple #[parV s, .int .i64 (parE s)]) ∧ Below w.heap.size w w' := by
  go_enter Tryz.func32, Tryz.ntmps32
  go_wp2_with fail
  go_loop [4] (fun i => ∃ k : Nat, k ≤ s.size ∧ i = .int .i64 (k : Int) ∧ Hid (SafeTo NoEq s k)) (fun i => s.size - (intOf i).toNat)
  case atStart => exact ⟨0, Nat.zero_le _, rfl, Lib.hid (SafeTo.zero _ _)⟩
  case round =>
    obtain ⟨k, hk, rfl, HS⟩ := hrel
    by_cases hlt : k < s.size
    · by_cases he : s[k] = 61
      · have hc := cutE_at HS.out hlt he
        have he' : ((s[k].toNat : Int) == 61) = true := by rw [he]; decide
        have hne' : ((s[k].toNat : Int) != 61) = false := by rw [he]; decide
        have w1 : IntKind.i64.wrap ((k : Int) + 1) = (k : Int) + 1 := IntWalk.i64_in _ (by omega)
        have heq : ((k : Int) == (s.size : Int)) = false := beq_eq_false_iff_ne.2 (by omega)
        have x1 : s.extract 0 k = ⟨(s.data.toList.take k).toArray⟩ := by rw [ext_bytes]; simp
        have x2 : s.extract (k + 1) s.size = ⟨(s.data.toList.drop (k + 1)).toArray⟩ := by
          rw [ext_bytes, List.take_of_length_le (by rw [List.length_drop, bytes_len]; omega)]
        clear he
        have hlN := take_len s k hk
        have hzN : (⟨(s.data.toList.take k).toArray⟩ : ByteArray).size ≤ maxLen := by unfold maxLen; show (s.data.toList.take k).toArray.size ≤ _; rw [List.size_toArray]; omega
        have hzV : (⟨(s.data.toList.drop (k + 1)).toArray⟩ : ByteArray).size ≤ 100000 := by show (s.data.toList.drop (k + 1)).toArray.size ≤ _; rw [List.size_toArray, List.length_drop, bytes_len]; omega
        have CR := fun W => rRead_any ⟨(s.data.toList.drop (k + 1)).toArray⟩ W (by unfold maxLen; omega)
        have CU := fun W => rUnquote_any ⟨(s.data.toList.drop (k + 1)).toArray⟩ W hzV
        have hNM : (⟨(s.data.toList.take k).toArray⟩ : ByteArray).data.toList = s.data.toList.take k := rfl
        cases hr : rnB ⟨(s.data.toList.drop (k + 1)).toArray⟩
        · have hnn := rnB_not hr
          rw [hr] at CR
          have CR := Lib.hid CR
          have hni : isInt 0 := ⟨by omega, by omega⟩
          cases hu : unqO (⟨(s.data.toList.drop (k + 1)).toArray⟩ : ByteArray).data.toList with
          | some tt =>
            have hzT : (⟨tt.toArray⟩ : ByteArray).size ≤ maxLen := by
              have := (quoteO_cases ((unqO_iff _ _).1 hu)).1
              unfold maxLen; show tt.toArray.size ≤ _; rw [List.size_toArray]; omega
            have HLT := last_test hc ⟨(s.data.toList.take k).toArray⟩ ⟨tt.toArray⟩ 2 0 (by
              unfold valP
              rw [show s.data.toList.drop (k + 1) = (⟨(s.data.toList.drop (k + 1)).toArray⟩ : ByteArray).data.toList from rfl, hnn]
              dsimp only
              rw [hu])
            obtain ⟨u1, u2⟩ := uq_some hu
            rw [u1, u2] at CU
            have CU := Lib.hid CU
            clear hu u1 u2 hnn hr hc hNM hlN
            generalize (⟨(s.data.toList.take k).toArray⟩ : ByteArray) = NM at *
            generalize (⟨(s.data.toList.drop (k + 1)).toArray⟩ : ByteArray) = V at *
            generalize (⟨tt.toArray⟩ : ByteArray) = T at *
            have CF := fun W => rFormat_any NM T 2 0 W hzN hzT hni
            rcases HLT with ⟨g1, g2, g3, g4⟩ | ⟨g3, g4, g5⟩
            · rw [g1, g2] at CF
              have CF := Lib.hid CF
              have H1 := Lib.hid g3
              have H2 := Lib.hid g4
              clear g1 g2 g3 g4
              go_wp2_with fail
              refine (CR.out _).mono ?_
              rintro e w' ⟨rfl, rfl⟩
              go_wp2_with fail
              refine (CU.out _).mono ?_
              rintro e w1 ⟨rfl, hb1⟩
              have hB1 : Below (w.heap.size + 1) (w.alloc (.cells #[.string ⟨#[]⟩, .int .i64 0, .int .i64 0, .string ⟨#[]⟩] 39)) w1 := ((Below.refl _ _).alloc (by simp) _).trans (hb1.mono (by simp))
              have px := box_of (w := w1) (B := w.heap.size + 1) (T := 39) (a := .string NM) (b := .int .i64 3) (c := .int .i64 0) (d := .string ⟨#[]⟩) ((hb1.block (w.heap.size + 1) (by simp)).trans (by simpa using box_new (w.alloc (.cells #[.string ⟨#[]⟩, .int .i64 0, .int .i64 0, .string ⟨#[]⟩] 39)) 39 (.string NM) (.int .i64 3) (.int .i64 0) (.string ⟨#[]⟩)))
              have hz1 : w.heap.size + 1 < w1.heap.size := cell_lt px.c0
              have py := px.two (.int .i64 2) (.string T)
              have hB1' := (hB1.setCell (p := ⟨w.heap.size + 1, 1, none⟩) (Nat.le_refl _) (.int .i64 2)).setCell (p := ⟨w.heap.size + 1, 3, none⟩) (Nat.le_refl _) (.string T)
              have hz2 : w.heap.size + 1 < ((w1.setCell ⟨w.heap.size + 1, 1, none⟩ (.int .i64 2)).setCell ⟨w.heap.size + 1, 3, none⟩ (.string T)).heap.size := cell_lt py.c0
              obtain ⟨e0, e1, e2, e3, _, _, _, _⟩ := py
              obtain ⟨d0, d1, d2, d3, k0, k1, k2, k3⟩ := px
              clear hb1
              go_wp2_with fail
              refine (CF.out _).mono ?_
              rintro e w2 ⟨rfl, hb2⟩
              have hB2 : Below (w.heap.size + 1) (w.alloc (.cells #[.string ⟨#[]⟩, .int .i64 0, .int .i64 0, .string ⟨#[]⟩] 39)) w2 := hB1'.trans (hb2.mono (by omega))
              have y0 := (hb2.cell (p := ⟨w.heap.size + 1, 0, none⟩) hz2).trans e0
              have y1 := (hb2.cell (p := ⟨w.heap.size + 1, 1, none⟩) hz2).trans e1
              have y2 := (hb2.cell (p := ⟨w.heap.size + 1, 2, none⟩) hz2).trans e2
              have y3 := (hb2.cell (p := ⟨w.heap.size + 1, 3, none⟩) hz2).trans e3
              clear hb2
              have bx := box_keeps w w2 hB2
              have hb3 := Box.belowSet (below_keeps hB2) (Nat.le_refl _) (.string NM) (.int .i64 2) (.int .i64 0) (.string T)
              obtain ⟨r0, r1, r2, r3, _, _, _, _⟩ := bx.set (.string NM) (.int .i64 2) (.int .i64 0) (.string T)
              obtain ⟨c0, c1, c2, c3, f0, f1, f2, f3⟩ := bx
              clear hB2
              go_wp2_with fail
              exact bodyPost_ret (v := .tuple #[.agg #[.string NM, .int .i64 2, .int .i64 0, .string T], .int .i64 0]) (by simp [results, Tryz.f32, go_sem, r0, r1, r2, r3]) rfl ⟨ret_pe H1.out.symm H2.out.symm, hb3⟩
            · have H1 := Lib.hid g3
              have H2 := Lib.hid g4
              clear g3 g4
              rcases g5 with g5 | ⟨g5, g6⟩
              · generalize ckI NM 2 0 T = er at *
                have g7 : (er != 0) = true := by simp [bne, g5]
                generalize fS NM 2 0 T = S at *
                have CF := Lib.hid CF
                go_wp2_with fail
                refine (CR.out _).mono ?_
                rintro e w' ⟨rfl, rfl⟩
                go_wp2_with fail
                refine (CU.out _).mono ?_
                rintro e w1 ⟨rfl, hb1⟩
                have hB1 : Below (w.heap.size + 1) (w.alloc (.cells #[.string ⟨#[]⟩, .int .i64 0, .int .i64 0, .string ⟨#[]⟩] 39)) w1 := ((Below.refl _ _).alloc (by simp) _).trans (hb1.mono (by simp))
                have px := box_of (w := w1) (B := w.heap.size + 1) (T := 39) (a := .string NM) (b := .int .i64 3) (c := .int .i64 0) (d := .string ⟨#[]⟩) ((hb1.block (w.heap.size + 1) (by simp)).trans (by simpa using box_new (w.alloc (.cells #[.string ⟨#[]⟩, .int .i64 0, .int .i64 0, .string ⟨#[]⟩] 39)) 39 (.string NM) (.int .i64 3) (.int .i64 0) (.string ⟨#[]⟩)))
                have hz1 : w.heap.size + 1 < w1.heap.size := cell_lt px.c0
                have py := px.two (.int .i64 2) (.string T)
                have hB1' := (hB1.setCell (p := ⟨w.heap.size + 1, 1, none⟩) (Nat.le_refl _) (.int .i64 2)).setCell (p := ⟨w.heap.size + 1, 3, none⟩) (Nat.le_refl _) (.string T)
                have hz2 : w.heap.size + 1 < ((w1.setCell ⟨w.heap.size + 1, 1, none⟩ (.int .i64 2)).setCell ⟨w.heap.size + 1, 3, none⟩ (.string T)).heap.size := cell_lt py.c0
                obtain ⟨e0, e1, e2, e3, _, _, _, _⟩ := py
                obtain ⟨d0, d1, d2, d3, k0, k1, k2, k3⟩ := px
                clear hb1
                go_wp2_with fail
                refine (CF.out _).mono ?_
                rintro e w2 ⟨rfl, hb2⟩
                have hB2 : Below (w.heap.size + 1) (w.alloc (.cells #[.string ⟨#[]⟩, .int .i64 0, .int .i64 0, .string ⟨#[]⟩] 39)) w2 := hB1'.trans (hb2.mono (by omega))
                clear hb2
                have bx := box_keeps w w2 hB2
                have hb3 := Box.belowSet (below_keeps hB2) (Nat.le_refl _) (.string ⟨#[]⟩) (.int .i64 0) (.int .i64 0) (.string ⟨#[]⟩)
                obtain ⟨r0, r1, r2, r3, _, _, _, _⟩ := bx.set (.string ⟨#[]⟩) (.int .i64 0) (.int .i64 0) (.string ⟨#[]⟩)
                obtain ⟨c0, c1, c2, c3, f0, f1, f2, f3⟩ := bx
                clear hB2
                go_wp2_with fail
                exact bodyPost_ret (v := .tuple #[zV, .int .i64 21]) (by simp [results, Tryz.f32, go_sem, zV, r0, r1, r2, r3]) rfl ⟨ret_pe H1.out.symm H2.out.symm, hb3⟩
              · rw [g5] at CF
                generalize fS NM 2 0 T = S at *
                have CF := Lib.hid CF
                clear g5
                go_wp2_with fail
                refine (CR.out _).mono ?_
                rintro e w' ⟨rfl, rfl⟩
                go_wp2_with fail
                refine (CU.out _).mono ?_
                rintro e w1 ⟨rfl, hb1⟩
                have hB1 : Below (w.heap.size + 1) (w.alloc (.cells #[.string ⟨#[]⟩, .int .i64 0, .int .i64 0, .string ⟨#[]⟩] 39)) w1 := ((Below.refl _ _).alloc (by simp) _).trans (hb1.mono (by simp))
                have px := box_of (w := w1) (B := w.heap.size + 1) (T := 39) (a := .string NM) (b := .int .i64 3) (c := .int .i64 0) (d := .string ⟨#[]⟩) ((hb1.block (w.heap.size + 1) (by simp)).trans (by simpa using box_new (w.alloc (.cells #[.string ⟨#[]⟩, .int .i64 0, .int .i64 0, .string ⟨#[]⟩] 39)) 39 (.string NM) (.int .i64 3) (.int .i64 0) (.string ⟨#[]⟩)))
                have hz1 : w.heap.size + 1 < w1.heap.size := cell_lt px.c0
                have py := px.two (.int .i64 2) (.string T)
                have hB1' := (hB1.setCell (p := ⟨w.heap.size + 1, 1, none⟩) (Nat.le_refl _) (.int .i64 2)).setCell (p := ⟨w.heap.size + 1, 3, none⟩) (Nat.le_refl _) (.string T)
                have hz2 : w.heap.size + 1 < ((w1.setCell ⟨w.heap.size + 1, 1, none⟩ (.int .i64 2)).setCell ⟨w.heap.size + 1, 3, none⟩ (.string T)).heap.size := cell_lt py.c0
                obtain ⟨e0, e1, e2, e3, _, _, _, _⟩ := py
                obtain ⟨d0, d1, d2, d3, k0, k1, k2, k3⟩ := px
                clear hb1
                go_wp2_with fail
                refine (CF.out _).mono ?_
                rintro e w2 ⟨rfl, hb2⟩
                have hB2 : Below (w.heap.size + 1) (w.alloc (.cells #[.string ⟨#[]⟩, .int .i64 0, .int .i64 0, .string ⟨#[]⟩] 39)) w2 := hB1'.trans (hb2.mono (by omega))
                clear hb2
                have bx := box_keeps w w2 hB2
                have hb3 := Box.belowSet (below_keeps hB2) (Nat.le_refl _) (.string ⟨#[]⟩) (.int .i64 0) (.int .i64 0) (.string ⟨#[]⟩)
                obtain ⟨r0, r1, r2, r3, _, _, _, _⟩ := bx.set (.string ⟨#[]⟩) (.int .i64 0) (.int .i64 0) (.string ⟨#[]⟩)
                obtain ⟨c0, c1, c2, c3, f0, f1, f2, f3⟩ := bx
                clear hB2
                go_wp2_with fail
                exact bodyPost_ret (v := .tuple #[zV, .int .i64 21]) (by simp [results, Tryz.f32, go_sem, zV, r0, r1, r2, r3]) rfl ⟨ret_pe H1.out.symm H2.out.symm, hb3⟩
          | none =>
            have HLT := last_test hc ⟨(s.data.toList.take k).toArray⟩ ⟨#[]⟩ 3 0 (by
              unfold valP
              rw [show s.data.toList.drop (k + 1) = (⟨(s.data.toList.drop (k + 1)).toArray⟩ : ByteArray).data.toList from rfl, hnn]
              dsimp only
              rw [hu])
            obtain ⟨u1, u2⟩ := uq_none hu
            rw [u1, u2] at CU
            have CU := Lib.hid CU
            clear hu u1 u2 hnn hr hc hNM hlN
            generalize (⟨(s.data.toList.take k).toArray⟩ : ByteArray) = NM at *
            generalize (⟨(s.data.toList.drop (k + 1)).toArray⟩ : ByteArray) = V at *
            have CF := fun W => rFormat_any NM ⟨#[]⟩ 3 0 W hzN (by unfold maxLen; decide) hni
            rcases HLT with ⟨g1, g2, g3, g4⟩ | ⟨g3, g4, g5⟩
            · rw [g1, g2] at CF
              have CF := Lib.hid CF
              have H1 := Lib.hid g3
              have H2 := Lib.hid g4
              clear g1 g2 g3 g4
              go_wp2_with fail
              refine (CR.out _).mono ?_
              rintro e w' ⟨rfl, rfl⟩
              go_wp2_with fail
              refine (CU.out _).mono ?_
              rintro e w1 ⟨rfl, hb1⟩
              have hB1 : Below (w.heap.size + 1) (w.alloc (.cells #[.string ⟨#[]⟩, .int .i64 0, .int .i64 0, .string ⟨#[]⟩] 39)) w1 := ((Below.refl _ _).alloc (by simp) _).trans (hb1.mono (by simp))
              have px := box_of (w := w1) (B := w.heap.size + 1) (T := 39) (a := .string NM) (b := .int .i64 3) (c := .int .i64 0) (d := .string ⟨#[]⟩) ((hb1.block (w.heap.size + 1) (by simp)).trans (by simpa using box_new (w.alloc (.cells #[.string ⟨#[]⟩, .int .i64 0, .int .i64 0, .string ⟨#[]⟩] 39)) 39 (.string NM) (.int .i64 3) (.int .i64 0) (.string ⟨#[]⟩)))
              have hz1 : w.heap.size + 1 < w1.heap.size := cell_lt px.c0
              obtain ⟨e0, e1, e2, e3, _, _, _, _⟩ := px
              clear hb1
              go_wp2_with fail
              refine (CF.out _).mono ?_
              rintro e w2 ⟨rfl, hb2⟩
              have hB2 : Below (w.heap.size + 1) (w.alloc (.cells #[.string ⟨#[]⟩, .int .i64 0, .int .i64 0, .string ⟨#[]⟩] 39)) w2 := hB1.trans (hb2.mono (by omega))
              have y0 := (hb2.cell (p := ⟨w.heap.size + 1, 0, none⟩) hz1).trans e0
              have y1 := (hb2.cell (p := ⟨w.heap.size + 1, 1, none⟩) hz1).trans e1
              have y2 := (hb2.cell (p := ⟨w.heap.size + 1, 2, none⟩) hz1).trans e2
              have y3 := (hb2.cell (p := ⟨w.heap.size + 1, 3, none⟩) hz1).trans e3
              clear hb2
              have bx := box_keeps w w2 hB2
              have hb3 := Box.belowSet (below_keeps hB2) (Nat.le_refl _) (.string NM) (.int .i64 3) (.int .i64 0) (.string ⟨#[]⟩)
              obtain ⟨r0, r1, r2, r3, _, _, _, _⟩ := bx.set (.string NM) (.int .i64 3) (.int .i64 0) (.string ⟨#[]⟩)
              obtain ⟨c0, c1, c2, c3, f0, f1, f2, f3⟩ := bx
              clear hB2
              go_wp2_with fail
              exact bodyPost_ret (v := .tuple #[.agg #[.string NM, .int .i64 3, .int .i64 0, .string ⟨#[]⟩], .int .i64 0]) (by simp [results, Tryz.f32, go_sem, r0, r1, r2, r3]) rfl ⟨ret_pe H1.out.symm H2.out.symm, hb3⟩
            · have H1 := Lib.hid g3
              have H2 := Lib.hid g4
              clear g3 g4
              rcases g5 with g5 | ⟨g5, g6⟩
              · generalize ckI NM 3 0 ⟨#[]⟩ = er at *
                have g7 : (er != 0) = true := by simp [bne, g5]
                generalize fS NM 3 0 ⟨#[]⟩ = S at *
                have CF := Lib.hid CF
                go_wp2_with fail
                refine (CR.out _).mono ?_
                rintro e w' ⟨rfl, rfl⟩
                go_wp2_with fail
                refine (CU.out _).mono ?_
                rintro e w1 ⟨rfl, hb1⟩
                have hB1 : Below (w.heap.size + 1) (w.alloc (.cells #[.string ⟨#[]⟩, .int .i64 0, .int .i64 0, .string ⟨#[]⟩] 39)) w1 := ((Below.refl _ _).alloc (by simp) _).trans (hb1.mono (by simp))
                have px := box_of (w := w1) (B := w.heap.size + 1) (T := 39) (a := .string NM) (b := .int .i64 3) (c := .int .i64 0) (d := .string ⟨#[]⟩) ((hb1.block (w.heap.size + 1) (by simp)).trans (by simpa using box_new (w.alloc (.cells #[.string ⟨#[]⟩, .int .i64 0, .int .i64 0, .string ⟨#[]⟩] 39)) 39 (.string NM) (.int .i64 3) (.int .i64 0) (.string ⟨#[]⟩)))
                have hz1 : w.heap.size + 1 < w1.heap.size := cell_lt px.c0
                obtain ⟨e0, e1, e2, e3, _, _, _, _⟩ := px
                clear hb1
                go_wp2_with fail
                refine (CF.out _).mono ?_
                rintro e w2 ⟨rfl, hb2⟩
                have hB2 : Below (w.heap.size + 1) (w.alloc (.cells #[.string ⟨#[]⟩, .int .i64 0, .int .i64 0, .string ⟨#[]⟩] 39)) w2 := hB1.trans (hb2.mono (by omega))
                clear hb2
                have bx := box_keeps w w2 hB2
                have hb3 := Box.belowSet (below_keeps hB2) (Nat.le_refl _) (.string ⟨#[]⟩) (.int .i64 0) (.int .i64 0) (.string ⟨#[]⟩)
                obtain ⟨r0, r1, r2, r3, _, _, _, _⟩ := bx.set (.string ⟨#[]⟩) (.int .i64 0) (.int .i64 0) (.string ⟨#[]⟩)
                obtain ⟨c0, c1, c2, c3, f0, f1, f2, f3⟩ := bx
                clear hB2
                go_wp2_with fail
                exact bodyPost_ret (v := .tuple #[zV, .int .i64 21]) (by simp [results, Tryz.f32, go_sem, zV, r0, r1, r2, r3]) rfl ⟨ret_pe H1.out.symm H2.out.symm, hb3⟩
              · rw [g5] at CF
                generalize fS NM 3 0 ⟨#[]⟩ = S at *
                have CF := Lib.hid CF
                clear g5
                go_wp2_with fail
                refine (CR.out _).mono ?_
                rintro e w' ⟨rfl, rfl⟩
                go_wp2_with fail
                refine (CU.out _).mono ?_
                rintro e w1 ⟨rfl, hb1⟩
                have hB1 : Below (w.heap.size + 1) (w.alloc (.cells #[.string ⟨#[]⟩, .int .i64 0, .int .i64 0, .string ⟨#[]⟩] 39)) w1 := ((Below.refl _ _).alloc (by simp) _).trans (hb1.mono (by simp))
                have px := box_of (w := w1) (B := w.heap.size + 1) (T := 39) (a := .string NM) (b := .int .i64 3) (c := .int .i64 0) (d := .string ⟨#[]⟩) ((hb1.block (w.heap.size + 1) (by simp)).trans (by simpa using box_new (w.alloc (.cells #[.string ⟨#[]⟩, .int .i64 0, .int .i64 0, .string ⟨#[]⟩] 39)) 39 (.string NM) (.int .i64 3) (.int .i64 0) (.string ⟨#[]⟩)))
                have hz1 : w.heap.size + 1 < w1.heap.size := cell_lt px.c0
                obtain ⟨e0, e1, e2, e3, _, _, _, _⟩ := px
                clear hb1
                go_wp2_with fail
                refine (CF.out _).mono ?_
                rintro e w2 ⟨rfl, hb2⟩
                have hB2 : Below (w.heap.size + 1) (w.alloc (.cells #[.string ⟨#[]⟩, .int .i64 0, .int .i64 0, .string ⟨#[]⟩] 39)) w2 := hB1.trans (hb2.mono (by omega))
                clear hb2
                have bx := box_keeps w w2 hB2
                have hb3 := Box.belowSet (below_keeps hB2) (Nat.le_refl _) (.string ⟨#[]⟩) (.int .i64 0) (.int .i64 0) (.string ⟨#[]⟩)
                obtain ⟨r0, r1, r2, r3, _, _, _, _⟩ := bx.set (.string ⟨#[]⟩) (.int .i64 0) (.int .i64 0) (.string ⟨#[]⟩)
                obtain ⟨c0, c1, c2, c3, f0, f1, f2, f3⟩ := bx
                clear hB2
                go_wp2_with fail
                exact bodyPost_ret (v := .tuple #[zV, .int .i64 21]) (by simp [results, Tryz.f32, go_sem, zV, r0, r1, r2, r3]) rfl ⟨ret_pe H1.out.symm H2.out.symm, hb3⟩
        · have hnn := rnB_num hr
          have hni := readI_int (⟨(s.data.toList.drop (k + 1)).toArray⟩ : ByteArray).data.toList
          have HLT := last_test hc ⟨(s.data.toList.take k).toArray⟩ ⟨#[]⟩ 1 (readI (⟨(s.data.toList.drop (k + 1)).toArray⟩ : ByteArray).data.toList) (by
            unfold valP
            rw [show s.data.toList.drop (k + 1) = (⟨(s.data.toList.drop (k + 1)).toArray⟩ : ByteArray).data.toList from rfl, hnn])
          rw [hr] at CR
          generalize readI (⟨(s.data.toList.drop (k + 1)).toArray⟩ : ByteArray).data.toList = r at *
          have CR := Lib.hid CR
          clear hnn hr hc hNM hlN CU
          generalize (⟨(s.data.toList.take k).toArray⟩ : ByteArray) = NM at *
          generalize (⟨(s.data.toList.drop (k + 1)).toArray⟩ : ByteArray) = V at *
          have CF := fun W => rFormat_any NM ⟨#[]⟩ 1 r W hzN (by unfold maxLen; decide) hni
          rcases HLT with ⟨g1, g2, g3, g4⟩ | ⟨g3, g4, g5⟩
          · rw [g1, g2] at CF
            have CF := Lib.hid CF
            have H1 := Lib.hid g3
            have H2 := Lib.hid g4
            clear g1 g2 g3 g4
            go_wp2_with fail
            refine (CR.out _).mono ?_
            rintro e w' ⟨rfl, rfl⟩
            go_wp2_with fail
            refine (CF.out _).mono ?_
            rintro e w2 ⟨rfl, hb2⟩
            have hB2 : Below (w.heap.size + 1) (w.alloc (.cells #[.string ⟨#[]⟩, .int .i64 0, .int .i64 0, .string ⟨#[]⟩] 39)) w2 := (((Below.refl _ _).alloc (by simp) _).trans (hb2.mono (by simp)))
            obtain ⟨d0, d1, d2, d3, _, _, _, _⟩ := box_of (w := w2) (B := w.heap.size + 1) (T := 39) (a := .string NM) (b := .int .i64 1) (c := .int .i64 r) (d := .string ⟨#[]⟩) ((hb2.block (w.heap.size + 1) (by simp)).trans (by simpa using box_new (w.alloc (.cells #[.string ⟨#[]⟩, .int .i64 0, .int .i64 0, .string ⟨#[]⟩] 39)) 39 (.string NM) (.int .i64 1) (.int .i64 r) (.string ⟨#[]⟩)))
            clear hb2
            have bx := box_keeps w w2 hB2
            have hb3 := Box.belowSet (below_keeps hB2) (Nat.le_refl _) (.string NM) (.int .i64 1) (.int .i64 r) (.string ⟨#[]⟩)
            obtain ⟨r0, r1, r2, r3, _, _, _, _⟩ := bx.set (.string NM) (.int .i64 1) (.int .i64 r) (.string ⟨#[]⟩)
            obtain ⟨c0, c1, c2, c3, f0, f1, f2, f3⟩ := bx
            clear hB2
            go_wp2_with fail
            exact bodyPost_ret (v := .tuple #[.agg #[.string NM, .int .i64 1, .int .i64 r, .string ⟨#[]⟩], .int .i64 0]) (by simp [results, Tryz.f32, go_sem, r0, r1, r2, r3]) rfl ⟨ret_pe H1.out.symm H2.out.symm, hb3⟩
          · have H1 := Lib.hid g3
            have H2 := Lib.hid g4
            clear g3 g4
            rcases g5 with g5 | ⟨g5, g6⟩
            · generalize ckI NM 1 r ⟨#[]⟩ = er at *
              have g7 : (er != 0) = true := by simp [bne, g5]
              generalize fS NM 1 r ⟨#[]⟩ = S at *
              have CF := Lib.hid CF
              go_wp2_with fail
              refine (CR.out _).mono ?_
              rintro e w' ⟨rfl, rfl⟩
              go_wp2_with fail
              refine (CF.out _).mono ?_
              rintro e w2 ⟨rfl, hb2⟩
              have hB2 : Below (w.heap.size + 1) (w.alloc (.cells #[.string ⟨#[]⟩, .int .i64 0, .int .i64 0, .string ⟨#[]⟩] 39)) w2 := (((Below.refl _ _).alloc (by simp) _).trans (hb2.mono (by simp)))
              clear hb2
              have bx := box_keeps w w2 hB2
              have hb3 := Box.belowSet (below_keeps hB2) (Nat.le_refl _) (.string ⟨#[]⟩) (.int .i64 0) (.int .i64 0) (.string ⟨#[]⟩)
              obtain ⟨r0, r1, r2, r3, _, _, _, _⟩ := bx.set (.string ⟨#[]⟩) (.int .i64 0) (.int .i64 0) (.string ⟨#[]⟩)
              obtain ⟨c0, c1, c2, c3, f0, f1, f2, f3⟩ := bx
              clear hB2
              go_wp2_with fail
              exact bodyPost_ret (v := .tuple #[zV, .int .i64 21]) (by simp [results, Tryz.f32, go_sem, zV, r0, r1, r2, r3]) rfl ⟨ret_pe H1.out.symm H2.out.symm, hb3⟩
            · rw [g5] at CF
              generalize fS NM 1 r ⟨#[]⟩ = S at *
              have CF := Lib.hid CF
              clear g5
              go_wp2_with fail
              refine (CR.out _).mono ?_
              rintro e w' ⟨rfl, rfl⟩
              go_wp2_with fail
              refine (CF.out _).mono ?_
              rintro e w2 ⟨rfl, hb2⟩
              have hB2 : Below (w.heap.size + 1) (w.alloc (.cells #[.string ⟨#[]⟩, .int .i64 0, .int .i64 0, .string ⟨#[]⟩] 39)) w2 := (((Below.refl _ _).alloc (by simp) _).trans (hb2.mono (by simp)))
              clear hb2
              have bx := box_keeps w w2 hB2
              have hb3 := Box.belowSet (below_keeps hB2) (Nat.le_refl _) (.string ⟨#[]⟩) (.int .i64 0) (.int .i64 0) (.string ⟨#[]⟩)
              obtain ⟨r0, r1, r2, r3, _, _, _, _⟩ := bx.set (.string ⟨#[]⟩) (.int .i64 0) (.int .i64 0) (.string ⟨#[]⟩)
              obtain ⟨c0, c1, c2, c3, f0, f1, f2, f3⟩ := bx
              clear hB2
              go_wp2_with fail
              exact bodyPost_ret (v := .tuple #[zV, .int .i64 21]) (by simp [results, Tryz.f32, go_sem, zV, r0, r1, r2, r3]) rfl ⟨ret_pe H1.out.symm H2.out.symm, hb3⟩
      · have HN := Lib.hid (HS.out.succ hlt (show NoEq s[k] = true from decide_eq_true he))
        have he' : ((s[k].toNat : Int) == 61) = false := beq_eq_false_iff_ne.2 (fun hc => he (UInt8.toNat_inj.1 (by have : (61 : UInt8).toNat = 61 := rfl; omega)))
        clear he
        go_wp2
        exact ⟨⟨k + 1, by omega, by go_num, HN⟩, by simp [intOf]; omega⟩
    · have hkn : k = s.size := by omega
      obtain ⟨p1, p2⟩ := par_none (par_cut (cutE_no (by rw [← hkn]; exact HS.out)))
      have H1 := Lib.hid p1
      have H2 := Lib.hid p2
      have heq : ((k : Int) == (s.size : Int)) = true := beq_iff_eq.2 (by omega)
      clear hkn p1 p2
      go_wp2_with fail
      exact bodyPost_ret (v := .tuple #[zV, .int .i64 21]) (by simp [results, Tryz.f32, go_sem, zV]) rfl ⟨ret_pe H1.out.symm H2.out.symm, (Below.refl _ _).alloc (Nat.le_refl _) _⟩

/-- sound pairs with one text are one pair -/
theorem fS_inj {n1 n2 t1 t2 : ByteArray} {k1 k2 m1 m2 : Int} (h1 : ckI n1 k1 m1 t1 = 0) (h2 : ckI n2 k2 m2 t2 = 0) (i1 : isInt m1) (i2 : isInt m2) (h : fS n1 k1 m1 t1 = fS n2 k2 m2 t2) : n1 = n2 ∧ k1 = k2 ∧ m1 = m2 ∧ t1 = t2 := by
  rcases fS_P n1 k1 m1 t1 with ⟨_, a1⟩ | ⟨a1, _⟩
  · rcases fS_P n2 k2 m2 t2 with ⟨_, a2⟩ | ⟨a2, _⟩
    · rw [← h] at a2
      have e1 := parP_fmtP a1 i1
      have e2 := parP_fmtP a2 i2
      rw [e1] at e2
      injection e2 with e2
      injection e2 with e3 e4 e5 e6
      exact ⟨ByteArray.ext (Array.toList_inj.1 e3), e4, e5, ByteArray.ext (Array.toList_inj.1 e6)⟩
    · rw [h2] at a2; cases a2
  · rw [h1] at a1; cases a1

theorem list_eq {a b : ByteArray} (h : a.toList = b.toList) : a = b := by
  have := beq_str a b
  rw [h] at this
  simpa using this

/-- two pairs that are not the same -/
def Differ (n1 n2 t1 t2 : ByteArray) (k1 k2 m1 m2 : Int) : Prop := ¬ (n1 = n2 ∧ k1 = k2 ∧ m1 = m2 ∧ t1 = t2)


/-- the text of a sound pair is read back, and its bytes are printable -/
theorem fS_back {nm t : ByteArray} {k n : Int} (h : ckI nm k n t = 0) (hn : isInt n) :
    parV (fS nm k n t) = .agg #[.string nm, .int .i64 k, .int .i64 n, .string t] ∧ parE (fS nm k n t) = 0 ∧ (fS nm k n t).size ≤ 100000 ∧ ∀ (j : Nat) (hj : j < (fS nm k n t).size), (32 : Int) < ((fS nm k n t)[j].toNat : Int) ∧ ((fS nm k n t)[j].toNat : Int) ≤ 126 := by
  rcases fS_P nm k n t with ⟨_, a1⟩ | ⟨a1, _⟩
  · have e1 := parP_fmtP a1 hn
    obtain ⟨p1, p2⟩ := par_some e1
    obtain ⟨b1, b2⟩ := fmtP_bytes a1 hn
    rw [bytes_len] at b1
    refine ⟨p1, p2, by omega, fun j hj => ?_⟩
    have hm : (fS nm k n t)[j] ∈ (fS nm k n t).data.toList := by
      have : (fS nm k n t).data.toList[j]'(by rw [bytes_len]; exact hj) = (fS nm k n t)[j] := rfl
      rw [← this]; exact List.getElem_mem _
    have := b2 _ hm
    omega
  · rw [h] at a1; cases a1
end Go.Proofs.YtdndngabddnpmaaGreatDoor.vl
