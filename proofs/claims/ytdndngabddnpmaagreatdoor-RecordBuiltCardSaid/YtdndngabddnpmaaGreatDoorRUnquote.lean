/-
  The reference's Unquote reads the same texts.
-/
import Derived.Test.YtdndngabddnpmaaGreatDoorUnquote
namespace Go.Proofs.YtdndngabddnpmaaGreatDoor.vl
open Go.RowKit Go.Proofs.YtdndngabddnpmaaGreatDoor.cm

/-- one byte as a string -/
theorem byte_text (w : World) (v : UInt8) : (convert 36 9 (.slice (some ⟨w.heap.size, 0, none⟩) 1 1)).run Tryz.prog (w.alloc (.cells #[.int .u8 (v.toNat : Int)] 5)) = .ok (.string ⟨#[v]⟩) (w.alloc (.cells #[.int .u8 (v.toNat : Int)] 5)) := by
  have := run_convert_bytes_back (P := Tryz.prog) (w.alloc (.cells #[.int .u8 (v.toNat : Int)] 5)) 36 9 5 ⟨w.heap.size, 0, none⟩ 1 [v] Tryz.underlying36 Tryz.underlying5 Tryz.underlying9 (fun j hj => by
    match j, hj with
    | 0, _ => simp [Addr.add])
  exact this

theorem ref_byte (p q : Nat) (hp : p < 16) (hq : q < 16) : (16 : Int) * (p : Int) + (q : Int) = (((UInt8.ofNat (16 * p + q)).toNat : Nat) : Int) := by
  rw [UInt8.toNat_ofNat']; omega

/-- what the reference answers for a guessed string -/
theorem qS_is (s t : ByteArray) (h : unqO s.data.toList = some t.data.toList) : qS t = s ∧ qE t = 0 ∧ uqS s = t ∧ uqE s = 0 := by
  have hq := (unqO_iff _ _).1 h
  obtain ⟨h1, h2⟩ := quoteO_cases hq
  rw [bytes_len] at h1
  obtain ⟨a, b⟩ := uq_some h
  refine ⟨?_, by unfold qE; rw [if_neg (by omega)], a, b⟩
  unfold qS quoteB safeB
  rw [if_neg (by omega)]
  rcases h2 with ⟨h2, h3⟩ | ⟨h2, h3⟩
  · rw [if_pos h2]; exact (bytes_of h3).symm
  · rw [if_neg (by rw [h2]; simp)]; exact (bytes_of h3).symm
theorem qS_not (s t : ByteArray) (h : guess s.data.toList = some t.data.toList) (hn : unqO s.data.toList = none) : qE t ≠ 0 ∨ qS t ≠ s := by
  unfold unqO at hn
  rw [h] at hn
  dsimp only at hn
  by_cases hl : 640 < t.size
  · left; unfold qE; rw [if_pos hl]; decide
  · right
    intro hc
    unfold qS at hc
    rw [if_neg hl] at hc
    have e : quoteO t.data.toList = some s.data.toList := by
      rw [← hc]
      unfold quoteB
      cases hb : safeB t
      · rw [if_neg (by simp), quoteO_hex (by rw [bytes_len]; omega) hb]
      · rw [if_pos rfl, quoteO_safe (by rw [bytes_len]; omega) hb]
    rw [if_pos e] at hn; cases hn

theorem unq_guess {s : List UInt8} {u t : List UInt8} (h : unqO s = some u) (hg : guess s = some t) : u = t := by
  have := guess_quote ((unqO_iff _ _).1 h)
  rw [hg] at this
  exact (Option.some.inj this).symm

theorem beq_str (a b : ByteArray) : (a.toList == b.toList) = decide (a = b) := by
  have : a.toList = b.toList ↔ a = b := by
    constructor
    · intro h
      rw [ByteArray.toList_eq a, ByteArray.toList_eq b] at h
      exact ByteArray.ext (Array.toList_inj.1 h)
    · intro h; rw [h]
  rw [Bool.eq_iff_iff]
  simp [this]

theorem tail_cases (s t : ByteArray) (hg : guess s.data.toList = some t.data.toList) :
    (qS t = s ∧ qE t = 0 ∧ uqS s = t ∧ uqE s = 0) ∨ (uqS s = ⟨#[]⟩ ∧ uqE s = 21 ∧ (qE t = 20 ∨ (qE t = 0 ∧ ((qS t).toList == s.toList) = false))) := by
  cases hu : unqO s.data.toList with
  | some u =>
    have e := unq_guess hu hg
    subst e
    exact .inl (qS_is s t hu)
  | none =>
    obtain ⟨a, b⟩ := uq_none hu
    refine .inr ⟨a, b, ?_⟩
    have hE : qE t = 20 ∨ qE t = 0 := by unfold qE; split; exact .inl rfl; exact .inr rfl
    rcases hE with hE | hE
    · exact .inl hE
    · rcases qS_not s t hg hu with h | h
      · exact absurd hE h
      · exact .inr ⟨hE, by rw [beq_str]; simp [h]⟩

theorem guess_marks {s : ByteArray} (h : 2 ≤ s.size) (h0 : (s[0].toNat : Int) = 34) : guess s.data.toList = some (s.extract 1 (s.size - 1)).data.toList := by
  have e0 : s[0] = 34 := UInt8.toNat_inj.1 (by have : (34 : UInt8).toNat = 34 := rfl; omega)
  unfold guess
  have hl : 2 ≤ s.data.toList.length := by rw [bytes_len]; exact h
  have hg : s.data.toList.getD 0 0 = 34 := by rw [list_cons (s := s) (by omega)]; simpa using e0
  rw [if_pos ⟨hl, hg⟩]
  congr 1
  have := Lib.extract_toList s 1 (s.size - 1)
  rw [Lib.toList_data] at this
  rw [this, List.dropLast_eq_take, List.length_drop, bytes_len, show s.size - 1 - 1 = s.size - 1 - 1 from rfl]

theorem guess_none {s : ByteArray} (h1 : ¬ (2 ≤ s.size ∧ s.data.toList.getD 0 0 = 34)) (h2 : ¬ (3 ≤ s.size ∧ s.data.toList.getD 0 0 = 120 ∧ s.size % 2 = 1 ∧ s.size ≤ 1281)) : guess s.data.toList = some (⟨#[]⟩ : ByteArray).data.toList := by
  unfold guess
  rw [bytes_len, if_neg h1, if_neg h2]
theorem guess_hex {s : ByteArray} (h0 : s.data.toList.getD 0 0 = 120) (h2 : 3 ≤ s.size ∧ s.size % 2 = 1 ∧ s.size ≤ 1281) : guess s.data.toList = unhex (s.data.toList.drop 1) := by
  unfold guess
  rw [bytes_len, if_neg (by rw [h0]; intro hc; exact absurd hc.2 (by decide)), if_pos ⟨h2.1, h0, h2.2.1, h2.2.2⟩]
theorem getD_head {s : ByteArray} (h : 0 < s.size) : s.data.toList.getD 0 0 = s[0] := by rw [list_cons h]; rfl

theorem head_is {s : ByteArray} (h : 0 < s.size) (n : UInt8) : ((s[0].toNat : Int) == (n.toNat : Int)) = decide (s.data.toList.getD 0 0 = n) := by
  rw [getD_head h, Bool.eq_iff_iff]
  simp only [beq_iff_eq, decide_eq_true_eq]
  constructor
  · intro hh; exact UInt8.toNat_inj.1 (by omega)
  · intro hh; rw [hh]

/-- the value of a digit as the reference says it -/
def hvI (c : UInt8) : Int := match hv c with | some n => (n : Int) | none => -1
theorem rvalue_any (c : UInt8) (w : World) : Calls Tryz.prog 68 #[.int .u8 (c.toNat : Int)] w fun e w' => e = .returned (.int .i64 (hvI c)) ∧ w' = w := by
  cases h : hv c with
  | some n => have e : hvI c = n := by { unfold hvI; rw [h] }
              rw [e]; exact (rvalue_some c n h w).mono fun _ _ ⟨a, b⟩ => ⟨a, b.symm⟩
  | none => have e : hvI c = -1 := by { unfold hvI; rw [h] }
            rw [e]; exact (rvalue_none c h w).mono fun _ _ ⟨a, b⟩ => ⟨a, b.symm⟩

set_option maxRecDepth 100000 in
set_option maxHeartbeats 4000000 in
theorem rUnquote_marks (s : ByteArray) (w : World) (hs : s.size ≤ 100000) (h2 : 2 ≤ s.size) (e0 : ((s[0].toNat : Int) == 34) = true) :
    Calls Tryz.prog 54 #[.string s] w fun e w' => e = .returned (.tuple #[.string (uqS s), .int .i64 (uqE s)]) ∧ Below w.heap.size w w' := by
  have HTC := tail_cases s _ (guess_marks h2 (by simpa using e0))
  have hT : (s.extract 1 (s.size - 1)).size ≤ 100000 := by rw [ByteArray.size_extract]; omega
  have hT2 : Hid (s.extract 1 (s.size - 1) = s.extract 1 (s.size - 1)) := Lib.hid rfl
  generalize hTT : s.extract 1 (s.size - 1) = T at HTC hT
  clear hT2
  have hb1 : (1 : Int) ≤ (s.size : Int) - 1 := by omega
  have hb2 : (s.size : Int) - 1 ≤ (s.size : Int) := by omega
  have hb3 : ((s.size : Int) - 1).toNat = s.size - 1 := by omega
  rcases HTC with ⟨q1, q2, q3, q4⟩ | ⟨q1, q2, q3⟩
  · have CQ := fun W => rQuote_any T W (by unfold maxLen; omega)
    rw [q1, q2] at CQ
    have CQ := Lib.hid CQ
    have H1 := Lib.hid q3
    have H2 := Lib.hid q4
    clear q1 q2 q3 q4
    go_enter Tryz.func54, Tryz.ntmps54
    go_wp2_with fail
    refine (CQ.out _).mono ?_
    rintro e w2 ⟨rfl, b2⟩
    go_wp2_with fail
    go_ret2
    exact ⟨ret_se H1.out.symm H2.out.symm, b2⟩
  · have CQ := fun W => rQuote_any T W (by unfold maxLen; omega)
    have H1 := Lib.hid q1
    have H2 := Lib.hid q2
    clear q1 q2
    rcases q3 with q3 | ⟨q3, q4⟩
    · rw [q3] at CQ
      have CQ := Lib.hid CQ
      clear q3
      go_enter Tryz.func54, Tryz.ntmps54
      go_wp2_with fail
      refine (CQ.out _).mono ?_
      rintro e w2 ⟨rfl, b2⟩
      go_wp2_with fail
      go_ret2
      exact ⟨ret_se H1.out.symm H2.out.symm, b2⟩
    · rw [q3] at CQ
      generalize qS T = Q at *
      have CQ := Lib.hid CQ
      clear q3
      go_enter Tryz.func54, Tryz.ntmps54
      go_wp2_with fail
      refine (CQ.out _).mono ?_
      rintro e w2 ⟨rfl, b2⟩
      go_wp2_with fail
      go_ret2
      exact ⟨ret_se H1.out.symm H2.out.symm, b2⟩

theorem guess_short {s : ByteArray} (h : s.size < 2) : guess s.data.toList = some (⟨#[]⟩ : ByteArray).data.toList := guess_none (by omega) (by omega)

/-- the ways on which nothing is guessed -/
def Plain (s : ByteArray) : Prop := s.size < 2 ∨ (2 ≤ s.size ∧ s.size ≤ 2 ∧ ∃ h : 0 < s.size, ((s[0].toNat : Int) == 34) = false) ∨ (3 ≤ s.size ∧ ∃ h : 0 < s.size, ((s[0].toNat : Int) == 34) = false ∧ ((s[0].toNat : Int) == 120) = false) ∨
  (3 ≤ s.size ∧ ∃ h : 0 < s.size, ((s[0].toNat : Int) == 34) = false ∧ ((s[0].toNat : Int) == 120) = true ∧ ((s.size : Int) % 2 == 1) = false) ∨
  (3 ≤ s.size ∧ ∃ h : 0 < s.size, ((s[0].toNat : Int) == 34) = false ∧ ((s[0].toNat : Int) == 120) = true ∧ ((s.size : Int) % 2 == 1) = true ∧ 1281 < s.size)

set_option maxRecDepth 100000 in
set_option maxHeartbeats 8000000 in
theorem rUnquote_plain (s : ByteArray) (w : World) (hs : s.size ≤ maxLen) (hp : Plain s) (hg : guess s.data.toList = some (⟨#[]⟩ : ByteArray).data.toList) :
    Calls Tryz.prog 54 #[.string s] w fun e w' => e = .returned (.tuple #[.string (uqS s), .int .i64 (uqE s)]) ∧ Below w.heap.size w w' := by
  unfold maxLen at hs
  have HTC := tail_cases s _ hg
  have CQ := fun W => rQuote_any (⟨#[]⟩ : ByteArray) W (by unfold maxLen; decide)
  have hcase : s.size < 2 ∨ (2 ≤ s.size ∧ s.size ≤ 2 ∧ ∃ h : 0 < s.size, ((s[0].toNat : Int) == 34) = false) ∨ (3 ≤ s.size ∧ ∃ h : 0 < s.size, ((s[0].toNat : Int) == 34) = false ∧ ((s[0].toNat : Int) == 120) = false) ∨
    (3 ≤ s.size ∧ ∃ h : 0 < s.size, ((s[0].toNat : Int) == 34) = false ∧ ((s[0].toNat : Int) == 120) = true ∧ ((s.size : Int) % 2 == 1) = false) ∨
    (3 ≤ s.size ∧ ∃ h : 0 < s.size, ((s[0].toNat : Int) == 34) = false ∧ ((s[0].toNat : Int) == 120) = true ∧ ((s.size : Int) % 2 == 1) = true ∧ 1281 < s.size) := hp
  clear hp hg
  rcases HTC with ⟨q1, q2, q3, q4⟩ | ⟨q1, q2, q3⟩
  · rw [q1, q2] at CQ
    have CQ := Lib.hid CQ
    have H1 := Lib.hid q3
    have H2 := Lib.hid q4
    clear q1 q2 q3 q4
    rcases hcase with h1 | ⟨h1, h2, h0, h3⟩ | ⟨h1, h0, h3, h4⟩ | ⟨h1, h0, h3, h4, h5⟩ | ⟨h1, h0, h3, h4, h5, h6⟩
    all_goals
      go_enter Tryz.func54, Tryz.ntmps54
      go_wp2_with fail
      refine (CQ.out _).mono ?_
      rintro e w2 ⟨rfl, b2⟩
      go_wp2_with fail
      go_ret2
      exact ⟨ret_se H1.out.symm H2.out.symm, b2⟩
  · have H1 := Lib.hid q1
    have H2 := Lib.hid q2
    clear q1 q2
    rcases q3 with q3 | ⟨q3, q4⟩
    · rw [q3] at CQ
      have CQ := Lib.hid CQ
      clear q3
      rcases hcase with h1 | ⟨h1, h2, h0, h3⟩ | ⟨h1, h0, h3, h4⟩ | ⟨h1, h0, h3, h4, h5⟩ | ⟨h1, h0, h3, h4, h5, h6⟩
      all_goals
        go_enter Tryz.func54, Tryz.ntmps54
        go_wp2_with fail
        refine (CQ.out _).mono ?_
        rintro e w2 ⟨rfl, b2⟩
        go_wp2_with fail
        go_ret2
        exact ⟨ret_se H1.out.symm H2.out.symm, b2⟩
    · rw [q3] at CQ
      generalize qS (⟨#[]⟩ : ByteArray) = Q at *
      have CQ := Lib.hid CQ
      clear q3
      rcases hcase with h1 | ⟨h1, h2, h0, h3⟩ | ⟨h1, h0, h3, h4⟩ | ⟨h1, h0, h3, h4, h5⟩ | ⟨h1, h0, h3, h4, h5, h6⟩
      all_goals
        go_enter Tryz.func54, Tryz.ntmps54
        go_wp2_with fail
        refine (CQ.out _).mono ?_
        rintro e w2 ⟨rfl, b2⟩
        go_wp2_with fail
        go_ret2
        exact ⟨ret_se H1.out.symm H2.out.symm, b2⟩

/-- what stands behind the first byte -/
def rest (s : ByteArray) : ByteArray := ⟨(s.data.toList.drop 1).toArray⟩
theorem rest_size (s : ByteArray) : (rest s).size = s.size - 1 := by show (s.data.toList.drop 1).toArray.size = _; rw [List.size_toArray, List.length_drop, bytes_len]
theorem rest_at {s : ByteArray} {j : Nat} (h : j < (rest s).size) : (rest s)[j] = s[j + 1]'(by rw [rest_size] at h; omega) := by
  have h2 : j + 1 < s.data.toList.length := by rw [rest_size] at h; rw [bytes_len]; omega
  have e1 : (rest s)[j] = (s.data.toList.drop 1)[j]'(by rw [List.length_drop]; omega) := rfl
  rw [e1, List.getElem_drop]
  have e2 : s.data.toList[j + 1]'h2 = s[j + 1]'(by rw [rest_size] at h; omega) := rfl
  rw [← e2]
  congr 1
  omega

/-- a digit that is none, of a text that begins with x -/
theorem unq_bad {s : ByteArray} (h0 : 0 < s.size) (hx : s[0] = 120) (hn : unhex (s.data.toList.drop 1) = none) : uqS s = ⟨#[]⟩ ∧ uqE s = 21 := by
  apply uq_none
  rw [list_cons h0, hx]
  exact unq_x_bad hn
theorem uhS_none {s : ByteArray} (h : uhB s = false) : unhex s.data.toList = none := by
  unfold uhB at h
  cases hu : unhex s.data.toList with
  | none => rfl
  | some t => rw [hu] at h; cases h

theorem hvI_some {c : UInt8} {p : Nat} (h : hv c = some p) : hvI c = (p : Int) := by unfold hvI; rw [h]
theorem hvI_none {c : UInt8} (h : hv c = none) : hvI c = -1 := by unfold hvI; rw [h]

end Go.Proofs.YtdndngabddnpmaaGreatDoor.vl
