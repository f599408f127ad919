/-
  strings.ContainsAny at the two bytes that no name has: it tells whether one of them is there, for any text of at most a thousand bytes.
-/
import Derived.Test.YtafnbpkdenjipaaAny
import Derived.Lib.OthersKept
namespace Go.Proofs.Ytafnbpkdenjipaa.pt
open Go.RowKit Go.Shelf
attribute [local go_sem] Oper.semAt_some

theorem bad_contains (b : UInt8) : ([0, 47] : List UInt8).contains b = badC b := by
  unfold badC
  simp
  rfl
theorem at_get {s : ByteArray} {j : Nat} {b : UInt8} (h : s.data.toList[j]? = some b) : s.get! j = b ∧ j < s.size := by
  have hj : j < s.size := by have := (List.getElem?_eq_some_iff.1 h).1; rwa [← Lib.size_eq] at this
  refine ⟨?_, hj⟩
  rw [get_bang s j hj]
  have := Lib.data_getElem? s j hj
  rw [h] at this
  exact (Option.some.inj this).symm
theorem none_span {s : ByteArray} {i n : Nat} (h : Lib.NoAny s.data.toList [0, 47] i) (hs : ∀ j, i ≤ j → j < i + n → 128 ≤ (s.get! j).toNat) : Lib.NoAny s.data.toList [0, 47] (i + n) := by
  intro j b hj hb
  by_cases hji : j < i
  · exact h j b hji hb
  · have h1 := hs j (by omega) hj
    rw [(at_get hb).1] at h1
    rw [bad_contains]
    unfold badC
    rw [Bool.or_eq_false_iff, beq_eq_false_iff_ne, beq_eq_false_iff_ne]
    exact ⟨fun e => by subst e; exact absurd h1 (by decide), fun e => by subst e; exact absurd h1 (by decide)⟩
theorem any_none {s : ByteArray} (h : Lib.NoAny s.data.toList [0, 47] s.size) : s.data.toList.any badC = false := by
  rw [List.any_eq_false]
  intro b hb
  obtain ⟨j, hj⟩ := List.getElem?_of_mem hb
  rw [← bad_contains, h j b (at_get hj).2 hj]
  decide
theorem any_hit {s : ByteArray} {i : Nat} {b : UInt8} (h : s.data.toList[i]? = some b) (hb : badC b = true) : s.data.toList.any badC = true :=
  List.any_eq_true.2 ⟨b, List.mem_of_getElem? h, hb⟩
theorem index_any : ∀ l : List UInt8, decide (0 ≤ Lib.indexAny l [0, 47]) = l.any badC
  | [] => rfl
  | b :: l => by
    have ih := index_any l
    have hg := Lib.indexAny_ge [0, 47] l
    unfold Lib.indexAny
    rw [bad_contains, List.any_cons, ← ih]
    cases badC b
    · simp only [Bool.false_or]
      by_cases he : Lib.indexAny l [0, 47] = -1
      · simp [he]
      · have hne : (Lib.indexAny l [0, 47] == -1) = false := beq_eq_false_iff_ne.2 he
        simp only [hne, Bool.false_eq_true, if_false]
        have h1 : 0 ≤ Lib.indexAny l [0, 47] + 1 := by omega
        have h2 : 0 ≤ Lib.indexAny l [0, 47] := by omega
        rw [decide_eq_true h1, decide_eq_true h2]
    · simp

/-- what IndexAny answers -/
def IdxR (s : ByteArray) (w : World) (e : Ending) (w' : World) : Prop := ∃ x : Int, e = .returned (.int .i64 x) ∧ decide (0 ≤ x) = s.data.toList.any badC ∧ Below w.heap.size w w'

theorem chars_ascii : ∀ (j : Nat) b, (⟨#[0, 47]⟩ : ByteArray).data.toList[j]? = some b → b.toNat < 128 := by
  intro j b h
  match j, h with
  | 0, h => simp at h; subst h; decide
  | 1, h => simp at h; subst h; decide

set_option maxHeartbeats 8000000 in
set_option maxRecDepth 1000000 in
theorem index_short (s : ByteArray) (w : World) (h8 : s.size ≤ 8) :
    Calls Try.prog 100 #[.string s, .string ⟨#[0, 47]⟩] w (IdxR s w) := by
  have h8z : decide ((8 : Int) < (s.size : Int)) = false := decide_eq_false (by omega)
  have CS := Try.strings_shouldUseASCIISet (s.size : Int)
  rw [h8z] at CS
  have CS := Lib.hid CS
  have FIN : Hid (∀ (x : Int) (W : World), decide (0 ≤ x) = s.data.toList.any badC → Below w.heap.size w W → IdxR s w (.returned (.int .i64 x)) W) := Lib.hid (fun x W h1 h2 => ⟨x, rfl, h1, h2⟩)
  clear h8z
  go_enter Try.func100, Try.ntmps100
  go_wp2_with fail
  refine (CS.out _).mono ?_
  rintro e w' ⟨rfl, rfl⟩
  go_wp2_with fail
  go_loopg [9, 10] s.size (fun g _ _ wx => ∃ i : Nat, s.size ≤ i + g ∧ i ≤ s.size ∧ wx.heap[w'.heap.size]? = some (.stringIter s i) ∧ Below w'.heap.size w' wx ∧ Hid (Lib.NoAny s.data.toList [0, 47] i))
  case atStart => exact ⟨0, by omega, Nat.zero_le _, World.iter_heap _ _ _, (Below.refl _ _).alloc (Nat.le_refl _) _, Lib.hid (Lib.NoAny.zero _ _)⟩
  case round =>
    obtain ⟨i, hig, his, hit, hbel, HN⟩ := hrel
    by_cases hi : i < s.size
    · cases gk with
      | zero => omega
      | succ g =>
        have hl : s.data.toList[i]? = some (s[i]'hi) := Lib.data_getElem? s i hi
        by_cases ha : (s[i]'hi).toNat < 128
        · have hnx := fun ty => Lib.run_next_ascii_at (P := Try.prog) wr w'.heap.size s i ty hit hi ha
          have CR := fun W => Try.strings_IndexRune_ascii ⟨#[0, 47]⟩ ((s[i]'hi).toNat : Int) W (by omega) (by omega)
          have hback : (((s[i]'hi).toNat : Int)).toNat.toUInt8 = s[i]'hi := by simp
          rw [hback] at CR
          have hcon := Lib.contains_iff_indexByte [0, 47] (s[i]'hi)
          rw [bad_contains] at hcon
          have hz := Lib.iterAt_heap wr w'.heap.size s i (i + 1) hit
          have hbz := Lib.below_iterAt hbel (Nat.le_refl _) s (i + 1)
          cases hb : badC (s[i]'hi)
          · have hno : Lib.NoAny s.data.toList [0, 47] (i + 1) := HN.out.succ hl (by rw [bad_contains]; exact hb)
            rw [hb] at hcon
            have hlt : decide ((0 : Int) ≤ Lib.indexByte [0, 47] (s[i]'hi)) = false := hcon.symm
            have HNO := Lib.hid hno
            have CR := Lib.hid CR
            clear hcon hno hl hb ha
            generalize Lib.indexByte [0, 47] (s[i]'hi) = y at *
            go_wp2_with fail
            refine (CR.out _).mono ?_
            rintro e w2 ⟨rfl, rfl⟩
            go_wp2_with fail
            go_roundg g
            case measure => omega
            case rel => exact ⟨i + 1, by omega, hi, hz, hbz, HNO⟩
          · rw [hb] at hcon
            have hge : decide ((0 : Int) ≤ Lib.indexByte [0, 47] (s[i]'hi)) = true := hcon.symm
            have HH := Lib.hid (any_hit hl hb)
            have CR := Lib.hid CR
            clear hcon hl hb ha
            generalize Lib.indexByte [0, 47] (s[i]'hi) = y at *
            go_wp2_with fail
            refine (CR.out _).mono ?_
            rintro e w2 ⟨rfl, rfl⟩
            go_wp2_with fail
            go_ret
            exact FIN.out _ _ (by rw [HH.out]; simp) hbz
        · have hsp := decode_span s i hi (by omega)
          have hd := decode_high s i hi (by omega)
          have hle := decode_le s i
          have hnx := fun ty => Lib.run_next_any_at (P := Try.prog) wr w'.heap.size s i ty hit hi
          have HNO := Lib.hid (none_span HN.out hsp.2)
          have CR := Lib.hid (fun W => rune_high ((Utf8.decode s i).1 : Int) W (by omega) (by omega))
          have hz := Lib.iterAt_heap wr w'.heap.size s i (i + (Utf8.decode s i).2) hit
          have hbz := Lib.below_iterAt hbel (Nat.le_refl _) s (i + (Utf8.decode s i).2)
          have h1 := hsp.1
          have h2 := hd.2
          clear hsp hd hle hl ha
          generalize (Utf8.decode s i).1 = r at *
          generalize (Utf8.decode s i).2 = n at *
          go_wp2_with fail
          refine (CR.out _).mono ?_
          rintro e w2 ⟨rfl, hb2⟩
          have hz2 := (hb2.block w'.heap.size (Array.getElem?_eq_some_iff.1 hz).1).trans hz
          have hbz2 := hbz.trans (hb2.mono hbz.size)
          go_wp2_with fail
          go_roundg g
          case measure => omega
          case rel => exact ⟨i + n, by omega, h1, hz2, hbz2, HNO⟩
    · have hnx := fun ty => Lib.run_next_end_at (P := Try.prog) wr w'.heap.size s i ty hit hi
      have HH := Lib.hid (any_none (s := s) (by have : i = s.size := by omega
                                                rw [← this]; exact HN.out))
      go_wp2_with fail
      go_ret
      exact FIN.out _ _ (by rw [HH.out]; simp) hbel

set_option maxHeartbeats 1000000 in
set_option maxRecDepth 100000 in
theorem contains_any (s : ByteArray) (w : World) (hs : s.size ≤ 1000) :
    Calls Try.prog 96 #[.string s, .string ⟨#[0, 47]⟩] w fun e w' => e = .returned (.bool (s.data.toList.any badC)) ∧ Below w.heap.size w w' := by
  have CI : Calls Try.prog 100 #[.string s, .string ⟨#[0, 47]⟩] w (IdxR s w) := by
    by_cases h8 : s.size ≤ 8
    · exact index_short s w h8
    · refine (Try.strings_IndexAny_long (fun _ => by kernel_rfl) s ⟨#[0, 47]⟩ w (Nat.le_refl 2) (by omega) (by omega) (by decide) chars_ascii).mono ?_
      rintro e w' ⟨rfl, rfl⟩
      exact ⟨_, rfl, index_any _, ((Below.refl _ _).alloc (Nat.le_refl _) _).alloc (by simp) _⟩
  have CI := Lib.hid CI
  clear hs
  go_enter Try.func96, Try.ntmps96
  go_wp2_with fail
  refine CI.out.mono ?_
  rintro e w' ⟨x, rfl, hx, hb⟩
  have HX := Lib.hid hx
  clear hx
  go_wp2_with fail
  go_ret
  exact ⟨congrArg (fun b => Ending.returned (.bool b)) HX.out, hb⟩
end Go.Proofs.Ytafnbpkdenjipaa.pt
