/-
  Name and Join: of package path and of its reference.
-/
import Derived.Test.YtafnbpkdenjipaaCtn
import Derived.Test.YtafnbpkdenjipaaDec
namespace Go.Proofs.Ytafnbpkdenjipaa.pt
open Go.RowKit Go.Proofs.Ytafnbpkdenjipaa.cm

/-- is a string a name -/
def nameS (s : ByteArray) : Bool := nameL s.data.toList
theorem toL (s : ByteArray) : s.toList = s.data.toList := ByteArray.toList_eq s
theorem eq_test (s : ByteArray) (l : List UInt8) : (s.toList == l) = (s.data.toList == l) := by rw [toL]

theorem nameS_nil {s : ByteArray} (h : (s.toList == []) = true) : nameS s = false := by
  rw [eq_test, beq_iff_eq] at h
  unfold nameS nameL; rw [h]; rfl
theorem nameS_long {s : ByteArray} (h : 12 < s.size) : nameS s = false := by
  rw [Lib.size_eq] at h
  unfold nameS nameL; rw [decide_eq_true h]; simp
theorem nameS_dot {s : ByteArray} (h : (s.toList == [46]) = true) : nameS s = false := by
  rw [eq_test, beq_iff_eq] at h
  unfold nameS nameL; rw [h]; rfl
theorem nameS_dots {s : ByteArray} (h : (s.toList == [46, 46]) = true) : nameS s = false := by
  rw [eq_test, beq_iff_eq] at h
  unfold nameS nameL; rw [h]; rfl
theorem nameS_else {s : ByteArray} (h1 : (s.toList == []) = false) (h2 : ¬ 12 < s.size) (h3 : (s.toList == [46]) = false) (h4 : (s.toList == [46, 46]) = false) : nameS s = !s.data.toList.any badC := by
  rw [eq_test] at h1 h3 h4
  rw [Lib.size_eq] at h2
  have h1' : s.data.toList.isEmpty = false := by
    cases hl : s.data.toList with
    | nil => rw [hl] at h1; cases h1
    | cons _ _ => rfl
  unfold nameS nameL
  rw [h1', decide_eq_false h2, h3, h4]; simp

theorem str_eq_true {s : ByteArray} {l : List UInt8} (h : (s.toList == l) = true) : s = ⟨l.toArray⟩ := by
  rw [eq_test, beq_iff_eq] at h
  apply ByteArray.ext
  rw [← h]

set_option maxHeartbeats 2000000 in
set_option maxRecDepth 100000 in
theorem Name_any (s : ByteArray) (w : World) :
    Calls Try.prog 90 #[.string s] w fun e w' => e = .returned (.bool (nameS s)) ∧ Below w.heap.size w w' := by
  cases h1 : (s.toList == [])
  · by_cases h2 : 12 < s.size
    · have HR := Lib.hid (nameS_long h2)
      have h2' : decide ((12 : Int) < (s.size : Int)) = true := by simp; omega
      go_enter Try.func90, Try.ntmps90
      go_wp2_with fail
      go_ret
      exact ⟨ret_bool HR.out.symm, Below.refl _ _⟩
    · have h2' : decide ((12 : Int) < (s.size : Int)) = false := by simp; omega
      cases h3 : (s.toList == [46])
      · cases h4 : (s.toList == [46, 46])
        · have HR := Lib.hid (nameS_else h1 h2 h3 h4)
          have CC := contains_any s w (by omega)
          have HR := HR.out
          generalize s.data.toList.any badC = b at HR CC
          have CC := Lib.hid CC
          have HR := Lib.hid HR
          go_enter Try.func90, Try.ntmps90
          go_wp2_with fail
          refine CC.out.mono ?_
          rintro e w' ⟨rfl, hb⟩
          go_wp2_with fail
          go_ret
          exact ⟨ret_bool HR.out.symm, hb⟩
        · have HR := Lib.hid (nameS_dots h4)
          go_enter Try.func90, Try.ntmps90
          go_wp2_with fail
          go_ret
          exact ⟨ret_bool HR.out.symm, Below.refl _ _⟩
      · have HR := Lib.hid (nameS_dot h3)
        go_enter Try.func90, Try.ntmps90
        go_wp2_with fail
        go_ret
        exact ⟨ret_bool HR.out.symm, Below.refl _ _⟩
  · have HR := Lib.hid (nameS_nil h1)
    go_enter Try.func90, Try.ntmps90
    go_wp2_with fail
    go_ret
    exact ⟨ret_bool HR.out.symm, Below.refl _ _⟩

theorem bad_yes {b : UInt8} (h : badC b = true) : ((b.toNat : Int) == 0) = true ∨ (((b.toNat : Int) == 0) = false ∧ ((b.toNat : Int) == 47) = true) := by
  unfold badC at h
  rw [Bool.or_eq_true, beq_iff_eq, beq_iff_eq] at h
  rcases h with rfl | rfl
  · exact .inl rfl
  · exact .inr ⟨rfl, rfl⟩
theorem bad_no {b : UInt8} (h : badC b = false) : ((b.toNat : Int) == 0) = false ∧ ((b.toNat : Int) == 47) = false := by
  unfold badC at h
  rw [Bool.or_eq_false_iff, beq_eq_false_iff_ne, beq_eq_false_iff_ne] at h
  refine ⟨beq_eq_false_iff_ne.2 fun e => h.1 (UInt8.toNat_inj.1 (by simpa using e)), beq_eq_false_iff_ne.2 fun e => h.2 (UInt8.toNat_inj.1 (by show b.toNat = 47; omega))⟩

set_option maxHeartbeats 4000000 in
set_option maxRecDepth 100000 in
theorem rName_any (s : ByteArray) (w : World) :
    Calls Try.prog 76 #[.string s] w fun e w' => e = .returned (.bool (nameS s)) ∧ w = w' := by
  cases h1 : (s.toList == [])
  · have h0 : 0 < s.size := by
      apply Nat.pos_of_ne_zero; intro e
      have : s.data.toList = [] := List.length_eq_zero_iff.1 (by rw [← Lib.size_eq]; exact e)
      rw [eq_test, this] at h1; cases h1
    have h0' : decide ((s.size : Int) < 1) = false := by simp; omega
    by_cases h2 : 12 < s.size
    · have HR := Lib.hid (nameS_long h2)
      have h2' : decide ((12 : Int) < (s.size : Int)) = true := by simp; omega
      go_enter Try.func76, Try.ntmps76
      go_wp2_with fail
      go_ret
      exact ⟨ret_bool HR.out.symm, rfl⟩
    · have h2' : decide ((12 : Int) < (s.size : Int)) = false := by simp; omega
      cases h3 : (s.toList == [46])
      · cases h4 : (s.toList == [46, 46])
        · have HR := Lib.hid (nameS_else h1 h2 h3 h4)
          go_enter Try.func76, Try.ntmps76
          go_wp2_with fail
          go_loop [3] (fun i => ∃ k : Nat, k ≤ s.size ∧ i = .int .i64 k ∧ Hid (Lib.NoAny s.data.toList [0, 47] k)) (fun i => s.size - (intOf i).toNat)
          case atStart => exact ⟨0, Nat.zero_le _, rfl, Lib.hid (Lib.NoAny.zero _ _)⟩
          case round =>
            obtain ⟨k, hk, rfl, HN⟩ := hrel
            by_cases hlt : k < s.size
            · have hl : s.data.toList[k]? = some (s[k]'hlt) := Lib.data_getElem? s k hlt
              cases hb : badC (s[k]'hlt)
              · have HNO := Lib.hid (HN.out.succ hl (by rw [bad_contains]; exact hb))
                obtain ⟨b1, b2⟩ := bad_no hb
                clear hb hl
                go_wp2_with fail
                exact ⟨⟨k + 1, by omega, by go_num, HNO⟩, by simp [intOf]; omega⟩
              · have HB : Hid (nameS s = false) := Lib.hid (by rw [HR.out, any_hit hl hb]; rfl)
                rcases bad_yes hb with b1 | ⟨b1, b2⟩
                · clear hb hl
                  go_wp2_with fail
                  go_ret
                  exact ⟨ret_bool HB.out.symm, rfl⟩
                · clear hb hl
                  go_wp2_with fail
                  go_ret
                  exact ⟨ret_bool HB.out.symm, rfl⟩
            · have HB : Hid (nameS s = true) := Lib.hid (by
                have : k = s.size := by omega
                subst this
                rw [HR.out, any_none HN.out]; rfl)
              go_wp2_with fail
              go_ret
              exact ⟨ret_bool HB.out.symm, rfl⟩
        · have HR := Lib.hid (nameS_dots h4)
          go_enter Try.func76, Try.ntmps76
          go_wp2_with fail
          go_ret
          exact ⟨ret_bool HR.out.symm, rfl⟩
      · have HR := Lib.hid (nameS_dot h3)
        go_enter Try.func76, Try.ntmps76
        go_wp2_with fail
        go_ret
        exact ⟨ret_bool HR.out.symm, rfl⟩
  · have HR := Lib.hid (nameS_nil h1)
    have h0' : decide ((s.size : Int) < 1) = true := by
      rw [str_eq_true h1]; rfl
    go_enter Try.func76, Try.ntmps76
    go_wp2_with fail
    go_ret
    exact ⟨ret_bool HR.out.symm, rfl⟩

/-- a directory and an entry -/
def joinB (d n : ByteArray) : ByteArray := ⟨(joinP d.data.toList n.data.toList).toArray⟩
theorem join_yes {d : ByteArray} (n : ByteArray) (h : endsL d.data.toList = true) : joinB d n = d ++ n := by
  unfold joinB joinP; rw [if_pos h]
  apply ByteArray.ext; simp
theorem join_no {d : ByteArray} (n : ByteArray) (h : endsL d.data.toList = false) : joinB d n = d ++ ⟨#[47]⟩ ++ n := by
  unfold joinB joinP; rw [if_neg (by rw [h]; decide)]
  apply ByteArray.ext; simp
theorem suffix_ends (l : List UInt8) : Lib.hasSuffix l [47] = endsL l := by
  unfold Lib.hasSuffix endsL
  rw [Bool.eq_iff_iff, List.isSuffixOf_iff_suffix, beq_iff_eq]
  constructor
  · rintro ⟨t, rfl⟩; simp
  · intro h
    obtain ⟨t, rfl⟩ := List.getLast?_eq_some_iff.1 h
    exact ⟨t, rfl⟩

theorem ends_last {d : ByteArray} (h : 0 < d.size) : endsL d.data.toList = ((d[d.size - 1]'(by omega)).toNat == 47) := by
  unfold endsL
  have hl : d.data.toList.length = d.size := (Lib.size_eq d).symm
  rw [List.getLast?_eq_getElem?, hl, Lib.data_getElem? d (d.size - 1) (by omega), Bool.eq_iff_iff, beq_iff_eq, beq_iff_eq]
  constructor
  · intro e; rw [Option.some.inj e]; rfl
  · intro e; exact congrArg some (UInt8.toNat_inj.1 e)

end Go.Proofs.Ytafnbpkdenjipaa.pt
