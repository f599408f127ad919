/-
  fromHex reads two digits for each byte.
-/
import Derived.Test.YtdndngabddnpmaaGreatDoorQuote
namespace Go.Proofs.YtdndngabddnpmaaGreatDoor.vl
open Go.RowKit Go.Proofs.YtdndngabddnpmaaGreatDoor.cm Go.Lib

def uhS (s : ByteArray) : ByteArray := match unhex s.data.toList with | some t => ⟨t.toArray⟩ | none => ⟨#[]⟩
def uhB (s : ByteArray) : Bool := (unhex s.data.toList).isSome
theorem uh_some {s : ByteArray} {t : List UInt8} (h : unhex s.data.toList = some t) : uhS s = ⟨t.toArray⟩ ∧ uhB s = true := by unfold uhS uhB; rw [h]; exact ⟨rfl, rfl⟩
theorem uh_none {s : ByteArray} (h : unhex s.data.toList = none) : uhS s = ⟨#[]⟩ ∧ uhB s = false := by unfold uhS uhB; rw [h]; exact ⟨rfl, rfl⟩

theorem unhex_odd : ∀ (n : Nat) (l : List UInt8), l.length = 2 * n + 1 → unhex l = none
  | _, [], h => by simp at h
  | _, [_], _ => rfl
  | 0, a :: b :: r, h => by simp at h
  | n + 1, a :: b :: r, h => by
    have := unhex_odd n r (by simp at h; omega)
    unfold unhex
    rw [this]
    split <;> rfl

theorem unhex_two {a b : UInt8} {x y : Nat} (r : List UInt8) (ha : hv a = some x) (hb : hv b = some y) : unhex (a :: b :: r) = (unhex r).map (UInt8.ofNat (16 * x + y) :: ·) := by
  rw [unhex, ha, hb]
theorem unhex_bad (a b : UInt8) (r : List UInt8) (h : hv a = none ∨ hv b = none) : unhex (a :: b :: r) = none := by
  unfold unhex
  rcases h with h | h
  · rw [h]
  · rw [h]; cases hv a <;> rfl

theorem unhex_app : ∀ (n : Nat) (a b x : List UInt8), a.length = 2 * n → unhex a = some x → unhex (a ++ b) = (unhex b).map (x ++ ·)
  | 0, a, b, x, h, hx => by
    have ha : a = [] := List.length_eq_zero_iff.1 (by omega)
    subst ha
    simp [unhex] at hx
    subst hx
    simp
  | n + 1, [], b, x, h, hx => by simp at h
  | n + 1, [_], b, x, h, hx => by simp at h; omega
  | n + 1, c :: d :: r, b, x, h, hx => by
    unfold unhex at hx
    split at hx
    · rename_i p q hp hq
      cases hr : unhex r with
      | none => rw [hr] at hx; cases hx
      | some y =>
        rw [hr] at hx
        simp at hx
        subst hx
        have ih := unhex_app n r b y (by simp at h; omega) hr
        show unhex (c :: d :: (r ++ b)) = _
        rw [unhex_two (r ++ b) hp hq, ih]
        cases unhex b <;> simp
    · cases hx

/-- the first k pairs of digits read as x -/
def Read (s : ByteArray) (k : Nat) (x : List UInt8) : Prop := x.length = k ∧ unhex (s.data.toList.take (2 * k)) = some x
theorem Read.zero (s : ByteArray) : Read s 0 [] := ⟨rfl, rfl⟩

theorem two_split (s : ByteArray) (k : Nat) (h : 2 * k + 1 < s.size) : s.data.toList = s.data.toList.take (2 * k) ++ (s[2 * k] :: s[2 * k + 1] :: s.data.toList.drop (2 * k + 2)) := by
  have h1 : 2 * k < s.data.toList.length := by rw [bytes_len]; omega
  have h2 : 2 * k + 1 < s.data.toList.length := by rw [bytes_len]; omega
  have e1 : s.data.toList.drop (2 * k) = s[2 * k] :: s.data.toList.drop (2 * k + 1) := by
    rw [List.drop_eq_getElem_cons h1]; rfl
  have e2 : s.data.toList.drop (2 * k + 1) = s[2 * k + 1] :: s.data.toList.drop (2 * k + 2) := by
    rw [List.drop_eq_getElem_cons h2]; rfl
  rw [← e2, ← e1, List.take_append_drop]

theorem take_len (s : ByteArray) (k : Nat) (h : k ≤ s.size) : (s.data.toList.take k).length = k := by rw [List.length_take, bytes_len]; omega

theorem Read.succ {s : ByteArray} {k : Nat} {x : List UInt8} (h : Read s k x) (hk : 2 * k + 1 < s.size) {p q : Nat} (hp : hv s[2 * k] = some p) (hq : hv s[2 * k + 1] = some q) : Read s (k + 1) (x ++ [UInt8.ofNat (16 * p + q)]) := by
  refine ⟨by simp [h.1], ?_⟩
  have e : s.data.toList.take (2 * (k + 1)) = s.data.toList.take (2 * k) ++ [s[2 * k], s[2 * k + 1]] := by
    have hs := two_split s k hk
    have hl := take_len s (2 * k) (by omega)
    generalize s.data.toList.take (2 * k) = A at *
    generalize s.data.toList.drop (2 * k + 2) = C at *
    rw [hs, show 2 * (k + 1) = A.length + 2 by omega, List.take_append, List.take_of_length_le (Nat.le_add_right _ _)]
    simp
  rw [e, unhex_app k _ _ x (take_len s _ (by omega)) h.2, unhex_two [] hp hq]
  rfl
theorem Read.bad {s : ByteArray} {k : Nat} {x : List UInt8} (h : Read s k x) (hk : 2 * k + 1 < s.size) (hb : hv s[2 * k] = none ∨ hv s[2 * k + 1] = none) : uhS s = ⟨#[]⟩ ∧ uhB s = false := by
  apply uh_none
  rw [two_split s k hk, unhex_app k _ _ x (take_len s _ (by omega)) h.2, unhex_bad _ _ _ hb]
  rfl
theorem Read.done {s : ByteArray} {k : Nat} {x : List UInt8} (h : Read s k x) (hk : s.size = 2 * k) : uhS s = ⟨x.toArray⟩ ∧ uhB s = true := by
  apply uh_some
  have := h.2
  rwa [List.take_of_length_le (by rw [bytes_len]; omega)] at this

theorem or16 (p q : Nat) (hp : p < 16) (hq : q < 16) : bits .or .u8 ((p : Int) * 16) (q : Int) = (((UInt8.ofNat (16 * p + q)).toNat : Nat) : Int) := by
  have : ∀ p < 16, ∀ q < 16, bits .or .u8 (((p : Nat) : Int) * 16) ((q : Nat) : Int) = (((UInt8.ofNat (16 * p + q)).toNat : Nat) : Int) := by decide +kernel
  exact this p hp q hq

set_option maxRecDepth 100000 in
set_option maxHeartbeats 4000000 in
theorem fromHex_any (s : ByteArray) (w : World) (hs : s.size ≤ 100000) (hT : HexT w) (h0 : 1 < w.heap.size) :
    Calls Tryz.prog 110 #[.string s] w fun e w' => e = .returned (.tuple #[.string (uhS s), .bool (uhB s)]) ∧ Below w.heap.size w w' := by
  obtain ⟨i0, hi, hz0, hz1, hz2⟩ := info_parts infoB
  have HT := Lib.hid hT
  clear hT
  by_cases hodd : s.size % 2 = 1
  · have HU := uh_none (s := s) (unhex_odd (s.size / 2) _ (by rw [bytes_len]; omega))
    have H1 := Lib.hid HU.1
    have H2 := Lib.hid HU.2
    have e1 : ((s.size : Int) % 2 == 0) = false := beq_eq_false_iff_ne.2 (by omega)
    have e2 : ((s.size : Int) % 2 != 0) = true := by simp [bne, e1]
    clear HU hodd
    go_enter Tryz.func110, Tryz.ntmps110
    go_wp2_with fail
    go_ret2
    exact ⟨ret_sb H1.out.symm H2.out.symm, Below.refl _ _⟩
  · have e1 : ((s.size : Int) % 2 == 0) = true := beq_iff_eq.2 (by omega)
    have e2 : ((s.size : Int) % 2 != 0) = false := by simp [bne, e1]
    obtain ⟨m, hm⟩ : ∃ m, s.size = 2 * m := ⟨s.size / 2, by omega⟩
    have hm2 : (s.size : Int) / 2 = ((m : Nat) : Int) := by omega
    have HM := Lib.hid hm
    have hm3 : m ≤ 100000 := by omega
    have hm4 : 2 * m ≤ s.size := by omega
    have hm5 : s.size ≤ 2 * m := by omega
    clear hm hodd
    go_enter Tryz.func110, Tryz.ntmps110
    go_wp2_with (at_make; refine wpList_make_own _ rfl _ _ 36 rfl w.heap.size 5 i0 (.int .u8 0) 1 Tryz.underlying36 hi hz0 hz1 .i64 .i64 _ m rfl rfl (by first | rfl | exact hm2 | simp) (by rw [hz2]; omega) (by unfold maxLen; omega) (Nat.le_refl _) ?_; intro w0 hown0 hgrow0)
    have hb0 : Below w.heap.size w w0 := (Below.refl _ _).grown hgrow0 (by simp) (fun k hk => by cases hk)
    clear hgrow0 hm2 e1 e2
    go_loopw [4, 5] (fun v i wr => ∃ (k : Nat) (x : List UInt8), 2 * k ≤ s.size ∧ i = .int .i64 ((2 * k : Nat) : Int) ∧ Hid (Read s k x) ∧ wr.ownsRow w.heap.size 5 1 v k (byteCells x) ∧ Below w.heap.size w wr) (fun _ i _ => s.size - (intOf i).toNat)
    case atStart => exact ⟨0, [], Nat.zero_le _, rfl, Lib.hid (Read.zero s), hown0, hb0⟩
    case round =>
      obtain ⟨k, x, hk, rfl, HR, hown, hbel⟩ := hrel
      have hbs := hbel.size
      by_cases hlt : 2 * k < s.size
      · have hlt2 : 2 * k + 1 < s.size := by omega
        have hne := own_far hown h0
        have HW := Lib.hid (HT.out.below hbel h0)
        cases hp : hv s[2 * k] with
        | none =>
          have HB := HR.out.bad hlt2 (.inl hp)
          have H1 := Lib.hid HB.1
          have H2 := Lib.hid HB.2
          have C1 := Lib.hid (digitValue_none _ hp wr HW.out)
          clear HB hp
          cases hq : hv s[2 * k + 1] with
          | none =>
            have C2 := Lib.hid (digitValue_none _ hq wr HW.out)
            clear hq
            go_wp2_with fail
            refine C1.out.mono ?_
            rintro e w' ⟨rfl, rfl⟩
            go_wp2_with fail
            refine C2.out.mono ?_
            rintro e w' ⟨rfl, rfl⟩
            go_wp2_with fail
            go_ret2
            exact ⟨ret_sb H1.out.symm H2.out.symm, hbel⟩
          | some q =>
            have C2 := Lib.hid (digitValue_some _ q hq wr HW.out)
            clear hq
            go_wp2_with fail
            refine C1.out.mono ?_
            rintro e w' ⟨rfl, rfl⟩
            go_wp2_with fail
            refine C2.out.mono ?_
            rintro e w' ⟨rfl, rfl⟩
            go_wp2_with fail
            go_ret2
            exact ⟨ret_sb H1.out.symm H2.out.symm, hbel⟩
        | some p =>
          have C1 := Lib.hid (digitValue_some _ p hp wr HW.out)
          cases hq : hv s[2 * k + 1] with
          | none =>
            have HB := HR.out.bad hlt2 (.inr hq)
            have H1 := Lib.hid HB.1
            have H2 := Lib.hid HB.2
            have C2 := Lib.hid (digitValue_none _ hq wr HW.out)
            clear HB hp hq
            go_wp2_with fail
            refine C1.out.mono ?_
            rintro e w' ⟨rfl, rfl⟩
            go_wp2_with fail
            refine C2.out.mono ?_
            rintro e w' ⟨rfl, rfl⟩
            go_wp2_with fail
            go_ret2
            exact ⟨ret_sb H1.out.symm H2.out.symm, hbel⟩
          | some q =>
            have C2 := Lib.hid (digitValue_some _ q hq wr HW.out)
            have HN := Lib.hid (HR.out.succ hlt2 hp hq)
            have p1 := (hv_some hp).1
            have q1 := (hv_some hq).1
            have ho := or16 p q p1 q1
            clear hp hq
            go_wp2_with fail
            refine C1.out.mono ?_
            rintro e w' ⟨rfl, rfl⟩
            go_wp2_with fail
            refine C2.out.mono ?_
            rintro e w' ⟨rfl, rfl⟩
            generalize UInt8.ofNat (16 * p + q) = y at *
            go_wp2_with (first
              | (at_builtin; refine wpList_append_own _ rfl _ _ 36 rfl w.heap.size 5 i0 (.int .u8 0) 1 1 Tryz.underlying36 hi hz0 hz1 hz2 rfl (by decide) _ _ _ rfl (hown.alloc _) ⟨wr.heap.size, 0, none⟩ 1 1 [.int .u8 (y.toNat : Int)] rfl rfl ?c1 ?c2 ?c3 ?c4 ?c5 ?_)
              | fail)
            case c1 =>
              intro j u hj
              match j, hj with
              | 0, hj => simp at hj; subst hj; simp [Addr.add]
            case c2 => intro u hu; simp at hu; subst hu; rfl
            case c3 => unfold maxLen; omega
            case c4 => omega
            case c5 => simp; omega
            intro v' w1 hown' hgrow _
            go_wp2_with fail
            refine ⟨⟨k + 1, _, by omega, by go_num, HN, ?_, ?_⟩, by simp [intOf]; omega⟩
            · rw [byteCells_append]
              exact hown'
            · exact (hbel.alloc hbs _).grown hgrow (by simp; omega) (fun k hk => (hown.lt k hk).1)
      · have hkk : s.size = 2 * k := by omega
        have HB := HR.out.done hkk
        have H1 := Lib.hid HB.1
        have H2 := Lib.hid HB.2
        have hx := HR.out.1
        have ht := own_text (w := wr) (B := w.heap.size) (l := x) (by rw [hx]; exact hown)
        clear HB hx hkk
        go_wp2_with fail
        go_ret2
        exact ⟨ret_sb H1.out.symm H2.out.symm, hbel⟩
end Go.Proofs.YtdndngabddnpmaaGreatDoor.vl
