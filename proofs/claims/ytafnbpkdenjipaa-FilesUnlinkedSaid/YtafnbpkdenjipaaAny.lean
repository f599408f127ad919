/-
  strings.ContainsAny at the two bytes that no name has, for any text of at most twelve bytes.
-/
import Derived.Test.YtafnbpkdenjipaaPth
import Derived.Test.YtafnbpkdenjipaaShelf
import Derived.Shelf.Strings.IndexAny
import Derived.Shelf.RegionOpen
import Derived.Laws.RangeAny
import Derived.Deep.LoopGhost
import Derived.WalkKit
import Derived.BigQuiet
import Derived.Deep.QuietTactic
import Derived.Lib.Hide
import Derived.WalkLawsBesides
import Derived.Outline
namespace Go.Proofs.Ytafnbpkdenjipaa.pt
open Go.RowKit Go.Shelf
attribute [local go_sem] Oper.semAt_some

theorem get_bang (s : ByteArray) (j : Nat) (h : j < s.size) : s.get! j = s[j]'h := by
  simp [ByteArray.get!, getElem!_pos, h]
  rfl
theorem div_high {x : Nat} (h : x / 64 = 2) : 128 ≤ x := by omega

/-- what the decoding of a rune from 128 on reads: bytes from 128 on -/
theorem decode_span (s : ByteArray) (pos : Nat) (h : pos < s.size) (ha : 128 ≤ (s[pos]'h).toNat) :
    pos + (Utf8.decode s pos).2 ≤ s.size ∧ ∀ j, pos ≤ j → j < pos + (Utf8.decode s pos).2 → 128 ≤ (s.get! j).toNat := by
  have hn : ¬ (s[pos]'h).toNat < 128 := by omega
  have h0 : 128 ≤ (s.get! pos).toNat := by rw [get_bang s pos h]; exact ha
  have key : ∀ n, (n = 1 ∨ (n = 2 ∧ pos + 1 < s.size ∧ 128 ≤ (s.get! (pos + 1)).toNat) ∨ (n = 3 ∧ (pos + 1 < s.size ∧ 128 ≤ (s.get! (pos + 1)).toNat) ∧ pos + 2 < s.size ∧ 128 ≤ (s.get! (pos + 2)).toNat) ∨
      (n = 4 ∧ (pos + 1 < s.size ∧ 128 ≤ (s.get! (pos + 1)).toNat) ∧ (pos + 2 < s.size ∧ 128 ≤ (s.get! (pos + 2)).toNat) ∧ pos + 3 < s.size ∧ 128 ≤ (s.get! (pos + 3)).toNat)) →
      pos + n ≤ s.size ∧ ∀ j, pos ≤ j → j < pos + n → 128 ≤ (s.get! j).toNat := by
    intro n hn
    refine ⟨by omega, fun j h1 h2 => ?_⟩
    obtain ⟨d, rfl⟩ : ∃ d, j = pos + d := ⟨j - pos, by omega⟩
    have hd : d = 0 ∨ d = 1 ∨ d = 2 ∨ d = 3 := by omega
    rcases hd with rfl | rfl | rfl | rfl
    · exact h0
    all_goals
      rcases hn with hn | hn | hn | hn
      all_goals first | omega | skip
  apply key
  simp only [Utf8.decode, get_at s pos h, hn, if_false]
  repeat' split
  all_goals first
    | exact .inl rfl
    | skip
  · rename_i h1 _
    simp only [Bool.and_eq_true, beq_iff_eq, decide_eq_true_eq] at h1
    exact .inr (.inl ⟨rfl, h1.2.1, div_high h1.2.2⟩)
  · rename_i h1 _
    simp only [Bool.and_eq_true, beq_iff_eq, decide_eq_true_eq] at h1
    exact .inr (.inr (.inl ⟨rfl, ⟨h1.1.2.1, div_high h1.1.2.2⟩, h1.2.1, div_high h1.2.2⟩))
  · rename_i h1 _
    simp only [Bool.and_eq_true, beq_iff_eq, decide_eq_true_eq] at h1
    exact .inr (.inr (.inr ⟨rfl, ⟨h1.1.1.2.1, div_high h1.1.1.2.2⟩, ⟨h1.1.2.1, div_high h1.1.2.2⟩, h1.2.1, div_high h1.2.2⟩))

/-- how a rune from 128 on is written -/
theorem encode_high (r : Int) (h : 128 ≤ r) : (∃ a b : UInt8, Utf8.encode r = ⟨#[a, b]⟩ ∧ 128 ≤ b.toNat) ∨ 3 ≤ (Utf8.encode r).size := by
  unfold Utf8.encode
  generalize hc : (if Utf8.valid r = true then r.toNat else Utf8.runeError) = c
  have hc1 : 128 ≤ c := by
    rw [← hc]; split
    · omega
    · decide
  simp only
  rw [if_neg (by omega)]
  split
  · left
    refine ⟨_, _, rfl, ?_⟩
    have : c % 64 < 64 := Nat.mod_lt _ (by decide)
    simp only [UInt8.toNat_ofNat']
    omega
  · right
    split
    · exact Nat.le_refl 3
    · exact Nat.le_succ 3

set_option maxHeartbeats 4000000 in
set_option maxRecDepth 100000 in
theorem rune_high (r : Int) (w : World) (h0 : 128 ≤ r) (h1 : r ≤ 2147483647) :
    Calls Try.prog 103 #[.string ⟨#[0, 47]⟩, .int .i32 r] w fun e w' => e = .returned (.int .i64 (-1)) ∧ Below w.heap.size w w' := by
  have x1 : decide ((0 : Int) ≤ r) = true := by simp; omega
  have x2 : decide (r < 128) = false := by simp; omega
  by_cases he : r = 65533
  · subst he
    clear h0 h1 x1 x2
    go_enter Try.func103, Try.ntmps103
    go_wp2_with fail
    have hd0 : Utf8.decode ⟨#[0, 47]⟩ 0 = (0, 1) := by decide
    have hd1 : Utf8.decode ⟨#[0, 47]⟩ 1 = (47, 1) := by decide
    go_loopg [4] 2 (fun g _ wx => ∃ i : Nat, i + g = 2 ∧ wx = w.iter ⟨#[0, 47]⟩ i)
    case atStart => exact ⟨0, rfl, rfl⟩
    case round =>
      obtain ⟨i, hig, rfl⟩ := hrel
      cases gk with
      | zero =>
        obtain rfl : i = 2 := by omega
        have hnx := fun ty => run_next_end (P := Try.prog) w ⟨#[0, 47]⟩ 2 ty (by decide)
        go_wp2_with fail
        go_ret
        exact ⟨rfl, (Below.refl _ _).alloc (Nat.le_refl _) _⟩
      | succ g =>
        have hi : i = 0 ∨ i = 1 := by omega
        have hnx := fun ty => run_next_any (P := Try.prog) w ⟨#[0, 47]⟩ i ty (by show i < 2; omega)
        rcases hi with rfl | rfl
        · rw [hd0] at hnx
          go_wp2_with fail
          go_roundg g
          case measure => omega
          case rel => exact ⟨1, by omega, rfl⟩
        · rw [hd1] at hnx
          go_wp2_with fail
          go_roundg g
          case measure => omega
          case rel => exact ⟨2, by omega, rfl⟩
  · have x3 : (r == 65533) = false := beq_eq_false_iff_ne.2 he
    have CV := Lib.hid (fun W => Try.utf8_ValidRune r W)
    clear he
    cases hv : Lib.validRune r
    · rw [hv] at CV
      go_enter Try.func103, Try.ntmps103
      go_wp2_with fail
      refine (CV.out _).mono ?_
      rintro e w' ⟨rfl, rfl⟩
      go_wp2_with fail
      go_ret
      exact ⟨rfl, Below.refl _ _⟩
    · rw [hv] at CV
      rcases encode_high r h0 with ⟨a, b, hab, hb⟩ | hsz
      · have hne : ((((⟨#[0, 47]⟩ : ByteArray)[1]'(by show 1 < 2; omega)).toNat : Int) != (((⟨#[a, b]⟩ : ByteArray)[1]'(by show 1 < 2; omega)).toNat : Int)) = true := by
          rw [bne_iff_ne]
          show ((47 : Nat) : Int) ≠ (b.toNat : Int)
          omega
        have CI : Hid (∀ W, Calls Try.prog 112 #[.string ByteArray.empty, .int .u8 (((⟨#[a, b]⟩ : ByteArray)[1]'(by show 1 < 2; omega)).toNat : Int)] W fun e w' => e = .returned (.int .i64 (-1)) ∧ w' = W) :=
          Lib.hid (fun W => Try.strings_IndexByte ByteArray.empty _ W)
        go_enter Try.func103, Try.ntmps103
        go_wp2_with fail
        refine (CV.out _).mono ?_
        rintro e w' ⟨rfl, rfl⟩
        go_wp2_with fail
        go_step3
        go_wp2_with fail
        go_loop [9] (fun i => i = .int .i64 1) (fun _ => 0)
        case atStart => rfl
        case round =>
          obtain rfl := hrel
          have hw2 : IntKind.i64.wrap 2 = 2 := by decide
          go_wp2_with fail
          go_step3
          go_wp2_with fail
          go_quiet (fail)
          go_wp2_with fail
          have hbq : Below w'.heap.size w' (w'.drewN nq) := ⟨rfl, rfl, rfl, Nat.le_refl _, fun _ _ => rfl⟩
          generalize w'.drewN nq = w2 at *
          go_quiet ((go_at_call 112; exact Calls.quiet_of_same (CI.out _)))
          go_wp2_with fail
          rw [Exit.noGoto_ret]
          simp +zetaDelta only [Exit.inBlock, Exit.then, Exit.noGoto_ret]
          go_ret
          exact ⟨rfl, hbq.trans ⟨rfl, rfl, rfl, Nat.le_refl _, fun _ _ => rfl⟩⟩
      · have hw : wrap64 (((Utf8.encode r).size : Int) - 1) = ((Utf8.encode r).size : Int) - 1 := by
          have := encode_size_le r
          unfold wrap64; omega
        have hd : decide (((Utf8.encode r).size : Int) - 1 < 2) = false := by simp; omega
        go_enter Try.func103, Try.ntmps103
        go_wp2_with fail
        refine (CV.out _).mono ?_
        rintro e w' ⟨rfl, rfl⟩
        go_wp2_with fail
        go_step3
        go_wp2_with fail
        go_loop [9] (fun i => i = .int .i64 (((Utf8.encode r).size : Int) - 1)) (fun _ => 0)
        case atStart => exact congrArg (Value.int .i64) hw
        case round =>
          obtain rfl := hrel
          go_wp2_with fail
          go_ret
          exact ⟨rfl, Below.refl _ _⟩
end Go.Proofs.Ytafnbpkdenjipaa.pt
