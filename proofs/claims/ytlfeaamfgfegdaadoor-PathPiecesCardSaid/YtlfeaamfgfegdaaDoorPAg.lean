/-
  The helpers of layer 4's statements: same, awake, agrees.
-/
import Derived.Test.YtlfeaamfgfegdaaDoorPRf
namespace Go.Proofs.YtlfeaamfgfegdaaDoor.pt
open Go.RowKit Go.Shelf Go.Proofs.YtlfeaamfgfegdaaDoor.cm Go.Proofs.YtlfeaamfgfegdaaDoor.rg

set_option maxHeartbeats 4000000 in
set_option maxRecDepth 100000 in
theorem same_any (a b : Option Addr) (ca cb : Nat) (xs : List ByteArray) (w : World) (ha : StrsAt w a xs) (hb : StrsAt w b xs) (hl : xs.length ≤ 9223372036854775806) :
    Calls Tryd.prog 29 #[.slice a xs.length ca, .slice b xs.length cb] w fun e w' => e = .returned (.bool true) ∧ Below w.heap.size w w' := by
  go_enter Tryd.func29, Tryd.ntmps29
  go_wp2_with fail
  go_loopw [5] (fun i wr => ∃ k : Nat, k ≤ xs.length ∧ i = .int .i64 (k : Int) ∧ Below w.heap.size w wr) (fun i _ => xs.length - (intOf i).toNat)
  case atStart => exact ⟨0, Nat.zero_le _, rfl, Below.refl _ _⟩
  case round =>
    obtain ⟨k, hk, rfl, hbel⟩ := hrel
    have HQ : Hid (∀ q, Below w.heap.size w (wr.drewN q)) := Lib.hid (fun q => hbel.trans ⟨rfl, rfl, rfl, Nat.le_refl _, fun _ _ => rfl⟩)
    by_cases hlt : k < xs.length
    · obtain ⟨ga, rfl, hca⟩ := (ha.below hbel (Nat.le_refl _)).get hlt
      obtain ⟨gb, rfl, hcb⟩ := (hb.below hbel (Nat.le_refl _)).get hlt
      generalize xs[k]'hlt = x at hca hcb
      have hk0 : (0 : Int) ≤ (k : Int) := by omega
      have hk1 : (k : Int) < (xs.length : Int) := by omega
      have he : (x.toList == x.toList) = true := by simp
      go_wp2_with fail
      go_quiet (fail)
      go_wp2_with fail
      exact ⟨⟨k + 1, by omega, by go_num, HQ.out _⟩, by simp [intOf]; omega⟩
    · go_wp2_with fail
      go_ret
      exact ⟨rfl, hbel⟩

theorem aw_pieces : piecesB ⟨#[47, 47, 97, 47, 46, 46, 47, 98, 47]⟩ = [⟨#[97]⟩, ⟨#[46, 46]⟩, ⟨#[98]⟩] := by decide +kernel
theorem aw_starts : startsL (⟨#[47, 47, 97, 47, 46, 46, 47, 98, 47]⟩ : ByteArray).data.toList = true := by decide +kernel
theorem aw_ends : endsL (⟨#[47, 47, 97, 47, 46, 46, 47, 98, 47]⟩ : ByteArray).data.toList = true := by decide +kernel
theorem aw_parent : parentL (⟨#[47, 97]⟩ : ByteArray).data.toList = ([47], [97], true) := by decide +kernel
theorem aw_name : nameS ⟨#[97, 98, 99, 100, 101, 102, 103, 104, 105, 106, 107, 108]⟩ = true := by decide +kernel

set_option maxHeartbeats 4000000 in
set_option maxRecDepth 100000 in
theorem awake_any (w : World) :
    Calls Tryd.prog 10 #[] w fun e w' => e = .returned (.bool true) ∧ Below w.heap.size w w' := by
  have C1 := Split_any ⟨#[47, 47, 97, 47, 46, 46, 47, 98, 47]⟩ w (by decide)
  have C2 : ∀ W, Calls Tryd.prog 21 #[.string ⟨#[47, 97]⟩] W fun e w' => e = .returned (.tuple #[.string ⟨#[47]⟩, .string ⟨#[97]⟩, .bool true]) ∧ Below W.heap.size W w' := fun W =>
    (Parent_any ⟨#[47, 97]⟩ W (by decide)).mono fun e w' h => by
      unfold ParR at h
      rw [aw_parent] at h
      exact h
  have C3 := fun W => Name_any ⟨#[97, 98, 99, 100, 101, 102, 103, 104, 105, 106, 107, 108]⟩ W
  rw [aw_name] at C3
  unfold SplitR at C1
  rw [aw_pieces, aw_starts, aw_ends] at C1
  have C1 := Lib.hid C1
  have C2 := Lib.hid C2
  have C3 := Lib.hid C3
  go_enter Tryd.func10, Tryd.ntmps10
  go_wp2_with fail
  refine C1.out.mono ?_
  rintro e w1 ⟨v, rfl, hown, hb1⟩
  obtain ⟨a, cap, rfl, hat⟩ := own_strs hown
  clear hown
  go_wp2_with fail
  refine (C2.out _).mono ?_
  rintro e w2 ⟨rfl, hb2⟩
  obtain ⟨g, rfl, hc⟩ := (hat.below hb2 (Nat.le_refl _)).get (j := 1) (by decide)
  have hc : w2.cell? ⟨g, 1, none⟩ = some (.string ⟨#[46, 46]⟩) := hc
  have hb12 := hb1.trans (hb2.mono hb1.size)
  clear hat
  go_wp2_with fail
  refine (C3.out _).mono ?_
  rintro e w3 ⟨rfl, hb3⟩
  go_wp2_with fail
  go_ret
  exact ⟨rfl, hb12.trans (hb3.mono hb12.size)⟩

set_option maxHeartbeats 8000000 in
set_option maxRecDepth 100000 in
theorem agrees_any (s : ByteArray) (w : World) (hs : s.size ≤ 7000) :
    Calls Tryd.prog 11 #[.string s] w fun e w' => e = .returned (.bool true) ∧ Below w.heap.size w w' := by
  have C1 := Split_any s w (by omega)
  have C2 := Lib.hid (fun W => rSplit_any s W (by omega))
  have C3 := Lib.hid (fun W => Parent_any s W (by omega))
  have C4 := Lib.hid (fun W => rParent_any s W hs)
  have C5 := fun W => Name_any s W
  have C6 := fun W => rName_any s W
  have C7 := fun W => Clean_any s W (by omega)
  have C8 := fun W => rClean_any s W (by omega)
  generalize nameS s = bn at C5 C6
  generalize cleanS s = bc at C7 C8
  have C5 := Lib.hid C5
  have C6 := Lib.hid C6
  have C7 := Lib.hid C7
  have C8 := Lib.hid C8
  have C1 := Lib.hid C1
  go_enter Tryd.func11, Tryd.ntmps11
  go_wp2_with fail
  refine C1.out.mono ?_
  rintro e w1 ⟨v, rfl, hown, hb1⟩
  obtain ⟨a, ca, rfl, hata⟩ := own_strs hown
  clear hown
  go_wp2_with fail
  refine (C2.out _).mono ?_
  rintro e w2 ⟨v, rfl, hown, hb2⟩
  obtain ⟨b, cb, rfl, hatb⟩ := own_strs hown
  have hata := hata.below hb2 (Nat.le_refl _)
  have hb12 := hb1.trans (hb2.mono hb1.size)
  clear hown hb1 hb2
  go_wp2_with fail
  refine (C3.out _).mono ?_
  rintro e w3 ⟨rfl, hb3⟩
  have hata := hata.below hb3 (Nat.le_refl _)
  have hatb := hatb.below hb3 (Nat.le_refl _)
  have hb13 := hb12.trans (hb3.mono hb12.size)
  clear hb3 hb12
  go_wp2_with fail
  refine (C4.out _).mono ?_
  rintro e w4 ⟨rfl, hb4⟩
  have hata := hata.below hb4 (Nat.le_refl _)
  have hatb := hatb.below hb4 (Nat.le_refl _)
  have hb14 := hb13.trans (hb4.mono hb13.size)
  have hlen := pieces_size s
  clear hb4 hb13 C1 C2 C3 C4
  generalize startsL s.data.toList = s1
  generalize endsL s.data.toList = s2
  generalize piecesB s = xs at *
  generalize parentL s.data.toList = P
  obtain ⟨d, n, o⟩ := P
  generalize bs d = D
  generalize bs n = N
  have CS := Lib.hid (fun W (h : Below w4.heap.size w4 W) => same_any a b ca cb xs W (hata.below h (Nat.le_refl _)) (hatb.below h (Nat.le_refl _)) (by omega))
  clear hata hatb
  go_wp2_with fail
  refine (C5.out _).mono ?_
  rintro e w5 ⟨rfl, hb5⟩
  go_wp2_with fail
  refine (C6.out _).mono ?_
  rintro e w6 ⟨rfl, rfl⟩
  have eb : (bn == bn) = true := by simp
  go_wp2_with fail
  refine (C7.out _).mono ?_
  rintro e w7 ⟨rfl, hb7⟩
  have hb57 := hb5.trans (hb7.mono hb5.size)
  go_wp2_with fail
  refine (C8.out _).mono ?_
  rintro e w8 ⟨rfl, hb8⟩
  have hb58 := hb57.trans (hb8.mono hb57.size)
  have ec : (bc == bc) = true := by simp
  go_wp2_with fail
  refine (CS.out _ hb58).mono ?_
  rintro e w9 ⟨rfl, hb9⟩
  have e1 : (s1 == s1) = true := by simp
  have e2 : (s2 == s2) = true := by simp
  have e3 : (D.toList == D.toList) = true := by simp
  have e4 : (N.toList == N.toList) = true := by simp
  have e5 : (o == o) = true := by simp
  go_wp2_with fail
  go_ret
  have hb59 := hb58.trans (hb9.mono hb58.size)
  exact ⟨rfl, hb14.trans (hb59.mono hb14.size)⟩
end Go.Proofs.YtlfeaamfgfegdaaDoor.pt
