/-
  What a node may hold: kinds, rights, targets; of package files and of its reference.
-/
import Derived.Test.YtafnbpkdenjipaaFGr
import Derived.Test.YtafnbpkdenjipaaShelf
import Derived.Lib.IndexLaws
namespace Go.Proofs.Ytafnbpkdenjipaa.fl
open Go.RowKit Go.Proofs.Ytafnbpkdenjipaa.cm

def kindB (k : Int) : Bool := decide (1 ≤ k ∧ k ≤ 3)
def rightsB (m u g : Int) : Bool := decide (0 ≤ m ∧ m ≤ 511 ∧ 0 ≤ u ∧ u ≤ 4294967295 ∧ 0 ≤ g ∧ g ≤ 4294967295)
def targB (k : Int) (s : ByteArray) : Bool := if k = 3 then targetB s else decide (s.size = 0)
theorem plain_parts (n : NodeP) : plainB n = (kindB n.kind && (rightsB n.mode n.uid n.gid && targB n.kind n.target)) := by
  unfold plainB kindB rightsB targB
  rw [Bool.eq_iff_iff]
  simp [and_assoc]

set_option maxRecDepth 100000 in
theorem validKind_any (k : Int) (w : World) : Calls Try.prog 72 #[.int .i64 k] w fun e w' => e = .returned (.bool (kindB k)) ∧ w' = w := by
  have K : kindB k = true ↔ k = 1 ∨ k = 2 ∨ k = 3 := by unfold kindB; rw [decide_eq_true_eq]; omega
  by_cases h1 : k = 1
  · have HR := Lib.hid (K.2 (.inl h1))
    subst h1
    clear K
    go_enter Try.func72, Try.ntmps72
    go_wp2_with fail
    go_ret
    exact ⟨ret_bool HR.out.symm, rfl⟩
  · have e1 : (k == 1) = false := by simpa using h1
    by_cases h2 : k = 2
    · have HR := Lib.hid (K.2 (.inr (.inl h2)))
      subst h2
      clear K
      go_enter Try.func72, Try.ntmps72
      go_wp2_with fail
      go_ret
      exact ⟨ret_bool HR.out.symm, rfl⟩
    · have e2 : (k == 2) = false := by simpa using h2
      by_cases h3 : k = 3
      · have HR := Lib.hid (K.2 (.inr (.inr h3)))
        subst h3
        clear K
        go_enter Try.func72, Try.ntmps72
        go_wp2_with fail
        go_ret
        exact ⟨ret_bool HR.out.symm, rfl⟩
      · have e3 : (k == 3) = false := by simpa using h3
        have HR : Hid (kindB k = false) := Lib.hid (by rw [← Bool.not_eq_true]; intro h; rcases K.1 h with h | h | h <;> contradiction)
        clear K h1 h2 h3
        go_enter Try.func72, Try.ntmps72
        go_wp2_with fail
        go_ret
        exact ⟨ret_bool HR.out.symm, rfl⟩

set_option maxRecDepth 100000 in
theorem validRights_any (m u g : Int) (w : World) : Calls Try.prog 58 #[.int .i64 m, .int .i64 u, .int .i64 g] w fun e w' => e = .returned (.bool (rightsB m u g)) ∧ w' = w := by
  by_cases h0 : 0 ≤ m
  · by_cases h1 : m ≤ 511
    · by_cases h2 : 0 ≤ u
      · by_cases h3 : u ≤ 4294967295
        · by_cases h4 : 0 ≤ g
          · by_cases h5 : g ≤ 4294967295
            · have HR : Hid (rightsB m u g = true) := Lib.hid (by unfold rightsB; rw [decide_eq_true_eq]; omega)
              have e0 : decide (0 ≤ m) = true := decide_eq_true h0
              have e1 : decide (m ≤ 511) = true := decide_eq_true h1
              have e2 : decide (0 ≤ u) = true := decide_eq_true h2
              have e3 : decide (u ≤ 4294967295) = true := decide_eq_true h3
              have e4 : decide (0 ≤ g) = true := decide_eq_true h4
              have e5 : decide (g ≤ 4294967295) = true := decide_eq_true h5
              clear h0 h1 h2 h3 h4 h5
              go_enter Try.func58, Try.ntmps58
              go_wp2_with fail
              go_ret
              exact ⟨ret_bool HR.out.symm, rfl⟩
            · have HR : Hid (rightsB m u g = false) := Lib.hid (by unfold rightsB; rw [decide_eq_false_iff_not]; omega)
              have e0 : decide (0 ≤ m) = true := decide_eq_true h0
              have e1 : decide (m ≤ 511) = true := decide_eq_true h1
              have e2 : decide (0 ≤ u) = true := decide_eq_true h2
              have e3 : decide (u ≤ 4294967295) = true := decide_eq_true h3
              have e4 : decide (0 ≤ g) = true := decide_eq_true h4
              have e5 : decide (g ≤ 4294967295) = false := decide_eq_false h5
              clear h0 h1 h2 h3 h4 h5
              go_enter Try.func58, Try.ntmps58
              go_wp2_with fail
              go_ret
              exact ⟨ret_bool HR.out.symm, rfl⟩
          · have HR : Hid (rightsB m u g = false) := Lib.hid (by unfold rightsB; rw [decide_eq_false_iff_not]; omega)
            have e0 : decide (0 ≤ m) = true := decide_eq_true h0
            have e1 : decide (m ≤ 511) = true := decide_eq_true h1
            have e2 : decide (0 ≤ u) = true := decide_eq_true h2
            have e3 : decide (u ≤ 4294967295) = true := decide_eq_true h3
            have e4 : decide (0 ≤ g) = false := decide_eq_false h4
            clear h0 h1 h2 h3 h4
            go_enter Try.func58, Try.ntmps58
            go_wp2_with fail
            go_ret
            exact ⟨ret_bool HR.out.symm, rfl⟩
        · have HR : Hid (rightsB m u g = false) := Lib.hid (by unfold rightsB; rw [decide_eq_false_iff_not]; omega)
          have e0 : decide (0 ≤ m) = true := decide_eq_true h0
          have e1 : decide (m ≤ 511) = true := decide_eq_true h1
          have e2 : decide (0 ≤ u) = true := decide_eq_true h2
          have e3 : decide (u ≤ 4294967295) = false := decide_eq_false h3
          clear h0 h1 h2 h3
          go_enter Try.func58, Try.ntmps58
          go_wp2_with fail
          go_ret
          exact ⟨ret_bool HR.out.symm, rfl⟩
      · have HR : Hid (rightsB m u g = false) := Lib.hid (by unfold rightsB; rw [decide_eq_false_iff_not]; omega)
        have e0 : decide (0 ≤ m) = true := decide_eq_true h0
        have e1 : decide (m ≤ 511) = true := decide_eq_true h1
        have e2 : decide (0 ≤ u) = false := decide_eq_false h2
        clear h0 h1 h2
        go_enter Try.func58, Try.ntmps58
        go_wp2_with fail
        go_ret
        exact ⟨ret_bool HR.out.symm, rfl⟩
    · have HR : Hid (rightsB m u g = false) := Lib.hid (by unfold rightsB; rw [decide_eq_false_iff_not]; omega)
      have e0 : decide (0 ≤ m) = true := decide_eq_true h0
      have e1 : decide (m ≤ 511) = false := decide_eq_false h1
      clear h0 h1
      go_enter Try.func58, Try.ntmps58
      go_wp2_with fail
      go_ret
      exact ⟨ret_bool HR.out.symm, rfl⟩
  · have HR : Hid (rightsB m u g = false) := Lib.hid (by unfold rightsB; rw [decide_eq_false_iff_not]; omega)
    have e0 : decide (0 ≤ m) = false := decide_eq_false h0
    clear h0
    go_enter Try.func58, Try.ntmps58
    go_wp2_with fail
    go_ret
    exact ⟨ret_bool HR.out.symm, rfl⟩

theorem byte_any (l : List UInt8) (c : UInt8) : decide (0 ≤ Lib.indexByte l c) = l.any (· == c) := by
  have hge := Lib.indexByte_ge l c
  rw [Bool.eq_iff_iff, decide_eq_true_eq, List.any_eq_true]
  constructor
  · intro h
    obtain ⟨o, ho⟩ := Int.eq_ofNat_of_zero_le h
    exact ⟨c, List.mem_of_getElem? (Lib.indexByte_some ho).1, by simp⟩
  · rintro ⟨x, hx, he⟩
    have he : x = c := by simpa using he
    subst he
    by_cases k : Lib.indexByte l x = -1
    · obtain ⟨j, hj⟩ := List.mem_iff_getElem?.1 hx
      exact (Lib.indexByte_none k j hj).elim
    · omega
theorem empty_size (s : ByteArray) : (s.toList == []) = decide (s.size = 0) := by
  rw [ByteArray.toList_eq, Bool.eq_iff_iff, decide_eq_true_eq, Lib.size_eq, beq_iff_eq, List.length_eq_zero_iff]
theorem empty_size2 (s : ByteArray) : s.toList.isEmpty = decide (s.size = 0) := by
  rw [← empty_size]
  cases s.toList <;> rfl

set_option maxRecDepth 100000 in
theorem validTarget_any (k : Int) (s : ByteArray) (w : World) : Calls Try.prog 73 #[.int .i64 k, .string s] w fun e w' => e = .returned (.bool (targB k s)) ∧ w' = w := by
  by_cases h3 : k = 3
  · have e1 : (k != 3) = false := by simp [h3]
    have HK : Hid (targB k s = targetB s) := Lib.hid (if_pos h3)
    clear h3
    by_cases h0 : s.size = 0
    · have HR : Hid (targB k s = false) := Lib.hid (by rw [HK.out]; unfold targetB; rw [decide_eq_false (by omega)]; simp)
      have e0 : (s.toList == []) = true := by rw [empty_size]; exact decide_eq_true h0
      have e2 : s.toList.isEmpty = true := by rw [empty_size2]; exact decide_eq_true h0
      clear h0 HK
      go_enter Try.func73, Try.ntmps73
      go_wp2_with fail
      go_ret
      exact ⟨ret_bool HR.out.symm, rfl⟩
    · have e0 : (s.toList == []) = false := by rw [empty_size]; exact decide_eq_false h0
      have e2 : s.toList.isEmpty = false := by rw [empty_size2]; exact decide_eq_false h0
      by_cases h1 : s.size ≤ 128
      · have CC := Try.strings_Contains_one s 0 w
        rw [byte_any] at CC
        have HR : Hid (targB k s = !s.data.toList.any (· == 0)) := Lib.hid (by rw [HK.out]; unfold targetB; rw [decide_eq_true (by omega : 1 ≤ s.size ∧ s.size ≤ 128)]; simp)
        have e3 : decide ((s.size : Int) ≤ 128) = true := by simp; omega
        clear h0 h1 HK
        generalize s.data.toList.any (· == 0) = D at *
        have CC := Lib.hid CC
        go_enter Try.func73, Try.ntmps73
        go_wp2_with fail
        refine CC.out.mono ?_
        rintro e w' ⟨rfl, rfl⟩
        go_wp2_with fail
        go_ret
        exact ⟨ret_bool HR.out.symm, rfl⟩
      · have HR : Hid (targB k s = false) := Lib.hid (by rw [HK.out]; unfold targetB; rw [decide_eq_false (by omega)]; simp)
        have e3 : decide ((s.size : Int) ≤ 128) = false := by simp; omega
        clear h0 h1 HK
        go_enter Try.func73, Try.ntmps73
        go_wp2_with fail
        go_ret
        exact ⟨ret_bool HR.out.symm, rfl⟩
  · have e1 : (k != 3) = true := by simp [h3]
    have HR : Hid (targB k s = decide (s.size = 0)) := Lib.hid (if_neg h3)
    have e0 := empty_size s
    have e2 := empty_size2 s
    generalize decide (s.size = 0) = D at *
    clear h3
    go_enter Try.func73, Try.ntmps73
    go_wp2_with fail
    go_ret
    exact ⟨ret_bool HR.out.symm, rfl⟩

set_option maxRecDepth 100000 in
set_option maxHeartbeats 1000000 in
theorem rtarget_any (s : ByteArray) (w : World) (hs : s.size ≤ 100000) : Calls Try.prog 77 #[.string s] w fun e w' => e = .returned (.bool (targetB s)) ∧ w' = w := by
  have HD := Lib.hid (show targetB s = (!s.data.toList.any (· == 0) && decide (1 ≤ s.size ∧ s.size ≤ 128)) from rfl)
  go_enter Try.func77, Try.ntmps77
  go_wp2_with fail
  go_loop [3] (fun i => ∃ k : Nat, k ≤ s.size ∧ i = .int .i64 k ∧ Hid (∀ (j : Nat) (b : UInt8), j < k → s.data.toList[j]? = some b → b ≠ 0)) (fun i => s.size - (intOf i).toNat)
  case atStart => exact ⟨0, Nat.zero_le _, rfl, Lib.hid (fun j b hj => absurd hj (Nat.not_lt_zero _))⟩
  case round =>
    obtain ⟨k, hk, rfl, HN⟩ := hrel
    by_cases hlt : k < s.size
    · have hlt' : (k : Int) < (s.size : Int) := by omega
      have HG : Hid (s.data.toList[k]? = some (s[k]'hlt)) := Lib.hid (Lib.data_getElem? s k hlt)
      by_cases hz : s[k]'hlt = 0
      · have HR : Hid (targetB s = false) := Lib.hid (by
          rw [HD.out]
          have : s.data.toList.any (· == 0) = true := by
            rw [List.any_eq_true]
            exact ⟨_, List.mem_of_getElem? HG.out, by simp [hz]⟩
          rw [this]; rfl)
        have ez : (((s[k]'hlt).toNat : Int) == 0) = true := by rw [hz]; rfl
        clear hz
        go_wp2_with fail
        go_ret
        exact ⟨ret_bool HR.out.symm, rfl⟩
      · have ez : (((s[k]'hlt).toNat : Int) == 0) = false := by
          rw [beq_eq_false_iff_ne]
          intro h
          exact hz (UInt8.toNat_inj.1 (by show (s[k]'hlt).toNat = 0; omega))
        have HN2 : Hid (∀ (j : Nat) (b : UInt8), j < k + 1 → s.data.toList[j]? = some b → b ≠ 0) := Lib.hid (fun j b hj hb => by
          by_cases e : j = k
          · subst e
            rw [HG.out] at hb
            injection hb with hb
            rw [← hb]; exact hz
          · exact HN.out j b (by omega) hb)
        clear hz
        go_wp2_with fail
        exact ⟨⟨k + 1, by omega, by go_num, HN2⟩, by simp [intOf]; omega⟩
    · have hall : s.data.toList.any (· == 0) = false := by
        rw [← Bool.not_eq_true, List.any_eq_true]
        rintro ⟨x, hx, he⟩
        obtain ⟨j, hj⟩ := List.mem_iff_getElem?.1 hx
        have hjl : j < s.data.toList.length := (List.getElem?_eq_some_iff.1 hj).1
        have he : x = 0 := by simpa using he
        rw [← Lib.size_eq] at hjl
        exact HN.out j x (by omega) hj he
      rw [hall] at HD
      by_cases h1 : 1 ≤ s.size
      · have e1 : decide ((s.size : Int) ≥ 1) = true := by simp; omega
        by_cases h2 : s.size ≤ 128
        · have e2 : decide ((s.size : Int) ≤ 128) = true := by simp; omega
          have HR : Hid (targetB s = true) := Lib.hid (by rw [HD.out, decide_eq_true (by omega : 1 ≤ s.size ∧ s.size ≤ 128)]; rfl)
          go_wp2_with fail
          go_ret
          exact ⟨ret_bool HR.out.symm, rfl⟩
        · have e2 : decide ((s.size : Int) ≤ 128) = false := by simp; omega
          have HR : Hid (targetB s = false) := Lib.hid (by rw [HD.out, decide_eq_false (by omega : ¬ (1 ≤ s.size ∧ s.size ≤ 128))]; rfl)
          go_wp2_with fail
          go_ret
          exact ⟨ret_bool HR.out.symm, rfl⟩
      · have e1 : decide ((s.size : Int) ≥ 1) = false := by simp; omega
        have HR : Hid (targetB s = false) := Lib.hid (by rw [HD.out, decide_eq_false (by omega : ¬ (1 ≤ s.size ∧ s.size ≤ 128))]; rfl)
        go_wp2_with fail
        go_ret
        exact ⟨ret_bool HR.out.symm, rfl⟩

set_option maxRecDepth 100000 in
set_option maxHeartbeats 1000000 in
theorem rplain_any (n : NodeP) (va : Option Addr) (len cv : Nat) (w : World) (hs : n.target.size ≤ 100000) : Calls Try.prog 49 #[.agg #[.int .i64 n.ino, .int .i64 n.kind, .int .i64 n.mode, .int .i64 n.uid, .int .i64 n.gid, .int .i64 n.parent, .string n.target, .slice va len cv]] w fun e w' => e = .returned (.bool (plainB n)) ∧ Below w.heap.size w w' := by
  have CT := Lib.hid (fun W => rtarget_any n.target W hs)
  have HD := Lib.hid (plain_parts n)
  have hb : Below w.heap.size w (w.alloc (.cells #[.int .i64 n.ino, .int .i64 n.kind, .int .i64 n.mode, .int .i64 n.uid, .int .i64 n.gid, .int .i64 n.parent, .string n.target, .slice va len cv] 43)) := (Below.refl _ _).alloc (Nat.le_refl _) _
  by_cases h0 : n.kind < 1
  · have HR : Hid (plainB n = false) := Lib.hid (by rw [HD.out]; unfold kindB; rw [decide_eq_false (by omega : ¬ (1 ≤ n.kind ∧ n.kind ≤ 3))]; rfl)
    have e0 : decide (n.kind < 1) = true := decide_eq_true h0
    clear HD CT h0
    go_enter Try.func49, Try.ntmps49
    go_wp2_with fail
    go_ret
    exact ⟨ret_bool HR.out.symm, hb⟩
  · by_cases h1 : 3 < n.kind
    · have HR : Hid (plainB n = false) := Lib.hid (by rw [HD.out]; unfold kindB; rw [decide_eq_false (by omega : ¬ (1 ≤ n.kind ∧ n.kind ≤ 3))]; rfl)
      have e0 : decide (n.kind < 1) = false := decide_eq_false h0
      have e1 : decide (3 < n.kind) = true := decide_eq_true h1
      clear HD CT h0 h1
      go_enter Try.func49, Try.ntmps49
      go_wp2_with fail
      go_ret
      exact ⟨ret_bool HR.out.symm, hb⟩
    · by_cases h2 : n.mode < 0
      · have HR : Hid (plainB n = false) := Lib.hid (by rw [HD.out]; unfold rightsB; rw [decide_eq_false (by omega : ¬ (0 ≤ n.mode ∧ n.mode ≤ 511 ∧ 0 ≤ n.uid ∧ n.uid ≤ 4294967295 ∧ 0 ≤ n.gid ∧ n.gid ≤ 4294967295))]; simp)
        have e0 : decide (n.kind < 1) = false := decide_eq_false h0
        have e1 : decide (3 < n.kind) = false := decide_eq_false h1
        have e2 : decide (n.mode < 0) = true := decide_eq_true h2
        clear HD CT h0 h1 h2
        go_enter Try.func49, Try.ntmps49
        go_wp2_with fail
        go_ret
        exact ⟨ret_bool HR.out.symm, hb⟩
      · by_cases h3 : 511 < n.mode
        · have HR : Hid (plainB n = false) := Lib.hid (by rw [HD.out]; unfold rightsB; rw [decide_eq_false (by omega : ¬ (0 ≤ n.mode ∧ n.mode ≤ 511 ∧ 0 ≤ n.uid ∧ n.uid ≤ 4294967295 ∧ 0 ≤ n.gid ∧ n.gid ≤ 4294967295))]; simp)
          have e0 : decide (n.kind < 1) = false := decide_eq_false h0
          have e1 : decide (3 < n.kind) = false := decide_eq_false h1
          have e2 : decide (n.mode < 0) = false := decide_eq_false h2
          have e3 : decide (511 < n.mode) = true := decide_eq_true h3
          clear HD CT h0 h1 h2 h3
          go_enter Try.func49, Try.ntmps49
          go_wp2_with fail
          go_ret
          exact ⟨ret_bool HR.out.symm, hb⟩
        · by_cases h4 : n.uid < 0
          · have HR : Hid (plainB n = false) := Lib.hid (by rw [HD.out]; unfold rightsB; rw [decide_eq_false (by omega : ¬ (0 ≤ n.mode ∧ n.mode ≤ 511 ∧ 0 ≤ n.uid ∧ n.uid ≤ 4294967295 ∧ 0 ≤ n.gid ∧ n.gid ≤ 4294967295))]; simp)
            have e0 : decide (n.kind < 1) = false := decide_eq_false h0
            have e1 : decide (3 < n.kind) = false := decide_eq_false h1
            have e2 : decide (n.mode < 0) = false := decide_eq_false h2
            have e3 : decide (511 < n.mode) = false := decide_eq_false h3
            have e4 : decide (n.uid < 0) = true := decide_eq_true h4
            clear HD CT h0 h1 h2 h3 h4
            go_enter Try.func49, Try.ntmps49
            go_wp2_with fail
            go_ret
            exact ⟨ret_bool HR.out.symm, hb⟩
          · by_cases h5 : 4294967295 < n.uid
            · have HR : Hid (plainB n = false) := Lib.hid (by rw [HD.out]; unfold rightsB; rw [decide_eq_false (by omega : ¬ (0 ≤ n.mode ∧ n.mode ≤ 511 ∧ 0 ≤ n.uid ∧ n.uid ≤ 4294967295 ∧ 0 ≤ n.gid ∧ n.gid ≤ 4294967295))]; simp)
              have e0 : decide (n.kind < 1) = false := decide_eq_false h0
              have e1 : decide (3 < n.kind) = false := decide_eq_false h1
              have e2 : decide (n.mode < 0) = false := decide_eq_false h2
              have e3 : decide (511 < n.mode) = false := decide_eq_false h3
              have e4 : decide (n.uid < 0) = false := decide_eq_false h4
              have e5 : decide (4294967295 < n.uid) = true := decide_eq_true h5
              clear HD CT h0 h1 h2 h3 h4 h5
              go_enter Try.func49, Try.ntmps49
              go_wp2_with fail
              go_ret
              exact ⟨ret_bool HR.out.symm, hb⟩
            · by_cases h6 : n.gid < 0
              · have HR : Hid (plainB n = false) := Lib.hid (by rw [HD.out]; unfold rightsB; rw [decide_eq_false (by omega : ¬ (0 ≤ n.mode ∧ n.mode ≤ 511 ∧ 0 ≤ n.uid ∧ n.uid ≤ 4294967295 ∧ 0 ≤ n.gid ∧ n.gid ≤ 4294967295))]; simp)
                have e0 : decide (n.kind < 1) = false := decide_eq_false h0
                have e1 : decide (3 < n.kind) = false := decide_eq_false h1
                have e2 : decide (n.mode < 0) = false := decide_eq_false h2
                have e3 : decide (511 < n.mode) = false := decide_eq_false h3
                have e4 : decide (n.uid < 0) = false := decide_eq_false h4
                have e5 : decide (4294967295 < n.uid) = false := decide_eq_false h5
                have e6 : decide (n.gid < 0) = true := decide_eq_true h6
                clear HD CT h0 h1 h2 h3 h4 h5 h6
                go_enter Try.func49, Try.ntmps49
                go_wp2_with fail
                go_ret
                exact ⟨ret_bool HR.out.symm, hb⟩
              · by_cases h7 : 4294967295 < n.gid
                · have HR : Hid (plainB n = false) := Lib.hid (by rw [HD.out]; unfold rightsB; rw [decide_eq_false (by omega : ¬ (0 ≤ n.mode ∧ n.mode ≤ 511 ∧ 0 ≤ n.uid ∧ n.uid ≤ 4294967295 ∧ 0 ≤ n.gid ∧ n.gid ≤ 4294967295))]; simp)
                  have e0 : decide (n.kind < 1) = false := decide_eq_false h0
                  have e1 : decide (3 < n.kind) = false := decide_eq_false h1
                  have e2 : decide (n.mode < 0) = false := decide_eq_false h2
                  have e3 : decide (511 < n.mode) = false := decide_eq_false h3
                  have e4 : decide (n.uid < 0) = false := decide_eq_false h4
                  have e5 : decide (4294967295 < n.uid) = false := decide_eq_false h5
                  have e6 : decide (n.gid < 0) = false := decide_eq_false h6
                  have e7 : decide (4294967295 < n.gid) = true := decide_eq_true h7
                  clear HD CT h0 h1 h2 h3 h4 h5 h6 h7
                  go_enter Try.func49, Try.ntmps49
                  go_wp2_with fail
                  go_ret
                  exact ⟨ret_bool HR.out.symm, hb⟩
                · have e0 : decide (n.kind < 1) = false := decide_eq_false h0
                  have e1 : decide (3 < n.kind) = false := decide_eq_false h1
                  have e2 : decide (n.mode < 0) = false := decide_eq_false h2
                  have e3 : decide (511 < n.mode) = false := decide_eq_false h3
                  have e4 : decide (n.uid < 0) = false := decide_eq_false h4
                  have e5 : decide (4294967295 < n.uid) = false := decide_eq_false h5
                  have e6 : decide (n.gid < 0) = false := decide_eq_false h6
                  have e7 : decide (4294967295 < n.gid) = false := decide_eq_false h7
                  have HK : Hid (plainB n = targB n.kind n.target) := Lib.hid (by rw [HD.out]; unfold kindB rightsB; rw [decide_eq_true (by omega : 1 ≤ n.kind ∧ n.kind ≤ 3), decide_eq_true (by omega : 0 ≤ n.mode ∧ n.mode ≤ 511 ∧ 0 ≤ n.uid ∧ n.uid ≤ 4294967295 ∧ 0 ≤ n.gid ∧ n.gid ≤ 4294967295)]; rfl)
                  clear HD h0 h1 h2 h3 h4 h5 h6 h7
                  by_cases h3 : n.kind = 3
                  · have HR : Hid (plainB n = targetB n.target) := Lib.hid (by rw [HK.out]; exact if_pos h3)
                    have e8 : (n.kind == 3) = true := by simpa using h3
                    clear h3 HK
                    generalize targetB n.target = D at *
                    go_enter Try.func49, Try.ntmps49
                    go_wp2_with fail
                    refine (CT.out _).mono ?_
                    rintro e w' ⟨rfl, rfl⟩
                    go_wp2_with fail
                    go_ret
                    exact ⟨ret_bool HR.out.symm, hb⟩
                  · have HR : Hid (plainB n = decide (n.target.size = 0)) := Lib.hid (by rw [HK.out]; exact if_neg h3)
                    have e8 : (n.kind == 3) = false := by simpa using h3
                    have e9 := empty_size n.target
                    have e10 := empty_size2 n.target
                    generalize decide (n.target.size = 0) = D at *
                    clear h3 HK CT
                    go_enter Try.func49, Try.ntmps49
                    go_wp2_with fail
                    go_ret
                    exact ⟨ret_bool HR.out.symm, hb⟩
end Go.Proofs.Ytafnbpkdenjipaa.fl
