/-
  The source of numbers: what New, N, Pick and Word do, whatever numbers the list holds.
-/
import Derived.Test.YtafnbpkdenjipaaChecked
import Derived.WalkKit
import Derived.BigQuiet
import Derived.Deep.QuietTactic
import Derived.Lib.Hide
import Derived.WalkLawsBesides
import Derived.Outline
import Derived.RangeFuncBox
import Derived.OpenShut
import Derived.IntWalk
namespace Go.Proofs.Ytafnbpkdenjipaa.sr
open Go.RowKit

/-- the numbers of the list that came in: cells of old memory -/
def Nums (w : World) (a : Option Addr) (len : Nat) : Prop :=
  len = 0 ∨ ∃ b o, a = some ⟨b, o, none⟩ ∧ b < w.heap.size ∧ len ≤ 9223372036854775807 ∧ ∀ j, j < len → ∃ x : Int, w.cell? ⟨b, o + j, none⟩ = some (.int .i64 x) ∧ -9223372036854775808 ≤ x ∧ x ≤ 9223372036854775807

/-- a source in block b that has handed out k numbers -/
structure SrcAt (W0 w : World) (b : Nat) (a : Option Addr) (len cap k : Nat) : Prop where
  nums : Nums W0 a len
  old : Below W0.heap.size W0 w
  own : W0.heap.size ≤ b
  blk : w.heap[b]? = some (.cells #[.slice a len cap, .int .i64 (k : Int)] 74 (0, 0))
  few : k ≤ 100000

theorem SrcAt.cell0 {W0 w : World} {b len cap k : Nat} {a : Option Addr} (h : SrcAt W0 w b a len cap k) : w.cell? ⟨b, 0, none⟩ = some (.slice a len cap) := by simp [World.cell?, h.blk]
theorem SrcAt.cell1 {W0 w : World} {b len cap k : Nat} {a : Option Addr} (h : SrcAt W0 w b a len cap k) : w.cell? ⟨b, 1, none⟩ = some (.int .i64 k) := by simp [World.cell?, h.blk]
theorem SrcAt.free {W0 w : World} {b len cap k : Nat} {a : Option Addr} (h : SrcAt W0 w b a len cap k) : w.frozen? ⟨b, 1, none⟩ = false := by simp [World.frozen?, h.blk]
theorem SrcAt.lt {W0 w : World} {b len cap k : Nat} {a : Option Addr} (h : SrcAt W0 w b a len cap k) : b < w.heap.size := (Array.getElem?_eq_some_iff.1 h.blk).1

/-- a call leaves the source's block alone -/
theorem SrcAt.later {W0 w w' : World} {b len cap k : Nat} {a : Option Addr} (h : SrcAt W0 w b a len cap k) (hb : Below w.heap.size w w') : SrcAt W0 w' b a len cap k :=
  ⟨h.nums, h.old.trans (hb.mono h.old.size), h.own, (hb.block b h.lt).trans h.blk, h.few⟩

/-- the source hands out one more -/
theorem SrcAt.next {W0 w : World} {b len cap k : Nat} {a : Option Addr} (h : SrcAt W0 w b a len cap k) (hk : k + 1 ≤ 100000) (q : Nat) : SrcAt W0 ((w.setCell ⟨b, 1, none⟩ (.int .i64 ((k : Int) + 1))).drewN q) b a len cap (k + 1) := by
  refine ⟨h.nums, ?_, h.own, ?_, hk⟩
  · exact (h.old.setCell (p := ⟨b, 1, none⟩) h.own _).trans ⟨rfl, rfl, rfl, Nat.le_refl _, fun _ _ => rfl⟩
  · show (w.heap.modify b _)[b]? = _
    obtain ⟨hlt, hk⟩ := Array.getElem?_eq_some_iff.1 h.blk
    rw [Array.getElem?_eq_getElem (by rw [Array.size_modify]; exact hlt), Array.getElem_modify_self, hk]
    simp

/-- what N answers: some number below n; the source has moved on by one -/
def Drawn (W0 w : World) (b : Nat) (a : Option Addr) (len cap k n : Nat) (e : Ending) (w' : World) : Prop :=
  ∃ x : Nat, x < n ∧ e = .returned (.int .i64 (x : Int)) ∧ SrcAt W0 w' b a len cap (k + 1) ∧ ∃ q, w' = (w.setCell ⟨b, 1, none⟩ (.int .i64 ((k : Int) + 1))).drewN q

theorem new_any (a : Option Addr) (len cap : Nat) (w : World) :
    Calls Try.prog 13 #[.slice a len cap] w fun e w' => e = .returned (.pointer (some ⟨w.heap.size, 0, none⟩)) ∧ w' = w.alloc (.cells #[.slice a len cap, .int .i64 0] 74) := by
  go_enter Try.func13, Try.ntmps13
  go_wp2
  go_ret
  exact ⟨rfl, rfl⟩

set_option maxHeartbeats 2000000 in
theorem n_any (W0 w : World) (b : Nat) (a : Option Addr) (len cap k n : Nat) (h : SrcAt W0 w b a len cap k) (hk : k + 1 ≤ 100000) (hn : 1 ≤ n) (hn2 : n ≤ 100000) :
    Calls Try.prog 33 #[.pointer (some ⟨b, 0, none⟩), .int .i64 n] w (Drawn W0 w b a len cap k n) := by
  have c0 := h.cell0
  have c1 := h.cell1
  have f1 := h.free
  have h' := h.next hk 0
  have d0 : (w.setCell ⟨b, 1, none⟩ (.int .i64 ((k : Int) + 1))).cell? ⟨b, 0, none⟩ = some (.slice a len cap) := h'.cell0
  have d1 : (w.setCell ⟨b, 1, none⟩ (.int .i64 ((k : Int) + 1))).cell? ⟨b, 1, none⟩ = some (.int .i64 ((k : Int) + 1)) := h'.cell1
  have hn' : (1 : Int) ≤ (n : Int) := by omega
  have HF := Lib.hid (fun (x : Int) (hx : 0 ≤ x) (hx2 : x < n) (q : Nat) => (⟨x.toNat, by omega, by rw [Int.toNat_of_nonneg hx], h.next hk q, q, rfl⟩ : Drawn W0 w b a len cap k n (.returned (.int .i64 x)) ((w.setCell ⟨b, 1, none⟩ (.int .i64 ((k : Int) + 1))).drewN q)))
  clear h'
  by_cases hle : k + 1 ≤ len
  · obtain ⟨b0, o, rfl, hb0, hlen, hx⟩ : ∃ b0 o, a = some ⟨b0, o, none⟩ ∧ b0 < W0.heap.size ∧ len ≤ 9223372036854775807 ∧ ∀ j, j < len → ∃ x : Int, W0.cell? ⟨b0, o + j, none⟩ = some (.int .i64 x) ∧ -9223372036854775808 ≤ x ∧ x ≤ 9223372036854775807 := by
      rcases h.nums with h0 | h0
      · omega
      · exact h0
    obtain ⟨x, hcx, hx1, hx2⟩ := hx k (by omega)
    have e1 : (w.setCell ⟨b, 1, none⟩ (.int .i64 ((k : Int) + 1))).cell? ⟨b0, o + k, none⟩ = some (.int .i64 x) := by
      exact (((h.next hk 0).old).cell (p := ⟨b0, o + k, none⟩) hb0).trans hcx
    have hw1 : IntKind.i64.wrap ((k : Int) + 1 - 1) = (k : Int) := by rw [show (k : Int) + 1 - 1 = (k : Int) by omega]; exact IntWalk.i64_in _ (by omega)
    have hw2 : (0 : Int) ≤ (k : Int) := by omega
    have hw4 : (k : Int) < (len : Int) := by omega
    clear hx hcx h
    go_enter Try.func33, Try.ntmps33
    go_wp2
    go_quiet (fail)
    go_wp2
    go_quiet (fail)
    go_wp2
    all_goals go_ret
    · have hneg : x.tmod n < 0 := by assumption
      have h1 := Int.lt_tmod_of_pos x (show (0 : Int) < (n : Int) by omega)
      have e : wrap64 (x.tmod n + n) = x.tmod n + n := by unfold wrap64; omega
      rw [e]
      exact HF.out _ (by omega) (by omega) _
    · have hpos : 0 ≤ x.tmod n := by assumption
      exact HF.out _ hpos (Int.tmod_lt_of_pos _ (by omega)) _
  · clear h
    go_enter Try.func33, Try.ntmps33
    go_wp2
    go_quiet (fail)
    go_wp2
    go_ret
    exact HF.out _ (Int.emod_nonneg _ (by omega)) (Int.emod_lt_of_pos _ (by omega)) _

/-- what a call that hands out a string answers -/
def DrawnStr (W0 : World) (b : Nat) (a : Option Addr) (len cap k : Nat) (B : Nat) (w : World) (p : ByteArray → Prop) (e : Ending) (w' : World) : Prop :=
  ∃ t : ByteArray, p t ∧ e = .returned (.string t) ∧ SrcAt W0 w' b a len cap k ∧ Below B w w'

/-- what a call that hands out a number answers -/
def DrawnInt (W0 : World) (b : Nat) (a : Option Addr) (len cap k : Nat) (B : Nat) (w : World) (p : Int → Prop) (e : Ending) (w' : World) : Prop :=
  ∃ x : Int, p x ∧ e = .returned (.int .i64 x) ∧ SrcAt W0 w' b a len cap k ∧ Below B w w'

/-- N beside other memory: a source's block lies from B on -/
theorem drawn_below {W0 w w' : World} {b len cap k n B : Nat} {a : Option Addr} {e : Ending} (h : Drawn W0 w b a len cap k n e w') (hB : B ≤ b) :
    ∃ x : Nat, x < n ∧ e = .returned (.int .i64 (x : Int)) ∧ SrcAt W0 w' b a len cap (k + 1) ∧ Below B w w' ∧ (∀ c o, c ≠ b → w'.cell? ⟨c, o, none⟩ = w.cell? ⟨c, o, none⟩) := by
  obtain ⟨x, hx, he, hs, q, rfl⟩ := h
  refine ⟨x, hx, he, hs, ((Below.refl _ _).setCell (p := ⟨b, 1, none⟩) hB _).trans ⟨rfl, rfl, rfl, Nat.le_refl _, fun _ _ => rfl⟩, fun c o hc => ?_⟩
  have := Below.heap_setCell w ⟨b, 1, none⟩ (.int .i64 ((k : Int) + 1)) c hc
  exact World.cell?_of_block (w := w) this

set_option maxHeartbeats 1000000 in
/-- Pick hands out an element of a list that the caller has laid -/
theorem pick_any (W0 w : World) (b : Nat) (a : Option Addr) (len cap k : Nat) (h : SrcAt W0 w b a len cap k) (hk : k + 1 ≤ 100000) (g : Nat) (hg : g ≠ b) (n : Nat) (hn : 1 ≤ n) (hn2 : n ≤ 1000) (c : Nat) (p : Int → Prop)
    (hc : ∀ j, j < n → ∃ x : Int, w.cell? ⟨g, j, none⟩ = some (.int .i64 x) ∧ p x) (B : Nat) (hB : B ≤ b) :
    Calls Try.prog 30 #[.pointer (some ⟨b, 0, none⟩), .slice (some ⟨g, 0, none⟩) n c] w (DrawnInt W0 b a len cap (k + 1) B w p) := by
  have CN := Lib.hid (n_any W0 w b a len cap k n h hk hn (by omega))
  have HC := Lib.hid hc
  clear hc h
  go_enter Try.func30, Try.ntmps30
  go_wp2_with fail
  refine CN.out.mono ?_
  intro e w' hd
  obtain ⟨x, hx, rfl, hs, hb, hcell⟩ := drawn_below hd hB
  clear hd
  obtain ⟨y, hy, hp⟩ := HC.out x hx
  have hy' : w'.cell? ⟨g, x, none⟩ = some (.int .i64 y) := (hcell g x hg).trans hy
  have HCELL := Lib.hid hcell
  clear hcell hy
  go_wp2_with fail
  go_ret
  exact ⟨y, hp, rfl, hs, hb⟩

set_option maxHeartbeats 1000000 in
/-- Word hands out an element of a list of strings that the caller has laid -/
theorem word_any (W0 w : World) (b : Nat) (a : Option Addr) (len cap k : Nat) (h : SrcAt W0 w b a len cap k) (hk : k + 1 ≤ 100000) (g : Nat) (hg : g ≠ b) (n : Nat) (hn : 1 ≤ n) (hn2 : n ≤ 1000) (c : Nat) (p : ByteArray → Prop)
    (hc : ∀ j, j < n → ∃ x : ByteArray, w.cell? ⟨g, j, none⟩ = some (.string x) ∧ p x) (B : Nat) (hB : B ≤ b) :
    Calls Try.prog 38 #[.pointer (some ⟨b, 0, none⟩), .slice (some ⟨g, 0, none⟩) n c] w (DrawnStr W0 b a len cap (k + 1) B w p) := by
  have CN := Lib.hid (n_any W0 w b a len cap k n h hk hn (by omega))
  have HC := Lib.hid hc
  clear hc h
  go_enter Try.func38, Try.ntmps38
  go_wp2_with fail
  refine CN.out.mono ?_
  intro e w' hd
  obtain ⟨x, hx, rfl, hs, hb, hcell⟩ := drawn_below hd hB
  clear hd
  obtain ⟨y, hy, hp⟩ := HC.out x hx
  have hy' : w'.cell? ⟨g, x, none⟩ = some (.string y) := (hcell g x hg).trans hy
  have HCELL := Lib.hid hcell
  clear hcell hy
  go_wp2_with fail
  go_ret
  exact ⟨y, hp, rfl, hs, hb⟩
end Go.Proofs.Ytafnbpkdenjipaa.sr
