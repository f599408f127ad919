/-
  The source of numbers hands out a pair, whatever numbers the list holds; other memory stays.
-/
import Derived.Test.YtafnbpkdenjipaaSrc
import Derived.Test.YtafnbpkdenjipaaDec
namespace Go.Proofs.Ytafnbpkdenjipaa.sr
open Go.RowKit

/-- every block but b is as it was -/
structure Beside (b : Nat) (w w' : World) : Prop where
  os : w'.os = w.os
  tape : w'.tape = w.tape
  output : w'.output = w.output
  size : w.heap.size ≤ w'.heap.size
  block : ∀ k, k < w.heap.size → k ≠ b → w'.heap[k]? = w.heap[k]?

theorem Beside.refl (b : Nat) (w : World) : Beside b w w := ⟨rfl, rfl, rfl, Nat.le_refl _, fun _ _ _ => rfl⟩
theorem Beside.trans {b : Nat} {u v w : World} (h : Beside b u v) (k : Beside b v w) : Beside b u w :=
  ⟨k.os.trans h.os, k.tape.trans h.tape, k.output.trans h.output, Nat.le_trans h.size k.size, fun j hj hb => (k.block j (Nat.lt_of_lt_of_le hj h.size) hb).trans (h.block j hj hb)⟩
theorem Beside.of_below {b : Nat} {w w' : World} (h : Below w.heap.size w w') : Beside b w w' := ⟨h.os, h.tape, h.output, h.size, fun k hk _ => h.block k hk⟩
theorem Beside.alloc {b : Nat} {u w : World} (h : Beside b u w) (o : Obj) : Beside b u (w.alloc o) := h.trans (.of_below ((Below.refl _ _).alloc (Nat.le_refl _) _))
theorem Beside.drewN {b : Nat} {u w : World} (h : Beside b u w) (q : Nat) : Beside b u (w.drewN q) := h.trans ⟨rfl, rfl, rfl, Nat.le_refl _, fun _ _ _ => rfl⟩
theorem Beside.setOwn {b : Nat} {u w : World} (h : Beside b u w) (o : Nat) (v : Value) : Beside b u (w.setCell ⟨b, o, none⟩ v) :=
  h.trans ⟨rfl, rfl, rfl, by simp, fun k _ hk => Below.heap_setCell w ⟨b, o, none⟩ v k hk⟩
/-- a store to a block that was not there -/
theorem Beside.setNew {b : Nat} {u w : World} (h : Beside b u w) {c : Nat} (hc : u.heap.size ≤ c) (o : Nat) (v : Value) : Beside b u (w.setCell ⟨c, o, none⟩ v) :=
  ⟨h.os, h.tape, h.output, Nat.le_trans h.size (by simp), fun k hk hb => (Below.heap_setCell w ⟨c, o, none⟩ v k (by show k ≠ c; omega)).trans (h.block k hk hb)⟩
theorem Beside.below {b B : Nat} {w w' : World} (h : Beside b w w') (h1 : B ≤ b) (h2 : B ≤ w.heap.size) : Below B w w' := ⟨h.os, h.tape, h.output, h.size, fun k hk => h.block k (by omega) (by omega)⟩

/-- a block of four cells -/
structure Four (w : World) (B : Nat) (a b c d : Value) : Prop where
  c0 : w.cell? ⟨B, 0, none⟩ = some a
  c1 : w.cell? ⟨B, 1, none⟩ = some b
  c2 : w.cell? ⟨B, 2, none⟩ = some c
  c3 : w.cell? ⟨B, 3, none⟩ = some d
  f0 : w.frozen? ⟨B, 0, none⟩ = false
  f1 : w.frozen? ⟨B, 1, none⟩ = false
  f2 : w.frozen? ⟨B, 2, none⟩ = false
  f3 : w.frozen? ⟨B, 3, none⟩ = false
theorem Four.lt {w : World} {B : Nat} {a b c d : Value} (h : Four w B a b c d) : B < w.heap.size := World.block_lt_of_cell? w ⟨B, 0, none⟩ h.c0
theorem Four.beside {s : Nat} {w w' : World} {B : Nat} {a b c d : Value} (h : Four w B a b c d) (hb : Beside s w w') (hne : B ≠ s) : Four w' B a b c d := by
  have hk := hb.block B h.lt hne
  have hc : ∀ j, w'.cell? ⟨B, j, none⟩ = w.cell? ⟨B, j, none⟩ := fun j => World.cell?_of_block (w := w) hk
  have hf : ∀ j, w'.frozen? ⟨B, j, none⟩ = w.frozen? ⟨B, j, none⟩ := fun j => World.frozen?_of_block (w := w) hk
  exact ⟨(hc 0).trans h.c0, (hc 1).trans h.c1, (hc 2).trans h.c2, (hc 3).trans h.c3, (hf 0).trans h.f0, (hf 1).trans h.f1, (hf 2).trans h.f2, (hf 3).trans h.f3⟩
theorem four_of {w : World} {B T : Nat} {a b c d : Value} (h : w.heap[B]? = some (.cells #[a, b, c, d] T)) : Four w B a b c d :=
  ⟨by simp [World.cell?, h], by simp [World.cell?, h], by simp [World.cell?, h], by simp [World.cell?, h], by simp [World.frozen?, h], by simp [World.frozen?, h], by simp [World.frozen?, h], by simp [World.frozen?, h]⟩
theorem Four.new (w : World) (T : Nat) (a b c d : Value) : Four (w.alloc (.cells #[a, b, c, d] T)) w.heap.size a b c d := four_of (T := T) (by
  show (w.heap.push (.cells #[a, b, c, d] T))[w.heap.size]? = _
  simp)
theorem Four.all {w : World} {B : Nat} {a b c d : Value} (h : Four w B a b c d) (x y z u : Value) : Four ((((w.setCell ⟨B, 0, none⟩ x).setCell ⟨B, 1, none⟩ y).setCell ⟨B, 2, none⟩ z).setCell ⟨B, 3, none⟩ u) B x y z u := by
  obtain ⟨c0, c1, c2, c3, f0, f1, f2, f3⟩ := h
  constructor <;> simp [go_sem, c0, c1, c2, c3, f0, f1, f2, f3]
theorem Four.at2 {w : World} {B : Nat} {a b c d : Value} (h : Four w B a b c d) (z : Value) : Four (w.setCell ⟨B, 2, none⟩ z) B a b z d := by
  obtain ⟨c0, c1, c2, c3, f0, f1, f2, f3⟩ := h
  constructor <;> simp [go_sem, c0, c1, c2, c3, f0, f1, f2, f3]
theorem Four.at3 {w : World} {B : Nat} {a b c d : Value} (h : Four w B a b c d) (z : Value) : Four (w.setCell ⟨B, 3, none⟩ z) B a b c z := by
  obtain ⟨c0, c1, c2, c3, f0, f1, f2, f3⟩ := h
  constructor <;> simp [go_sem, c0, c1, c2, c3, f0, f1, f2, f3]
theorem Four.at02 {w : World} {B : Nat} {a b c d : Value} (h : Four w B a b c d) (x z : Value) : Four ((w.setCell ⟨B, 0, none⟩ x).setCell ⟨B, 2, none⟩ z) B x b z d := by
  obtain ⟨c0, c1, c2, c3, f0, f1, f2, f3⟩ := h
  constructor <;> simp [go_sem, c0, c1, c2, c3, f0, f1, f2, f3]
/-- another block's cell stored -/
theorem Four.other {w : World} {B : Nat} {a b c d : Value} (h : Four w B a b c d) {C o : Nat} (hne : B ≠ C) (v : Value) : Four (w.setCell ⟨C, o, none⟩ v) B a b c d := by
  have hk := Below.heap_setCell w ⟨C, o, none⟩ v B hne
  have hc : ∀ j, (w.setCell ⟨C, o, none⟩ v).cell? ⟨B, j, none⟩ = w.cell? ⟨B, j, none⟩ := fun j => World.cell?_of_block (w := w) hk
  have hf : ∀ j, (w.setCell ⟨C, o, none⟩ v).frozen? ⟨B, j, none⟩ = w.frozen? ⟨B, j, none⟩ := fun j => World.frozen?_of_block (w := w) hk
  exact ⟨(hc 0).trans h.c0, (hc 1).trans h.c1, (hc 2).trans h.c2, (hc 3).trans h.c3, (hf 0).trans h.f0, (hf 1).trans h.f1, (hf 2).trans h.f2, (hf 3).trans h.f3⟩

/-- the source behind whatever leaves its block alone -/
theorem SrcAt.keeps {W0 w w' : World} {b len cap k : Nat} {a : Option Addr} (h : SrcAt W0 w b a len cap k) (hb : Below W0.heap.size w w') (hk : w'.heap[b]? = w.heap[b]?) : SrcAt W0 w' b a len cap k :=
  ⟨h.nums, h.old.trans hb, h.own, hk.trans h.blk, h.few⟩
theorem SrcAt.alloc {W0 w : World} {b len cap k : Nat} {a : Option Addr} (h : SrcAt W0 w b a len cap k) (o : Obj) : SrcAt W0 (w.alloc o) b a len cap k := h.later ((Below.refl _ _).alloc (Nat.le_refl _) _)
theorem SrcAt.setNew {W0 w : World} {b len cap k : Nat} {a : Option Addr} (h : SrcAt W0 w b a len cap k) {c : Nat} (hc : W0.heap.size ≤ c) (hne : c ≠ b) (o : Nat) (v : Value) : SrcAt W0 (w.setCell ⟨c, o, none⟩ v) b a len cap k :=
  h.keeps ((Below.refl _ _).setCell (p := ⟨c, o, none⟩) hc _) (Below.heap_setCell w ⟨c, o, none⟩ v b (fun e => hne e.symm))

/-- what N answers, beside other memory -/
def NumB (W0 : World) (b : Nat) (a : Option Addr) (len cap k n : Nat) (w : World) (e : Ending) (w' : World) : Prop :=
  ∃ x : Nat, x < n ∧ e = .returned (.int .i64 (x : Int)) ∧ SrcAt W0 w' b a len cap (k + 1) ∧ Beside b w w'
theorem n_b (W0 w : World) (b : Nat) (a : Option Addr) (len cap k n : Nat) (h : SrcAt W0 w b a len cap k) (hk : k + 1 ≤ 100000) (hn : 1 ≤ n) (hn2 : n ≤ 100000) :
    Calls Try.prog 33 #[.pointer (some ⟨b, 0, none⟩), .int .i64 n] w (NumB W0 b a len cap k n w) :=
  (n_any W0 w b a len cap k n h hk hn hn2).mono fun e w' hd => by
    obtain ⟨x, hx, he, hs, q, rfl⟩ := hd
    exact ⟨x, hx, he, hs, ((Beside.refl b w).setOwn _ _).drewN q⟩

def StrB (W0 : World) (b : Nat) (a : Option Addr) (len cap k : Nat) (p : ByteArray → Prop) (w : World) (e : Ending) (w' : World) : Prop :=
  ∃ t : ByteArray, p t ∧ e = .returned (.string t) ∧ SrcAt W0 w' b a len cap k ∧ Beside b w w'
def IntB (W0 : World) (b : Nat) (a : Option Addr) (len cap k : Nat) (p : Int → Prop) (w : World) (e : Ending) (w' : World) : Prop :=
  ∃ x : Int, p x ∧ e = .returned (.int .i64 x) ∧ SrcAt W0 w' b a len cap k ∧ Beside b w w'

theorem Beside.cells {b : Nat} {w w' : World} (h : Beside b w w') {g : Nat} (hg : g ≠ b) (hlt : g < w.heap.size) (j : Nat) : w'.cell? ⟨g, j, none⟩ = w.cell? ⟨g, j, none⟩ := World.cell?_of_block (w := w) (h.block g hlt hg)

set_option maxHeartbeats 1000000 in
theorem word_b (W0 w : World) (b : Nat) (a : Option Addr) (len cap k : Nat) (h : SrcAt W0 w b a len cap k) (hk : k + 1 ≤ 100000) (g : Nat) (hg : g ≠ b) (hlt : g < w.heap.size) (n : Nat) (hn : 1 ≤ n) (hn2 : n ≤ 1000) (c : Nat) (p : ByteArray → Prop)
    (hc : ∀ j, j < n → ∃ x : ByteArray, w.cell? ⟨g, j, none⟩ = some (.string x) ∧ p x) :
    Calls Try.prog 38 #[.pointer (some ⟨b, 0, none⟩), .slice (some ⟨g, 0, none⟩) n c] w (StrB W0 b a len cap (k + 1) p w) := by
  have CN := Lib.hid (n_b W0 w b a len cap k n h hk hn (by omega))
  have HC := Lib.hid hc
  clear hc h
  go_enter Try.func38, Try.ntmps38
  go_wp2_with fail
  refine CN.out.mono ?_
  rintro e w' ⟨x, hx, rfl, hs, hb⟩
  obtain ⟨y, hy, hp⟩ := HC.out x hx
  have hy' : w'.cell? ⟨g, x, none⟩ = some (.string y) := (hb.cells hg hlt x).trans hy
  clear hy
  go_wp2_with fail
  go_ret
  exact ⟨y, hp, rfl, hs, hb⟩

set_option maxHeartbeats 1000000 in
theorem pick_b (W0 w : World) (b : Nat) (a : Option Addr) (len cap k : Nat) (h : SrcAt W0 w b a len cap k) (hk : k + 1 ≤ 100000) (g : Nat) (hg : g ≠ b) (hlt : g < w.heap.size) (n : Nat) (hn : 1 ≤ n) (hn2 : n ≤ 1000) (c : Nat) (p : Int → Prop)
    (hc : ∀ j, j < n → ∃ x : Int, w.cell? ⟨g, j, none⟩ = some (.int .i64 x) ∧ p x) :
    Calls Try.prog 30 #[.pointer (some ⟨b, 0, none⟩), .slice (some ⟨g, 0, none⟩) n c] w (IntB W0 b a len cap (k + 1) p w) := by
  have CN := Lib.hid (n_b W0 w b a len cap k n h hk hn (by omega))
  have HC := Lib.hid hc
  clear hc h
  go_enter Try.func30, Try.ntmps30
  go_wp2_with fail
  refine CN.out.mono ?_
  rintro e w' ⟨x, hx, rfl, hs, hb⟩
  obtain ⟨y, hy, hp⟩ := HC.out x hx
  have hy' : w'.cell? ⟨g, x, none⟩ = some (.int .i64 y) := (hb.cells hg hlt x).trans hy
  clear hy
  go_wp2_with fail
  go_ret
  exact ⟨y, hp, rfl, hs, hb⟩

set_option maxHeartbeats 1000000 in
/-- Range hands out a number from low to high -/
theorem range_b (W0 w : World) (b : Nat) (a : Option Addr) (len cap k : Nat) (h : SrcAt W0 w b a len cap k) (hk : k + 1 ≤ 100000) (low : Int) (d : Nat) (hl : -100000 ≤ low) (hl2 : low ≤ 100000) (hd : d ≤ 1000) (high : Int) (hh : high = low + d) :
    Calls Try.prog 36 #[.pointer (some ⟨b, 0, none⟩), .int .i64 low, .int .i64 high] w (IntB W0 b a len cap (k + 1) (fun x => low ≤ x ∧ x ≤ high) w) := by
  have CN := n_b W0 w b a len cap k (d + 1) h hk (by omega) (by omega)
  have e1 : (high - low + 1 : Int) = ((d + 1 : Nat) : Int) := by omega
  rw [← e1] at CN
  have CN := Lib.hid CN
  have FIN : Hid (∀ (x : Nat) (w' : World), x < d + 1 → SrcAt W0 w' b a len cap (k + 1) → Beside b w w' → IntB W0 b a len cap (k + 1) (fun x => low ≤ x ∧ x ≤ high) w (.returned (.int .i64 (low + x))) w') := Lib.hid (fun x w' hx hs hb => ⟨_, ⟨by omega, by omega⟩, rfl, hs, hb⟩)
  have b1 : high ≤ 200000 := by omega
  have b2 : -100000 ≤ high := by omega
  clear e1 hh h
  go_enter Try.func36, Try.ntmps36
  go_wp2_with fail
  refine CN.out.mono ?_
  rintro e w' ⟨x, hx, rfl, hs, hb⟩
  go_wp2_with fail
  go_ret
  exact FIN.out x w' hx hs hb

theorem src_new (w : World) (a : Option Addr) (len cap : Nat) (h : Nums w a len) : SrcAt w (w.alloc (.cells #[.slice a len cap, .int .i64 0] 74)) w.heap.size a len cap 0 :=
  ⟨h, (Below.refl _ _).alloc (Nat.le_refl _) _, Nat.le_refl _, by
    show (w.heap.push (.cells #[.slice a len cap, .int .i64 0] 74))[w.heap.size]? = _
    simp, by omega⟩

theorem Four.below {w w' : World} {B : Nat} {a b c d : Value} (h : Four w B a b c d) (hb : Below w.heap.size w w') : Four w' B a b c d := by
  have hk := hb.block B h.lt
  have hc : ∀ j, w'.cell? ⟨B, j, none⟩ = w.cell? ⟨B, j, none⟩ := fun j => World.cell?_of_block (w := w) hk
  have hf : ∀ j, w'.frozen? ⟨B, j, none⟩ = w.frozen? ⟨B, j, none⟩ := fun j => World.frozen?_of_block (w := w) hk
  exact ⟨(hc 0).trans h.c0, (hc 1).trans h.c1, (hc 2).trans h.c2, (hc 3).trans h.c3, (hf 0).trans h.f0, (hf 1).trans h.f1, (hf 2).trans h.f2, (hf 3).trans h.f3⟩
theorem Four.at0 {w : World} {B : Nat} {a b c d : Value} (h : Four w B a b c d) (x : Value) : Four (w.setCell ⟨B, 0, none⟩ x) B x b c d := by
  obtain ⟨c0, c1, c2, c3, f0, f1, f2, f3⟩ := h
  constructor <;> simp [go_sem, c0, c1, c2, c3, f0, f1, f2, f3]
end Go.Proofs.Ytafnbpkdenjipaa.sr
