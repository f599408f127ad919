/-
  record's reader: skip, until, number.
-/
import Derived.Test.YtdndngabddnpmaaGreatDoorPCut
import Derived.Test.YtdndngabddnpmaaGreatDoorSrcB
import Derived.Test.YtdndngabddnpmaaGreatDoorNumP
namespace Go.Proofs.YtdndngabddnpmaaGreatDoor.rd
open Go.RowKit Go.Proofs.YtdndngabddnpmaaGreatDoor.cm Go.Proofs.YtdndngabddnpmaaGreatDoor.vl Go.Proofs.YtdndngabddnpmaaGreatDoor.sr
attribute [local go_sem ↓] Go.wp_at_zero Go.wp_at_succ

/-- what Parse knows of the world -/
structure EnvP (w : World) : Prop where
  env : EnvR w
  e2 : Env2 w
  ml : ∃ m, w.cell? ⟨3, 0, none⟩ = some (.int .i64 m)
theorem EnvP.below {w w' : World} (h : EnvP w) (hb : Below w.heap.size w w') : EnvP w' := by
  obtain ⟨m, hm⟩ := h.ml
  exact ⟨h.env.below hb, h.e2.below hb, m, (hb.cell (p := ⟨3, 0, none⟩) (cell_lt hm)).trans hm⟩

/-- the reader's two cells -/
structure Two (w : World) (b : Nat) (s : ByteArray) (f : Bool) : Prop where
  c0 : w.cell? ⟨b, 0, none⟩ = some (.string s)
  c1 : w.cell? ⟨b, 1, none⟩ = some (.bool f)
  f0 : w.frozen? ⟨b, 0, none⟩ = false
  f1 : w.frozen? ⟨b, 1, none⟩ = false
theorem Two.lt {w : World} {b : Nat} {s : ByteArray} {f : Bool} (h : Two w b s f) : b < w.heap.size := cell_lt h.c0
theorem Two.of_block {w w' : World} {b : Nat} {s : ByteArray} {f : Bool} (h : Two w b s f) (hk : w'.heap[b]? = w.heap[b]?) : Two w' b s f := by
  have hc : ∀ j, w'.cell? ⟨b, j, none⟩ = w.cell? ⟨b, j, none⟩ := fun j => World.cell?_of_block (w := w) hk
  have hf : ∀ j, w'.frozen? ⟨b, j, none⟩ = w.frozen? ⟨b, j, none⟩ := fun j => World.frozen?_of_block (w := w) hk
  exact ⟨(hc 0).trans h.c0, (hc 1).trans h.c1, (hf 0).trans h.f0, (hf 1).trans h.f1⟩
theorem Two.below {w w' : World} {b : Nat} {s : ByteArray} {f : Bool} (h : Two w b s f) (hb : Below w.heap.size w w') : Two w' b s f := h.of_block (hb.block b h.lt)
theorem Two.set {w : World} {b : Nat} {s : ByteArray} {f : Bool} (h : Two w b s f) (s' : ByteArray) (f' : Bool) : Two ((w.setCell ⟨b, 0, none⟩ (.string s')).setCell ⟨b, 1, none⟩ (.bool f')) b s' f' := by
  obtain ⟨c0, c1, f0, f1⟩ := h
  constructor <;> simp [go_sem, c0, c1, f0, f1]
theorem Two.set1 {w : World} {b : Nat} {s : ByteArray} {f : Bool} (h : Two w b s f) (f' : Bool) : Two (w.setCell ⟨b, 1, none⟩ (.bool f')) b s f' := by
  obtain ⟨c0, c1, f0, f1⟩ := h
  constructor <;> simp [go_sem, c0, c1, f0, f1]
theorem Two.new (w : World) (T : Nat) (s : ByteArray) (f : Bool) : Two (w.alloc (.cells #[.string s, .bool f] T)) w.heap.size s f := by
  constructor <;> simp [go_sem]
theorem beside_set2 {b : Nat} {u w : World} (h : Beside b u w) (s : ByteArray) (f : Bool) : Beside b u ((w.setCell ⟨b, 0, none⟩ (.string s)).setCell ⟨b, 1, none⟩ (.bool f)) := (h.setOwn 0 _).setOwn 1 _

/-- what skip leaves -/
def SkipR (b : Nat) (s p : ByteArray) (f : Bool) (w : World) (e : Ending) (w' : World) : Prop :=
  (∃ v, e = .returned v) ∧ Two w' b (bs (Lib.trimPrefix s.data.toList p.data.toList)) (f || !(Lib.hasPrefix s.data.toList p.data.toList)) ∧ Beside b w w'
set_option maxRecDepth 100000 in
set_option maxHeartbeats 4000000 in
theorem skip_any (b : Nat) (s p : ByteArray) (f : Bool) (w : World) (h : Two w b s f) :
    Calls Tryz.prog 47 #[.pointer (some ⟨b, 0, none⟩), .string p] w (SkipR b s p f w) := by
  have C := Lib.hid (Tryz.strings_CutPrefix s p w)
  unfold SkipR
  rw [show (⟨(Lib.trimPrefix s.data.toList p.data.toList).toArray⟩ : ByteArray) = bs (Lib.trimPrefix s.data.toList p.data.toList) from rfl] at C
  generalize bs (Lib.trimPrefix s.data.toList p.data.toList) = X at *
  generalize Lib.hasPrefix s.data.toList p.data.toList = g at *
  have hT := Lib.hid (fun s' f' => h.set s' f')
  have hB := Lib.hid (fun s' f' => beside_set2 (Beside.refl b w) s' f')
  obtain ⟨c0, c1, f0, f1⟩ := h
  cases f <;> cases g
  all_goals
    go_enter Tryz.func47, Tryz.ntmps47
    go_wp2_with fail
    refine C.out.mono ?_
    rintro e w1 ⟨rfl, rfl⟩
    go_wp2_with fail
    go_end0
    exact ⟨⟨_, rfl⟩, hT.out _ _, hB.out _ _⟩

/-- what until answers -/
def UntilR (b : Nat) (s p : ByteArray) (f : Bool) (w : World) (e : Ending) (w' : World) : Prop :=
  e = .returned (.string (bs (Lib.cut s.data.toList p.data.toList).1)) ∧ Two w' b (bs (Lib.cut s.data.toList p.data.toList).2.1) (f || !(Lib.cut s.data.toList p.data.toList).2.2) ∧ Beside b w w'
set_option maxRecDepth 100000 in
set_option maxHeartbeats 4000000 in
theorem until_any (b : Nat) (s p : ByteArray) (f : Bool) (w : World) (h : Two w b s f) (hs : s.size ≤ 100000) (hm : ∃ m, w.cell? ⟨3, 0, none⟩ = some (.int .i64 m)) :
    Calls Tryz.prog 49 #[.pointer (some ⟨b, 0, none⟩), .string p] w (UntilR b s p f w) := by
  obtain ⟨m, hm⟩ := hm
  have C := Lib.hid (Tryz.strings_Cut s p m w (by omega) hm)
  clear hm
  unfold UntilR
  generalize Lib.cut s.data.toList p.data.toList = r at *
  obtain ⟨x, y, g⟩ := r
  dsimp only at C ⊢
  rw [show (⟨x.toArray⟩ : ByteArray) = bs x from rfl, show (⟨y.toArray⟩ : ByteArray) = bs y from rfl] at C
  generalize bs x = X at *
  generalize bs y = Y at *
  have hT := Lib.hid (fun n s' f' => (h.below (w' := w.drewN n) ⟨rfl, rfl, rfl, Nat.le_refl _, fun _ _ => rfl⟩).set s' f')
  have hB := Lib.hid (fun n s' f' => beside_set2 ((Beside.refl b w).drewN n) s' f')
  obtain ⟨c0, c1, f0, f1⟩ := h
  cases f <;> cases g
  all_goals
    go_enter Tryz.func49, Tryz.ntmps49
    go_wp2_with fail
    refine C.out.mono ?_
    rintro e w1 ⟨rfl, n, rfl⟩
    go_wp2_with fail
    go_ret
    exact ⟨rfl, hT.out _ _ _, hB.out _ _ _⟩

/-- what Atoi answers -/
def AtoiR (s : ByteArray) (w : World) (e : Ending) (w' : World) : Prop :=
  ∃ (v : Int) (er : Value), e = .returned (.tuple #[.int .i64 v, er]) ∧ ((er = .nilIface ∧ Lib.atoiAll s.data.toList = .ok v) ∨ ((∃ t p, er = .iface t (.pointer p)) ∧ ∀ n, Lib.atoiAll s.data.toList ≠ .ok n)) ∧ Below w.heap.size w w'
theorem atoi_any (s : ByteArray) (w : World) (hs : s.size ≤ 100000) (hE : Env2 w) :
    Calls Tryz.prog 65 #[.string s] w (AtoiR s w) := by
  obtain ⟨t1, p1, h1⟩ := hE.syn
  obtain ⟨t2, p2, h2⟩ := hE.rng
  cases ha : Lib.atoiAll s.data.toList
  case ok v =>
    refine (Tryz.strconv_Atoi_ok s (by omega) v ha w).mono ?_
    rintro e w1 ⟨rfl, hw⟩
    refine ⟨v, _, rfl, .inl ⟨rfl, ha⟩, ?_⟩
    rcases hw with rfl | ⟨t, rfl⟩
    · exact Below.refl _ _
    · exact Lib.bytesWorld_below _ _ _
  case range =>
    refine (Tryz.strconv_Atoi_range s (by omega) ha _ w h2 (.inr ⟨_, _, rfl⟩)).mono ?_
    rintro e w1 ⟨N, rfl, hN, hblk, hb⟩
    exact ⟨_, _, rfl, .inr ⟨⟨_, _, rfl⟩, fun n hn => by rw [ha] at hn; cases hn⟩, hb⟩
  all_goals
    refine (Any.strconv_Atoi_syntax Tryz.laysC172 s (by omega) ha _ w h1 (.inr ⟨_, _, rfl⟩)).mono ?_
    rintro e w1 ⟨N, rfl, hN, hblk, hb⟩
    exact ⟨_, _, rfl, .inr ⟨⟨_, _, rfl⟩, fun n hn => by rw [ha] at hn; cases hn⟩, hb⟩

/-- what number answers -/
def NumberR (b : Nat) (s p : ByteArray) (f : Bool) (w : World) (e : Ending) (w' : World) : Prop :=
  ∃ (v : Int) (f' : Bool), e = .returned (.int .i64 v) ∧ Two w' b (bs (Lib.cut s.data.toList p.data.toList).2.1) f' ∧ Beside b w w' ∧
    ∀ n, f = false → (Lib.cut s.data.toList p.data.toList).2.2 = true → Lib.atoiAll (Lib.cut s.data.toList p.data.toList).1 = .ok n → v = n ∧ f' = false
theorem cut_le (s p : List UInt8) : (Lib.cut s p).1.length ≤ s.length ∧ (Lib.cut s p).2.1.length ≤ s.length := by
  unfold Lib.cut
  split
  · simp; omega
  · simp
set_option maxRecDepth 100000 in
set_option maxHeartbeats 8000000 in
theorem number_any (b : Nat) (s p : ByteArray) (f : Bool) (w : World) (h : Two w b s f) (hs : s.size ≤ 100000) (hE : EnvP w) (hb0 : ∀ W, Beside b w W → EnvP W) :
    Calls Tryz.prog 50 #[.pointer (some ⟨b, 0, none⟩), .string p] w (NumberR b s p f w) := by
  have hcl : (bs (Lib.cut s.data.toList p.data.toList).1).size ≤ 100000 := by
    have := (cut_le s.data.toList p.data.toList).1
    rw [← Lib.size_eq] at this
    rw [bs_size]
    omega
  have CU := Lib.hid (until_any b s p f w h hs hE.ml)
  have CA := Lib.hid (fun W (hb : Beside b w W) => atoi_any _ W hcl (hb0 W hb).e2)
  unfold UntilR at CU
  unfold NumberR
  unfold AtoiR at CA
  rw [bs_data] at CA
  generalize Lib.cut s.data.toList p.data.toList = r at *
  obtain ⟨x, y, g⟩ := r
  dsimp only at CU CA ⊢
  generalize bs y = Y at *
  clear hs hE hb0 hcl h
  have FIN : Hid (∀ (v : Int) (f' : Bool) (W : World), Two W b Y f' → Beside b w W → (∀ n, f = false → g = true → Lib.atoiAll x = .ok n → v = n ∧ f' = false) → (∃ (v' : Int) (f' : Bool), Ending.returned (Value.int .i64 v) = .returned (.int .i64 v') ∧ Two W b Y f' ∧ Beside b w W ∧
    ∀ n, f = false → g = true → Lib.atoiAll x = .ok n → v' = n ∧ f' = false)) := Lib.hid (fun v f' W h1 h2 h3 => ⟨v, f', rfl, h1, h2, h3⟩)
  go_enter Tryz.func50, Tryz.ntmps50
  go_wp2_with fail
  refine CU.out.mono ?_
  rintro e w1 ⟨rfl, hT1, hb1⟩
  go_wp2_with fail
  refine (CA.out _ hb1).mono ?_
  rintro e w2 ⟨v, er, rfl, hcase, hb2⟩
  have hT2 := hT1.below hb2
  have hbb := hb1.trans (Beside.of_below hb2)
  have hT3 := Lib.hid (fun f' => hT2.set1 f')
  have hB3 := Lib.hid (fun f' => hbb.setOwn 1 (.bool f'))
  clear hT1 hb1 hb2 CU CA hbb
  obtain ⟨c0, c1, f0, f1⟩ := hT2
  rcases hcase with ⟨rfl, hok⟩ | ⟨⟨ty, ptr, rfl⟩, hno⟩
  · have HK : Hid (∀ f', f' = (f || !g) → ∀ n, f = false → g = true → Lib.atoiAll x = .ok n → v = n ∧ f' = false) := Lib.hid (fun f' hf n h1 h2 h3 => by
      rw [hok] at h3
      injection h3 with h3
      subst h1
      subst h2
      exact ⟨h3, hf⟩)
    clear hok
    cases hfg : (f || !g)
    all_goals
      rw [hfg] at c1
      go_wp2_with fail
      go_ret
      exact FIN.out _ _ _ (hT3.out _) (hB3.out _) (HK.out _ hfg.symm)
  · have HK : Hid (∀ f' n, f = false → g = true → Lib.atoiAll x = .ok n → v = n ∧ f' = false) := Lib.hid (fun f' n _ _ h3 => (hno n h3).elim)
    clear hno
    cases hfg : (f || !g)
    all_goals
      rw [hfg] at c1
      go_wp2_with fail
      go_ret
      exact FIN.out _ _ _ (hT3.out _) (hB3.out _) (HK.out _)
end Go.Proofs.YtdndngabddnpmaaGreatDoor.rd
