/-
  The table of types: ofNumber, Name, Single, Number of package record and of its reference; Types of both.
-/
import Derived.Test.YtdndngabddnpmaaGreatDoorRec
import Derived.Test.YtdndngabddnpmaaGreatDoorDec
import Derived.Deep.RegionHeld3
import Derived.Deep.MidRow
namespace Go.Proofs.YtdndngabddnpmaaGreatDoor.rd
open Go.RowKit Go.Proofs.YtdndngabddnpmaaGreatDoor.cm Go.Proofs.YtdndngabddnpmaaGreatDoor.vl

/-- the table's columns -/
def kNum (k : Nat) : Int := match kinds[k]? with | some x => x.2.1 | none => 0
def kNm (k : Nat) : ByteArray := match kinds[k]? with | some x => ⟨x.1.toArray⟩ | none => ⟨#[]⟩
def kSg (k : Nat) : Bool := match kinds[k]? with | some x => x.2.2 | none => false
/-- the name of a type, as a string -/
def nameB (t : Int) : ByteArray := ⟨(nameT t).toArray⟩
def numB (nm : ByteArray) : Int := numT nm.data.toList

theorem at_num {k : Nat} (hk : k < 10) {t : Int} (h : kNum k = t) : nameB t = kNm k ∧ singleT t = kSg k := by
  subst h
  have : ∀ k < 10, nameT (kNum k) = (kNm k).data.toList ∧ singleT (kNum k) = kSg k := by decide +kernel
  obtain ⟨h1, h2⟩ := this k hk
  exact ⟨by unfold nameB; rw [h1], h2⟩
theorem at_none {t : Int} (h : ∀ k, k < 10 → kNum k ≠ t) : nameB t = ⟨#[]⟩ ∧ singleT t = false ∧ (findT t).isSome = false := by
  have hn : findT t = none := by
    unfold findT
    rw [List.find?_eq_none]
    intro x hx
    obtain ⟨k, hk, rfl⟩ := List.getElem_of_mem hx
    have := h k hk
    have e : kNum k = (kinds[k]'hk).2.1 := by unfold kNum; rw [List.getElem?_eq_getElem hk]
    rw [e] at this
    simpa using this
  unfold nameB nameT singleT
  rw [hn]
  exact ⟨rfl, rfl, rfl⟩
theorem at_some {k : Nat} (hk : k < 10) {t : Int} (h : kNum k = t) : (findT t).isSome = true := by
  subst h
  have : ∀ k < 10, (findT (kNum k)).isSome = true := by decide +kernel
  exact this k hk
theorem at_name {k : Nat} (hk : k < 10) {s : ByteArray} (h : kNm k = s) : numB s = kNum k := by
  subst h
  have : ∀ k < 10, numT (kNm k).data.toList = kNum k := by decide +kernel
  exact this k hk
theorem at_noname {s : ByteArray} (h : ∀ k, k < 10 → kNm k ≠ s) : numB s = 0 := by
  have hn : (kinds.find? fun k => k.1 == s.data.toList) = none := by
    rw [List.find?_eq_none]
    intro x hx
    obtain ⟨k, hk, rfl⟩ := List.getElem_of_mem hx
    have := h k hk
    have e : kNm k = ⟨(kinds[k]'hk).1.toArray⟩ := by unfold kNm; rw [List.getElem?_eq_getElem hk]
    rw [e] at this
    intro hc
    apply this
    rw [beq_iff_eq.1 hc]
  unfold numB numT
  rw [hn]
theorem nm_beq (k : Nat) (s : ByteArray) : ((kNm k).toList == s.toList) = decide (kNm k = s) := by
  rw [ByteArray.toList_eq, ByteArray.toList_eq, Bool.eq_iff_iff]
  simp only [beq_iff_eq, decide_eq_true_eq]
  constructor
  · intro h
    apply ByteArray.ext
    exact Array.toList_inj.1 h
  · intro h; rw [h]

/-- the program's table, as cells -/
def recCells : List Value := (List.range 10).flatMap fun k => [.int .i64 (kNum k), .string (kNm k), .bool (kSg k)]
structure RecT (w : World) : Prop where
  at_ : w.rangeAt 0 0 recCells
  pos : 0 < w.heap.size
theorem RecT.below {B : Nat} {w w' : World} (h : RecT w) (hb : Below B w w') (hB : 0 < B) : RecT w' :=
  ⟨fun j v hj => (hb.cell (p := ⟨_, _, none⟩) hB).trans (h.at_ j v hj), Nat.lt_of_lt_of_le h.pos hb.size⟩

theorem idx_kind : ∀ (k : Nat), k < 10 → ∀ (w : World), (Instr.index 101 (.agg recCells.toArray) (.int .i64 (k : Int))).run Tryz.prog w = .ok (.agg #[.int .i64 (kNum k), .string (kNm k), .bool (kSg k)]) w
  | 0, _, _ => by kernel_rfl
  | 1, _, _ => by kernel_rfl
  | 2, _, _ => by kernel_rfl
  | 3, _, _ => by kernel_rfl
  | 4, _, _ => by kernel_rfl
  | 5, _, _ => by kernel_rfl
  | 6, _, _ => by kernel_rfl
  | 7, _, _ => by kernel_rfl
  | 8, _, _ => by kernel_rfl
  | 9, _, _ => by kernel_rfl
  | n + 10, h, _ => absurd h (by omega)

/-- what ofNumber answers -/
def OfN (t : Int) (w : World) (e : Ending) (w' : World) : Prop := ∃ n : Int, e = .returned (.agg #[.int .i64 n, .string (nameB t), .bool (singleT t)]) ∧ Below w.heap.size w w'

/-- no row before k has the number -/
def NoNum (k : Nat) (t : Int) : Prop := ∀ j, j < k → kNum j ≠ t
theorem NoNum.succ {k : Nat} {t : Int} (h : NoNum k t) (hk : kNum k ≠ t) : NoNum (k + 1) t := fun j hj => by
  by_cases e : j = k
  · rw [e]; exact hk
  · exact h j (by omega)
def NoNm (k : Nat) (s : ByteArray) : Prop := ∀ j, j < k → kNm j ≠ s
theorem NoNm.succ {k : Nat} {s : ByteArray} (h : NoNm k s) (hk : kNm k ≠ s) : NoNm (k + 1) s := fun j hj => by
  by_cases e : j = k
  · rw [e]; exact hk
  · exact h j (by omega)

/-- a block of three cells -/
structure Tri (w : World) (B : Nat) (a b c : Value) : Prop where
  c0 : w.cell? ⟨B, 0, none⟩ = some a
  c1 : w.cell? ⟨B, 1, none⟩ = some b
  c2 : w.cell? ⟨B, 2, none⟩ = some c
  f0 : w.frozen? ⟨B, 0, none⟩ = false
  f1 : w.frozen? ⟨B, 1, none⟩ = false
  f2 : w.frozen? ⟨B, 2, none⟩ = false
theorem tri_of {w : World} {B T : Nat} {a b c : Value} (h : w.heap[B]? = some (.cells #[a, b, c] T)) : Tri w B a b c :=
  ⟨by simp [World.cell?, h], by simp [World.cell?, h], by simp [World.cell?, h], by simp [World.frozen?, h], by simp [World.frozen?, h], by simp [World.frozen?, h]⟩
theorem tri_new (w : World) (T : Nat) (a b c : Value) : (w.alloc (.cells #[a, b, c] T)).heap[w.heap.size]? = some (.cells #[a, b, c] T) := by
  show (w.heap.push (.cells #[a, b, c] T))[w.heap.size]? = _
  simp
theorem Tri.lt {w : World} {B : Nat} {a b c : Value} (h : Tri w B a b c) : B < w.heap.size := World.block_lt_of_cell? w ⟨B, 0, none⟩ h.c0
theorem Tri.below {w w' : World} {B : Nat} {a b c : Value} (h : Tri w B a b c) (hb : Below w.heap.size w w') : Tri w' B a b c := by
  have hk := hb.block B h.lt
  have hc : ∀ j, w'.cell? ⟨B, j, none⟩ = w.cell? ⟨B, j, none⟩ := fun j => World.cell?_of_block (w := w) hk
  have hf : ∀ j, w'.frozen? ⟨B, j, none⟩ = w.frozen? ⟨B, j, none⟩ := fun j => World.frozen?_of_block (w := w) hk
  exact ⟨(hc 0).trans h.c0, (hc 1).trans h.c1, (hc 2).trans h.c2, (hf 0).trans h.f0, (hf 1).trans h.f1, (hf 2).trans h.f2⟩
theorem Tri.alloc {w : World} {B : Nat} {a b c : Value} (h : Tri w B a b c) (o : Obj) : Tri (w.alloc o) B a b c := h.below ((Below.refl _ _).alloc (Nat.le_refl _) _)
theorem Tri.set {w : World} {B : Nat} {a b c : Value} (h : Tri w B a b c) (x y z : Value) : Tri (((w.setCell ⟨B, 0, none⟩ x).setCell ⟨B, 1, none⟩ y).setCell ⟨B, 2, none⟩ z) B x y z := by
  obtain ⟨c0, c1, c2, f0, f1, f2⟩ := h
  constructor <;> simp [go_sem, c0, c1, c2, f0, f1, f2]

set_option maxRecDepth 100000 in
set_option maxHeartbeats 4000000 in
theorem ofNumber_any (t : Int) (w : World) (hT : RecT w) : Calls Tryz.prog 55 #[.int .i64 t] w (OfN t w) := by
  have FIN : Hid (∀ (k : Nat) (w' : World), k < 10 → kNum k = t → Below w.heap.size w w' → OfN t w (.returned (.agg #[.int .i64 (kNum k), .string (kNm k), .bool (kSg k)])) w') := Lib.hid (fun k w' hk he hb => ⟨kNum k, by rw [(at_num hk he).1, (at_num hk he).2], hb⟩)
  have FIN0 : Hid (∀ (w' : World), NoNum 10 t → Below w.heap.size w w' → OfN t w (.returned (.agg #[.int .i64 0, .string ⟨#[]⟩, .bool false])) w') := Lib.hid (fun w' h hb => ⟨0, by rw [(at_none h).1, (at_none h).2.1], hb⟩)
  have HR : Hid (∀ W, Below w.heap.size w W → W.rangeAt 0 0 recCells) := Lib.hid (fun W hb => (hT.below hb hT.pos).at_)
  clear hT
  go_enter Tryz.func55, Tryz.ntmps55
  go_wp2_with (first | (refine wpList_load_mid rfl 101 (.global 0) rfl 0 0 rfl recCells _ (HR.out _ ((Below.refl _ _).alloc (Nat.le_refl _) _)) Tryz.underlying101 rfl (by kernel_rfl) ?_) | fail)
  have bx := tri_of (tri_new w 92 (.int .i64 0) (.string ⟨#[]⟩) (.bool false))
  have hb1 : Below w.heap.size w (w.alloc (.cells #[.int .i64 0, .string ⟨#[]⟩, .bool false] 92)) := (Below.refl _ _).alloc (Nat.le_refl _) _
  have hs1 : (w.alloc (.cells #[.int .i64 0, .string ⟨#[]⟩, .bool false] 92)).heap.size = w.heap.size + 1 := by simp
  have HS := Lib.hid hs1
  clear hs1
  go_loopw [6] (fun i wr => ∃ k : Nat, k ≤ 10 ∧ i = .int .i64 k ∧ Hid (NoNum k t) ∧ Below w.heap.size w wr ∧ Tri wr w.heap.size (.int .i64 0) (.string ⟨#[]⟩) (.bool false)) (fun i _ => 10 - (intOf i).toNat)
  case atStart => exact ⟨0, Nat.zero_le _, rfl, Lib.hid (fun j hj => by omega), hb1, bx⟩
  case round =>
    obtain ⟨k, hk, rfl, HN, hb, tx⟩ := hrel
    by_cases hlt : k < 10
    · have hi := idx_kind k hlt
      have tx1 := tx.alloc (.cells #[.int .i64 (kNum k), .string (kNm k), .bool (kSg k)] 92)
      have hb2 := hb.alloc hb.size (.cells #[.int .i64 (kNum k), .string (kNm k), .bool (kSg k)] 92)
      have hlw := tx.lt
      by_cases he : kNum k = t
      · have e1 : (kNum k == t) = true := by simp [he]
        have HF := Lib.hid (fun w' hb => FIN.out k w' hlt he hb)
        have ty := (tx.set (.int .i64 (kNum k)) (.string (kNm k)) (.bool (kSg k))).alloc (.cells #[.int .i64 (kNum k), .string (kNm k), .bool (kSg k)] 92)
        obtain ⟨c0, c1, c2, f0, f1, f2⟩ := tx
        obtain ⟨d0, d1, d2, _, _, _⟩ := ty
        have hb3 := (((hb.setCell (p := ⟨w.heap.size, 0, none⟩) (Nat.le_refl _) (.int .i64 (kNum k))).setCell (p := ⟨w.heap.size, 1, none⟩) (Nat.le_refl _) (.string (kNm k))).setCell (p := ⟨w.heap.size, 2, none⟩) (Nat.le_refl _) (.bool (kSg k))).alloc (by simpa using hb.size) (.cells #[.int .i64 (kNum k), .string (kNm k), .bool (kSg k)] 92)
        clear he tx1 hb2
        go_wp2_with fail
        exact bodyPost_ret (v := .agg #[.int .i64 (kNum k), .string (kNm k), .bool (kSg k)]) (by simp [results, Tryz.f55, go_sem, d0, d1, d2]) rfl (HF.out _ hb3)
      · have e1 : (kNum k == t) = false := by simp [he]
        have HN2 := Lib.hid (HN.out.succ he)
        clear he
        go_wp2_with fail
        exact ⟨⟨k + 1, by omega, by go_num, HN2, hb2, tx1⟩, by simp [intOf]; omega⟩
    · obtain rfl : k = 10 := by omega
      have ty := tx.set (.int .i64 0) (.string ⟨#[]⟩) (.bool false)
      obtain ⟨c0, c1, c2, f0, f1, f2⟩ := tx
      obtain ⟨d0, d1, d2, _, _, _⟩ := ty
      have hb3 := ((hb.setCell (p := ⟨w.heap.size, 0, none⟩) (Nat.le_refl _) (.int .i64 0)).setCell (p := ⟨w.heap.size, 1, none⟩) (Nat.le_refl _) (.string ⟨#[]⟩)).setCell (p := ⟨w.heap.size, 2, none⟩) (Nat.le_refl _) (.bool false)
      go_wp2_with fail
      exact bodyPost_ret (v := .agg #[.int .i64 0, .string ⟨#[]⟩, .bool false]) (by simp [results, Tryz.f55, go_sem, d0, d1, d2]) rfl (FIN0.out _ HN.out hb3)

theorem fld1 (a b c : Value) (W : World) : (Instr.field 92 (.agg #[a, b, c]) 1).run Tryz.prog W = .ok b W := by kernel_rfl
theorem fld2 (a b c : Value) (W : World) : (Instr.field 92 (.agg #[a, b, c]) 2).run Tryz.prog W = .ok c W := by kernel_rfl

set_option maxRecDepth 100000 in
theorem Name_any (t : Int) (w : World) (hT : RecT w) : Calls Tryz.prog 36 #[.int .i64 t] w fun e w' => e = .returned (.string (nameB t)) ∧ Below w.heap.size w w' := by
  have C := Lib.hid (ofNumber_any t w hT)
  clear hT
  go_enter Tryz.func36, Tryz.ntmps36
  go_wp2_with fail
  refine C.out.mono ?_
  rintro e w' ⟨n, rfl, hb⟩
  have hf := fld1 (.int .i64 n) (.string (nameB t)) (.bool (singleT t)) w'
  go_wp2_with fail
  go_ret
  exact ⟨rfl, hb⟩

set_option maxRecDepth 100000 in
set_option maxHeartbeats 4000000 in
theorem Number_any (s : ByteArray) (w : World) (hT : RecT w) : Calls Tryz.prog 48 #[.string s] w fun e w' => e = .returned (.int .i64 (numB s)) ∧ Below w.heap.size w w' := by
  have HR : Hid (∀ W, Below w.heap.size w W → W.rangeAt 0 0 recCells) := Lib.hid (fun W hb => (hT.below hb hT.pos).at_)
  clear hT
  go_enter Tryz.func48, Tryz.ntmps48
  go_wp2_with (first | (refine wpList_load_mid rfl 101 (.global 0) rfl 0 0 rfl recCells _ (HR.out _ (Below.refl _ _)) Tryz.underlying101 rfl (by kernel_rfl) ?_) | fail)
  go_loopw [6] (fun i wr => ∃ k : Nat, k ≤ 10 ∧ i = .int .i64 k ∧ Hid (NoNm k s) ∧ Below w.heap.size w wr) (fun i _ => 10 - (intOf i).toNat)
  case atStart => exact ⟨0, Nat.zero_le _, rfl, Lib.hid (fun j hj => by omega), Below.refl _ _⟩
  case round =>
    obtain ⟨k, hk, rfl, HN, hb⟩ := hrel
    by_cases hlt : k < 10
    · have hi := idx_kind k hlt
      have hb2 := hb.alloc hb.size (.cells #[.int .i64 (kNum k), .string (kNm k), .bool (kSg k)] 92)
      have e1 := nm_beq k s
      by_cases he : kNm k = s
      · rw [decide_eq_true he] at e1
        have HF := Lib.hid (at_name hlt he)
        clear he
        go_wp2_with fail
        go_ret
        exact ⟨ret_int HF.out.symm, hb2⟩
      · rw [decide_eq_false he] at e1
        have HN2 := Lib.hid (HN.out.succ he)
        clear he
        go_wp2_with fail
        exact ⟨⟨k + 1, by omega, by go_num, HN2, hb2⟩, by simp [intOf]; omega⟩
    · obtain rfl : k = 10 := by omega
      have HF := Lib.hid (at_noname HN.out)
      go_wp2_with fail
      go_ret
      exact ⟨ret_int HF.out.symm, hb⟩

/-- the reference's table -/
structure KindsAt (w : World) (B : Nat) : Prop where
  at_ : ∀ k, k < 10 → w.cell? ⟨B, k * 3, none⟩ = some (.string (kNm k)) ∧ w.cell? ⟨B, k * 3 + 1, none⟩ = some (.int .i64 (kNum k)) ∧ w.cell? ⟨B, k * 3 + 2, none⟩ = some (.bool (kSg k))
theorem KindsAt.lt {w : World} {B : Nat} (h : KindsAt w B) : B < w.heap.size := World.block_lt_of_cell? w ⟨B, 0, none⟩ (h.at_ 0 (by decide)).1
theorem KindsAt.below {w w' : World} {B N : Nat} (h : KindsAt w B) (hb : Below N w w') (hB : B < N) : KindsAt w' B := ⟨fun k hk => by
  obtain ⟨a, b, c⟩ := h.at_ k hk
  exact ⟨(hb.cell (p := ⟨_, _, none⟩) hB).trans a, (hb.cell (p := ⟨_, _, none⟩) hB).trans b, (hb.cell (p := ⟨_, _, none⟩) hB).trans c⟩⟩
def kindCells : List Value := (List.range 10).flatMap fun k => [.string (kNm k), .int .i64 (kNum k), .bool (kSg k)]
theorem kindCells_at : ∀ k < 10, kindCells[k * 3]? = some (.string (kNm k)) ∧ kindCells[k * 3 + 1]? = some (.int .i64 (kNum k)) ∧ kindCells[k * 3 + 2]? = some (.bool (kSg k))
  | 0, _ => ⟨rfl, rfl, rfl⟩
  | 1, _ => ⟨rfl, rfl, rfl⟩
  | 2, _ => ⟨rfl, rfl, rfl⟩
  | 3, _ => ⟨rfl, rfl, rfl⟩
  | 4, _ => ⟨rfl, rfl, rfl⟩
  | 5, _ => ⟨rfl, rfl, rfl⟩
  | 6, _ => ⟨rfl, rfl, rfl⟩
  | 7, _ => ⟨rfl, rfl, rfl⟩
  | 8, _ => ⟨rfl, rfl, rfl⟩
  | 9, _ => ⟨rfl, rfl, rfl⟩
theorem kinds_at (w : World) (T : Nat) : KindsAt (w.alloc (.cells kindCells.toArray T)) w.heap.size := ⟨fun k hk => by
  obtain ⟨a, b, c⟩ := kindCells_at k hk
  have h : (w.alloc (.cells kindCells.toArray T)).heap[w.heap.size]? = some (.cells kindCells.toArray T) := by
    show (w.heap.push _)[w.heap.size]? = _
    simp
  refine ⟨?_, ?_, ?_⟩
  · rw [cell_of_row _ _ _ _ _ _ h, List.getElem?_toArray, a]
  · rw [cell_of_row _ _ _ _ _ _ h, List.getElem?_toArray, b]
  · rw [cell_of_row _ _ _ _ _ _ h, List.getElem?_toArray, c]⟩
theorem kindCells_eq : (#[.string ⟨#[85, 83, 69, 82]⟩, .int .i64 1005, .bool true, .string ⟨#[68, 65, 69, 77, 79, 78]⟩, .int .i64 1200, .bool true, .string ⟨#[83, 89, 83, 67, 65, 76, 76]⟩, .int .i64 1300, .bool false, .string ⟨#[80, 65, 84, 72]⟩, .int .i64 1302, .bool false,
    .string ⟨#[67, 79, 78, 70, 73, 71]⟩, .int .i64 1305, .bool true, .string ⟨#[83, 79, 67, 75, 65, 68, 68, 82]⟩, .int .i64 1306, .bool false, .string ⟨#[67, 87, 68]⟩, .int .i64 1307, .bool false, .string ⟨#[69, 88, 69, 67, 86, 69]⟩, .int .i64 1309, .bool false,
    .string ⟨#[69, 79, 69]⟩, .int .i64 1320, .bool false, .string ⟨#[76, 79, 83, 83]⟩, .int .i64 1331, .bool true] : Array Value) = kindCells.toArray := by rfl

/-- what kinds answers -/
def Kinds (w : World) (e : Ending) (w' : World) : Prop := e = .returned (.slice (some ⟨w.heap.size, 0, none⟩) 10 10) ∧ KindsAt w' w.heap.size ∧ Below w.heap.size w w'
set_option maxRecDepth 100000 in
theorem kinds_any (w : World) : Calls Tryz.prog 52 #[] w (Kinds w) := by
  have FIN : Hid (Kinds w (.returned (.slice (some ⟨w.heap.size, 0, none⟩) 10 10)) (w.alloc (.cells kindCells.toArray 73))) := Lib.hid ⟨rfl, kinds_at w _, (Below.refl _ _).alloc (Nat.le_refl _) _⟩
  go_enter Tryz.func52, Tryz.ntmps52
  go_wp2_with fail
  go_ret
  rw [kindCells_eq]
  exact FIN.out
end Go.Proofs.YtdndngabddnpmaaGreatDoor.rd