/-
  Parse of the reference reads every line as the plain parser does; both Parse answer alike, for any text (of package record).
-/
import Derived.Test.YtdndngabddnpmaaGreatDoorRdR
import Derived.Test.YtdndngabddnpmaaGreatDoorRRFmt
import Derived.Test.YtdndngabddnpmaaGreatDoorRTab
import Derived.Test.YtdndngabddnpmaaGreatDoorRParseP
import Derived.Test.YtdndngabddnpmaaGreatDoorRCut
import Derived.Deep.DeepCutAuto
import Derived.Deep.CutBlock
import Derived.StillTailTactics
import Derived.Test.YtdndngabddnpmaaGreatDoorRAgree
namespace Go.Proofs.YtdndngabddnpmaaGreatDoor.rd
open Go.RowKit Go.Proofs.YtdndngabddnpmaaGreatDoor.cm Go.Proofs.YtdndngabddnpmaaGreatDoor.vl Go.Proofs.YtdndngabddnpmaaGreatDoor.sr
attribute [local go_sem ↓] Go.wp_at_zero Go.wp_at_succ

def badW (L : List (List UInt8)) : Prop := L.length < 2 ∨ 26 < L.length ∨ (L.getD 0 []).length < 5 ∨ (L.getD 1 []).length < 12 ∨ 60 < (L.getD 1 []).length
theorem par_bad {l : List UInt8} (h : badW (rg.cutAt 32 l)) : parR l = none := by
  unfold parR
  split
  · rfl
  · unfold badW at h
    rw [if_pos h]
theorem par_guess {l : List UInt8} {r : RecP} (hl : l.length ≤ 31240) (h : ¬ badW (rg.cutAt 32 l)) (hg : guessR (rg.cutAt 32 l) = some r) : parR l = if fmtR r = some l then some r else none := by
  unfold parR
  unfold badW at h
  rw [if_neg (by omega), if_neg h, hg]
theorem par_noguess {l : List UInt8} (hl : l.length ≤ 31240) (hg : guessR (rg.cutAt 32 l) = none) : parR l = none := by
  unfold parR
  rw [if_neg (by omega)]
  split
  · rfl
  · rw [hg]
theorem cutB_bs (s : ByteArray) : rg.cutB 32 s = (rg.cutAt 32 s.data.toList).map bs := rfl

/-- the words of a line, as the reference holds them -/
structure WordsAt (w : World) (g n : Nat) (W0 W1 : ByteArray) (L : List (List UInt8)) : Prop where
  len : L.length = n
  w0 : W0 = bs (L.getD 0 [])
  w1 : W1 = bs (L.getD 1 [])
  at_ : ∀ j, j < n → w.cell? ⟨g, j, none⟩ = some (.string (bs (L.getD j [])))
theorem words_at {w : World} {B g n cap : Nat} {L : List (List UInt8)} (h : w.ownsRow B 9 1 (.slice (some ⟨g, 0, none⟩) n cap) n ((L.map bs).map Value.string)) (hn : L.length = n) : WordsAt w g n (bs (L.getD 0 [])) (bs (L.getD 1 [])) L := by
  refine ⟨hn, rfl, rfl, fun j hj => ?_⟩
  rw [h.cellAt j (by omega), List.getElem?_map, List.getElem?_map, List.getElem?_eq_getElem (by omega)]
  simp [List.getD, List.getElem?_eq_getElem (show j < L.length by omega)]
theorem WordsAt.bad {w : World} {g n : Nat} {W0 W1 : ByteArray} {L : List (List UInt8)} (h : WordsAt w g n W0 W1 L) : badW L ↔ (n < 2 ∨ 26 < n ∨ W0.size < 5 ∨ W1.size < 12 ∨ 60 < W1.size) := by
  rw [h.w0, h.w1, bs_size, bs_size, ← h.len]
  exact Iff.rfl
theorem WordsAt.c0 {w : World} {g n : Nat} {W0 W1 : ByteArray} {L : List (List UInt8)} (h : WordsAt w g n W0 W1 L) (hn : 1 ≤ n) : w.cell? ⟨g, 0, none⟩ = some (.string W0) := by rw [h.at_ 0 (by omega), h.w0]
theorem WordsAt.c1 {w : World} {g n : Nat} {W0 W1 : ByteArray} {L : List (List UInt8)} (h : WordsAt w g n W0 W1 L) (hn : 2 ≤ n) : w.cell? ⟨g, 1, none⟩ = some (.string W1) := by rw [h.at_ 1 (by omega), h.w1]

-- the stamp, read byte by byte
theorem drop_at {D : List UInt8} {k : Nat} (h : k < D.length) : D.drop k = D[k] :: D.drop (k + 1) := List.drop_eq_getElem_cons h
theorem readT_step {D : List UInt8} {k : Nat} (h : k < D.length) (a : Nat) : readT (D.drop k) a = if D[k] = 58 then a else readT (D.drop (k + 1)) (if vl.digB D[k] = true ∧ a ≤ 1099511627776 then a * 10 + (D[k].toNat - 48) else a) := by
  rw [drop_at h]
  rfl
theorem readT_end {D : List UInt8} {k : Nat} (h : D.length ≤ k) (a : Nat) : readT (D.drop k) a = a := by
  rw [List.drop_eq_nil_of_le h]
  rfl
theorem readS_step {D : List UInt8} {k : Nat} (h : k < D.length) (a : Nat) : readS (D.drop k) a = if 1073741824 < a then a else readS (D.drop (k + 1)) (if vl.digB D[k] = true then a * 10 + (D[k].toNat - 48) else a) := by
  rw [drop_at h]
  rfl
theorem readS_end {D : List UInt8} {k : Nat} (h : D.length ≤ k) (a : Nat) : readS (D.drop k) a = a := by
  rw [List.drop_eq_nil_of_le h]
  rfl
theorem readS_big (l : List UInt8) {a : Nat} (h : 1073741824 < a) : readS l a = a := by
  cases l with
  | nil => rfl
  | cons c r => rw [readS, if_pos h]
theorem from_step {D : List UInt8} {k : Nat} (h : k < D.length) (hc : D[k] ≠ 58) : fromColon (D.drop k) = fromColon (D.drop (k + 1)) := by
  rw [drop_at h]
  unfold fromColon
  rw [List.dropWhile_cons, if_pos (by simpa using hc)]
theorem from_at {D : List UInt8} {k : Nat} (h : k < D.length) (hc : D[k] = 58) : fromColon (D.drop k) = D.drop k := by
  rw [drop_at h]
  unfold fromColon
  rw [List.dropWhile_cons, if_neg (by simp [hc])]
theorem from_end {D : List UInt8} {k : Nat} (h : D.length ≤ k) : fromColon (D.drop k) = D.drop k := by
  rw [List.drop_eq_nil_of_le h]
  rfl
end Go.Proofs.YtdndngabddnpmaaGreatDoor.rd

namespace Go.Proofs.YtdndngabddnpmaaGreatDoor.rd
open Go.RowKit Go.Proofs.YtdndngabddnpmaaGreatDoor.cm Go.Proofs.YtdndngabddnpmaaGreatDoor.vl Go.Proofs.YtdndngabddnpmaaGreatDoor.sr
attribute [local go_sem ↓] Go.wp_at_zero Go.wp_at_succ

set_option maxRecDepth 100000 in
set_option maxHeartbeats 16000000 in
theorem rrParse_bad (s : ByteArray) (w : World) (hl : s.size ≤ 31240) (hb : badW (rg.cutAt 32 s.data.toList)) :
    Calls Tryz.prog 14 #[.string s] w (ParseR s w) := by
  have hpn := par_bad hb
  have FZ : Hid (∀ w', Below w.heap.size w w' → ParseR s w (.returned (.tuple #[.agg #[.int .i64 0, .int .i64 0, .int .i64 0, .slice none 0 0], .int .i64 34])) w') :=
    Lib.hid (fun w' hb => ⟨0, 0, 0, none, 0, [], 34, rfl, PairsAt.nil _ _, ⟨Nat.le_refl _, by simp⟩, hb, .inr ⟨rfl, hpn, rfl, rfl, rfl, rfl⟩⟩)
  have F0 := Four.new w 29 (.int .i64 0) (.int .i64 0) (.int .i64 0) (.slice none 0 0)
  have bA := (Below.refl w.heap.size w).alloc (Nat.le_refl _) (.cells #[.int .i64 0, .int .i64 0, .int .i64 0, .slice none 0 0] 29)
  have hli : (s.size : Int) ≤ 31240 := by omega
  have C1 := Lib.hid (cm.rcut_any s 32 (w.alloc (.cells #[.int .i64 0, .int .i64 0, .int .i64 0, .slice none 0 0] 29)) (by omega))
  have HBD := Lib.hid hb
  rw [cutB_bs, show (((32 : UInt8).toNat : Nat) : Int) = 32 from rfl] at C1
  clear hl hpn hb
  go_enter Tryz.func14, Tryz.ntmps14
  go_wp2_with fail
  refine C1.out.mono ?_
  rintro e w1 ⟨v, rfl, hown, b1⟩
  have hne : 0 < (rg.cutAt 32 s.data.toList).length := List.length_pos_iff.2 (rg.cutAt_ne 32 _)
  generalize rg.cutAt 32 s.data.toList = L at *
  unfold OwnStrs at hown
  rw [List.length_map] at hown
  generalize hn : L.length = n at hown hne
  obtain ⟨g, cap, rfl, hgl, hgw⟩ := World.ownsRow.form hown hne
  have hW := words_at hown hn
  generalize bs (L.getD 0 []) = W0 at hW
  generalize bs (L.getD 1 []) = W1 at hW
  have HBW := Lib.hid (hW.bad.1 HBD.out)
  have E0 := Lib.hid hW.c0
  have E1 := Lib.hid hW.c1
  have F1 := F0.below b1
  have bB := bA.trans (b1.mono (by simp))
  have hl1 : w.heap.size < w1.heap.size := F1.lt
  clear b1 bA F0 C1 hown hW hn HBD
  by_cases c1 : n < 2
  · skip
    have hbW := Lib.hid (below_set4 bB (Nat.le_refl w.heap.size) (.int .i64 0) (.int .i64 0) (.int .i64 0) (.slice none 0 0))
    have G0 := F1.all (.int .i64 0) (.int .i64 0) (.int .i64 0) (.slice none 0 0)
    obtain ⟨a0, a1, a2, a3, _, _, _, _⟩ := F1
    obtain ⟨q0, q1, q2, q3, _, _, _, _⟩ := G0
    have t1 : decide ((n : Int) < 2) = true := by simp; omega
    clear bB HBW E0 E1 hgl
    go_wp2_with fail
    exact bodyPost_ret (v := .tuple #[.agg #[.int .i64 0, .int .i64 0, .int .i64 0, .slice none 0 0], .int .i64 34]) (by simp [results, Tryz.f14, go_sem, q0, q1, q2, q3]) rfl (FZ.out _ hbW.out)
  · by_cases c2 : 26 < n
    · skip
      have hbW := Lib.hid (below_set4 bB (Nat.le_refl w.heap.size) (.int .i64 0) (.int .i64 0) (.int .i64 0) (.slice none 0 0))
      have G0 := F1.all (.int .i64 0) (.int .i64 0) (.int .i64 0) (.slice none 0 0)
      obtain ⟨a0, a1, a2, a3, _, _, _, _⟩ := F1
      obtain ⟨q0, q1, q2, q3, _, _, _, _⟩ := G0
      have t1 : decide ((n : Int) < 2) = false := by simp; omega
      have t2 : decide (26 < (n : Int)) = true := by simp; omega
      clear bB HBW E0 E1 hgl
      go_wp2_with fail
      exact bodyPost_ret (v := .tuple #[.agg #[.int .i64 0, .int .i64 0, .int .i64 0, .slice none 0 0], .int .i64 34]) (by simp [results, Tryz.f14, go_sem, q0, q1, q2, q3]) rfl (FZ.out _ hbW.out)
    · have d0 := E0.out (by omega)
      have d1 := E1.out (by omega)
      by_cases c3 : W0.size < 5
      · skip
        have hbW := Lib.hid (below_set4 bB (Nat.le_refl w.heap.size) (.int .i64 0) (.int .i64 0) (.int .i64 0) (.slice none 0 0))
        have G0 := F1.all (.int .i64 0) (.int .i64 0) (.int .i64 0) (.slice none 0 0)
        obtain ⟨a0, a1, a2, a3, _, _, _, _⟩ := F1
        obtain ⟨q0, q1, q2, q3, _, _, _, _⟩ := G0
        have t1 : decide ((n : Int) < 2) = false := by simp; omega
        have t2 : decide (26 < (n : Int)) = false := by simp; omega
        have t3 : decide ((W0.size : Int) < 5) = true := by simp; omega
        clear bB HBW E0 E1 hgl
        go_wp2_with fail
        exact bodyPost_ret (v := .tuple #[.agg #[.int .i64 0, .int .i64 0, .int .i64 0, .slice none 0 0], .int .i64 34]) (by simp [results, Tryz.f14, go_sem, q0, q1, q2, q3]) rfl (FZ.out _ hbW.out)
      · by_cases c4 : W1.size < 12
        · skip
          have hbW := Lib.hid (below_set4 bB (Nat.le_refl w.heap.size) (.int .i64 0) (.int .i64 0) (.int .i64 0) (.slice none 0 0))
          have G0 := F1.all (.int .i64 0) (.int .i64 0) (.int .i64 0) (.slice none 0 0)
          obtain ⟨a0, a1, a2, a3, _, _, _, _⟩ := F1
          obtain ⟨q0, q1, q2, q3, _, _, _, _⟩ := G0
          have t1 : decide ((n : Int) < 2) = false := by simp; omega
          have t2 : decide (26 < (n : Int)) = false := by simp; omega
          have t3 : decide ((W0.size : Int) < 5) = false := by simp; omega
          have t4 : decide ((W1.size : Int) < 12) = true := by simp; omega
          clear bB HBW E0 E1 hgl
          go_wp2_with fail
          exact bodyPost_ret (v := .tuple #[.agg #[.int .i64 0, .int .i64 0, .int .i64 0, .slice none 0 0], .int .i64 34]) (by simp [results, Tryz.f14, go_sem, q0, q1, q2, q3]) rfl (FZ.out _ hbW.out)
        · have c5 : 60 < W1.size := by have := HBW.out; omega
          have hbW := Lib.hid (below_set4 bB (Nat.le_refl w.heap.size) (.int .i64 0) (.int .i64 0) (.int .i64 0) (.slice none 0 0))
          have G0 := F1.all (.int .i64 0) (.int .i64 0) (.int .i64 0) (.slice none 0 0)
          obtain ⟨a0, a1, a2, a3, _, _, _, _⟩ := F1
          obtain ⟨q0, q1, q2, q3, _, _, _, _⟩ := G0
          have t1 : decide ((n : Int) < 2) = false := by simp; omega
          have t2 : decide (26 < (n : Int)) = false := by simp; omega
          have t3 : decide ((W0.size : Int) < 5) = false := by simp; omega
          have t4 : decide ((W1.size : Int) < 12) = false := by simp; omega
          have t5 : decide (60 < (W1.size : Int)) = true := by simp; omega
          clear bB HBW E0 E1 hgl
          go_wp2_with fail
          exact bodyPost_ret (v := .tuple #[.agg #[.int .i64 0, .int .i64 0, .int .i64 0, .slice none 0 0], .int .i64 34]) (by simp [results, Tryz.f14, go_sem, q0, q1, q2, q3]) rfl (FZ.out _ hbW.out)

end Go.Proofs.YtdndngabddnpmaaGreatDoor.rd

namespace Go.Proofs.YtdndngabddnpmaaGreatDoor.rd
open Go.RowKit Go.Proofs.YtdndngabddnpmaaGreatDoor.cm Go.Proofs.YtdndngabddnpmaaGreatDoor.vl Go.Proofs.YtdndngabddnpmaaGreatDoor.sr
attribute [local go_sem ↓] Go.wp_at_zero Go.wp_at_succ

theorem pairsO_words (l : List (List UInt8)) : pairsO (l.map bs) = l.mapM parP := by
  unfold pairsO
  rw [List.mapM_map]
  congr 1

theorem _root_.Go.Proofs.YtdndngabddnpmaaGreatDoor.sr.Four.of_block {w w' : World} {B : Nat} {a b c d : Value} (h : Four w B a b c d) (hk : w'.heap[B]? = w.heap[B]?) : Four w' B a b c d := by
  have hc : ∀ j, w'.cell? ⟨B, j, none⟩ = w.cell? ⟨B, j, none⟩ := fun j => World.cell?_of_block (w := w) hk
  have hf : ∀ j, w'.frozen? ⟨B, j, none⟩ = w.frozen? ⟨B, j, none⟩ := fun j => World.frozen?_of_block (w := w) hk
  exact ⟨(hc 0).trans h.c0, (hc 1).trans h.c1, (hc 2).trans h.c2, (hc 3).trans h.c3, (hf 0).trans h.f0, (hf 1).trans h.f1, (hf 2).trans h.f2, (hf 3).trans h.f3⟩
theorem _root_.Go.Proofs.YtdndngabddnpmaaGreatDoor.sr.Four.at1 {w : World} {B : Nat} {a b c d : Value} (h : Four w B a b c d) (y : Value) : Four (w.setCell ⟨B, 1, none⟩ y) B a y c d := by
  obtain ⟨c0, c1, c2, c3, f0, f1, f2, f3⟩ := h
  constructor <;> simp [go_sem, c0, c1, c2, c3, f0, f1, f2, f3]

theorem _root_.Go.Proofs.YtdndngabddnpmaaGreatDoor.sr.Four.drew {w : World} {B : Nat} {a b c d : Value} (h : Four w B a b c d) : Four w.drew B a b c d := ⟨h.c0, h.c1, h.c2, h.c3, h.f0, h.f1, h.f2, h.f3⟩

set_option maxRecDepth 100000 in
set_option maxHeartbeats 16000000 in
theorem rrParse_core (s : ByteArray) (w : World) (hl : s.size ≤ 31240) (hb : ¬ badW (rg.cutAt 32 s.data.toList)) :
    Calls Tryz.prog 14 #[.string s] w (ParseR s w) := by
  have F0 := Four.new w 29 (.int .i64 0) (.int .i64 0) (.int .i64 0) (.slice none 0 0)
  have bA := (Below.refl w.heap.size w).alloc (Nat.le_refl _) (.cells #[.int .i64 0, .int .i64 0, .int .i64 0, .slice none 0 0] 29)
  have hli : (s.size : Int) ≤ 31240 := by omega
  have C1 := Lib.hid (cm.rcut_any s 32 (w.alloc (.cells #[.int .i64 0, .int .i64 0, .int .i64 0, .slice none 0 0] 29)) (by omega))
  have HBD := Lib.hid hb
  have hll : s.data.toList.length ≤ 31240 := by have := Lib.size_eq s; omega
  have PG := Lib.hid (fun r hg => par_guess (r := r) hll hb hg)
  have PN := Lib.hid (fun hg => par_noguess hll hg)
  have FZ : Hid (∀ w', parR s.data.toList = none → Below w.heap.size w w' → ParseR s w (.returned (.tuple #[.agg #[.int .i64 0, .int .i64 0, .int .i64 0, .slice none 0 0], .int .i64 34])) w') :=
    Lib.hid (fun w' hp hb => ⟨0, 0, 0, none, 0, [], 34, rfl, PairsAt.nil _ _, ⟨Nat.le_refl _, by simp⟩, hb, .inr ⟨rfl, hp, rfl, rfl, rfl, rfl⟩⟩)
  have FO : Hid (∀ (t tm sr : Int) (va : Option Addr) (n cap : Nat) (ps : List PairP) (w' : World), n = ps.length → PairsAt w' va ps → ps.length ≤ cap → ps.length ≤ 100000 → Below w.heap.size w w' → parR s.data.toList = some ⟨t, tm, sr, ps⟩ → ParseR s w (.returned (.tuple #[.agg #[.int .i64 t, .int .i64 tm, .int .i64 sr, .slice va n cap], .int .i64 0])) w') :=
    Lib.hid (fun t tm sr va n cap ps w' h0 h1 h2 h3 h4 h5 => by subst h0; exact ⟨t, tm, sr, va, cap, ps, 0, rfl, h1, ⟨h2, h3⟩, h4, .inl ⟨rfl, h5⟩⟩)
  rw [cutB_bs, show (((32 : UInt8).toNat : Nat) : Int) = 32 from rfl] at C1
  clear hl hb hll
  go_enter Tryz.func14, Tryz.ntmps14
  go_wp2_with fail
  refine C1.out.mono ?_
  rintro e w1 ⟨v, rfl, hown, b1⟩
  have hne : 0 < (rg.cutAt 32 s.data.toList).length := List.length_pos_iff.2 (rg.cutAt_ne 32 _)
  generalize hLL : rg.cutAt 32 s.data.toList = L at *
  unfold OwnStrs at hown
  rw [List.length_map] at hown
  generalize hn : L.length = n at hown hne
  obtain ⟨g, cap, rfl, hgl, hgw⟩ := World.ownsRow.form hown hne
  have hW := words_at hown hn
  have HWA := Lib.hid hW
  generalize hw0 : bs (L.getD 0 []) = W0 at hW
  generalize hw1 : bs (L.getD 1 []) = W1 at hW
  have HW0 := Lib.hid hw0
  have HW1 := Lib.hid hw1
  have hnb : ¬ (n < 2 ∨ 26 < n ∨ W0.size < 5 ∨ W1.size < 12 ∨ 60 < W1.size) := fun h => HBD.out (hW.bad.2 h)
  have n1 : 2 ≤ n := by omega
  have n2 : n ≤ 26 := by omega
  have n3 : 5 ≤ W0.size := by omega
  have n4 : 12 ≤ W1.size := by omega
  have n5 : W1.size ≤ 60 := by omega
  have d0 := hW.c0 (by omega)
  have d1 := hW.c1 (by omega)
  have t1 : decide ((n : Int) < 2) = false := by simp; omega
  have t2 : decide (26 < (n : Int)) = false := by simp; omega
  have t3 : decide ((W0.size : Int) < 5) = false := by simp; omega
  have t4 : decide ((W1.size : Int) < 12) = false := by simp; omega
  have t5 : decide (60 < (W1.size : Int)) = false := by simp; omega
  have F1 := F0.below b1
  have bB := bA.trans (b1.mono (by simp))
  have hl1 : w.heap.size < w1.heap.size := F1.lt
  have HN := Lib.hid hn
  have HL := Lib.hid hLL
  have HO := Lib.hid hown
  have HF1 := Lib.hid F1
  have HBB := Lib.hid bB
  clear b1 bA F0 C1 hown hW hn HBD hw0 hw1 hnb hLL hne F1 bB
  have CN := Lib.hid (rNumber_any (W0.extract 5 W0.size) w1)
  have hx0 : (W0.extract 5 W0.size).data.toList = (L.getD 0 []).drop 5 := by rw [Lib.extract_to_end, ← HW0.out, bs_data]
  rw [show numB (W0.extract 5 W0.size) = numT ((L.getD 0 []).drop 5) by unfold numB; rw [hx0]] at CN
  clear hx0
  have HX1 : Hid ((W1.extract 10 W1.size).data.toList = (L.getD 1 []).drop 10 ∧ (W1.extract 10 W1.size).size = W1.size - 10) := Lib.hid ⟨by rw [Lib.extract_to_end, ← HW1.out, bs_data], by rw [ByteArray.size_extract]; omega⟩
  go_wp2_with fail
  refine CN.out.mono ?_
  rintro e w2 ⟨rfl, b2⟩
  have hd1 := (b2.cell (p := ⟨g, 1, none⟩) hgw).trans d1
  generalize hTT : numT ((L.getD 0 []).drop 5) = T at *
  generalize hDD : W1.extract 10 W1.size = D at *
  have HTT := Lib.hid hTT
  clear d0 d1 hTT CN
  have hg2 : g < w2.heap.size := Nat.lt_of_lt_of_le hgw b2.size
  have hw2 : w.heap.size < w2.heap.size := Nat.lt_of_lt_of_le hl1 b2.size
  go_upto_block 0 with fail
  generalize hw3 : w2.alloc (.cells #[.int .i64 T, .int .i64 0, .int .i64 0, .slice none 0 0] 29) = w3
  have HW3 := Lib.hid hw3
  have HQ3 : Hid (Four w3 w2.heap.size (.int .i64 T) (.int .i64 0) (.int .i64 0) (.slice none 0 0)) := Lib.hid (by rw [← hw3]; exact Four.new w2 _ _ _ _ _)
  have HB3 : Hid (Below w2.heap.size w2 w3) := Lib.hid (by rw [← hw3]; exact (Below.refl _ _).alloc (Nat.le_refl _) _)
  have hz3 : w3.heap.size = w2.heap.size + 1 := by rw [← hw3]; simp
  have hDz : D.size ≤ 50 := by have := HX1.out.2; omega
  have HDL : Hid (D.size = D.data.toList.length) := Lib.hid (Lib.size_eq D)
  clear hw3 hd1 t1 t2 t3 t4 t5 hDD
  go_cut [7, 8] from 60 to 93 (fun s7 s8 wx => wx = w3 ∧ ∃ k a : Nat, s7 = .int .i64 (a : Int) ∧ s8 = .int .i64 (k : Int) ∧ a ≤ 10995116277769 ∧ k ≤ D.size ∧ Hid (readT D.data.toList 0 = a ∧ fromColon D.data.toList = D.data.toList.drop k))
  case first =>
    go_wp2_with fail
    go_loopw [7, 8] (fun t i wr => wr = w3 ∧ ∃ k a : Nat, t = .int .i64 (a : Int) ∧ i = .int .i64 (k : Int) ∧ a ≤ 10995116277769 ∧ k ≤ D.size ∧ Hid (readT D.data.toList 0 = readT (D.data.toList.drop k) a ∧ fromColon D.data.toList = fromColon (D.data.toList.drop k))) (fun _ i _ => D.size - (intOf i).toNat)
    case atStart => exact ⟨rfl, 0, 0, rfl, rfl, by omega, Nat.zero_le _, Lib.hid ⟨rfl, rfl⟩⟩
    case round =>
      obtain ⟨rfl, k, a, rfl, rfl, ha, hk, HR⟩ := hrel
      by_cases hlt : k < D.size
      · have hlk : k < D.data.toList.length := by have := HDL.out; omega
        have hc : D.data.toList[k] = D[k] := by rw [Array.getElem_toList]; rfl
        have hlt' : (k : Int) < (D.size : Int) := by omega
        by_cases h58 : D[k] = 58
        · have e58 : ((D[k].toNat : Int) != 58) = false := by rw [h58]; rfl
          have HE := Lib.hid (⟨by rw [HR.out.1, readT_step hlk, hc, if_pos h58], by rw [HR.out.2, from_at hlk (by rw [hc]; exact h58)]⟩ : readT D.data.toList 0 = a ∧ fromColon D.data.toList = D.data.toList.drop k)
          clear h58 hc
          go_wp2_with fail
          go_meet
          exact ⟨rfl, k, a, rfl, rfl, ha, hk, HE⟩
        · have e58 : ((D[k].toNat : Int) != 58) = true := by
            have : D[k].toNat ≠ 58 := fun h => h58 (UInt8.toNat_inj.1 (by rw [h]; rfl))
            simp
            omega
          have HF := Lib.hid (from_step hlk (by rw [hc]; exact h58))
          by_cases hdg : vl.digB D[k] = true ∧ a ≤ 1099511627776
          · have hdd : 48 ≤ D[k].toNat ∧ D[k].toNat ≤ 57 := by simpa [vl.digB] using hdg.1
            have g1 : decide ((48 : Int) ≤ (D[k].toNat : Int)) = true := by simp; omega
            have g2 : decide ((D[k].toNat : Int) ≤ 57) = true := by simp; omega
            have g3 : decide ((a : Int) ≤ 1099511627776) = true := by simp; omega
            have ha2 := hdg.2
            have HN : Hid (readT D.data.toList 0 = readT (D.data.toList.drop (k + 1)) (a * 10 + (D[k].toNat - 48))) := Lib.hid (by rw [HR.out.1, readT_step hlk, hc, if_neg h58, if_pos hdg])
            have w1' : IntKind.u8.wrap ((D[k].toNat : Int) - 48) = ((D[k].toNat - 48 : Nat) : Int) := by rw [IntKind.wrap_u8]; omega
            have w2' : IntKind.i64.wrap ((a : Int) * 10) = (a : Int) * 10 := IntWalk.i64_in _ (by omega)
            clear h58 hc hdg
            have w3' : IntKind.i64.wrap ((a : Int) * 10 + ((D[k].toNat - 48 : Nat) : Int)) = ((a * 10 + (D[k].toNat - 48) : Nat) : Int) := by rw [IntWalk.i64_in _ (by omega)]; omega
            go_wp2_with fail
            refine ⟨⟨trivial, k + 1, a * 10 + (D[k].toNat - 48), rfl, by go_num, by omega, by omega, Lib.hid ⟨HN.out, by rw [HR.out.2, HF.out]⟩⟩, by simp [intOf]; omega⟩
          · have HN : Hid (readT D.data.toList 0 = readT (D.data.toList.drop (k + 1)) a) := Lib.hid (by rw [HR.out.1, readT_step hlk, hc, if_neg h58, if_neg hdg])
            have hcs : decide ((48 : Int) ≤ (D[k].toNat : Int)) = false ∨ (decide ((48 : Int) ≤ (D[k].toNat : Int)) = true ∧ decide ((D[k].toNat : Int) ≤ 57) = false) ∨ (decide ((48 : Int) ≤ (D[k].toNat : Int)) = true ∧ decide ((D[k].toNat : Int) ≤ 57) = true ∧ decide ((a : Int) ≤ 1099511627776) = false) := by
              by_cases q1 : 48 ≤ D[k].toNat
              · by_cases q2 : D[k].toNat ≤ 57
                · refine .inr (.inr ⟨by simp; omega, by simp; omega, decide_eq_false (fun h => hdg ⟨by simp [vl.digB, q1, q2], by omega⟩)⟩)
                · exact .inr (.inl ⟨by simp; omega, decide_eq_false (by omega)⟩)
              · exact .inl (decide_eq_false (by omega))
            clear h58 hc hdg
            rcases hcs with g1 | ⟨g1, g2⟩ | ⟨g1, g2, g3⟩
            all_goals
              go_wp2_with fail
              exact ⟨⟨trivial, k + 1, a, rfl, by go_num, ha, by omega, Lib.hid ⟨HN.out, by rw [HR.out.2, HF.out]⟩⟩, by simp [intOf]; omega⟩
      · have hke : k = D.size := by omega
        have hlt' : ¬ ((D.size : Int) < (D.size : Int)) := by omega
        have HE := Lib.hid (⟨by rw [HR.out.1, readT_end (by have := HDL.out; omega)], by rw [HR.out.2, from_end (by have := HDL.out; omega)]⟩ : readT D.data.toList 0 = a ∧ fromColon D.data.toList = D.data.toList.drop k)
        subst hke
        go_wp2_with fail
        go_meet
        exact ⟨rfl, _, a, rfl, rfl, ha, hk, HE⟩
  case rest =>
    obtain ⟨hwc, k, a, rfl, rfl, ha, hk, HR1⟩ := hcut
    subst hwc
    obtain ⟨c0, c1, c2, c3, f0, f1, f2, f3⟩ := HQ3.out
    go_upto_block 2 with fail
    have hQ := (Four.mk c0 c1 c2 c3 f0 f1 f2 f3).at1 (.int .i64 (a : Int))
    have hB := HB3.out.setCell (p := ⟨w2.heap.size, 1, none⟩) (Nat.le_refl _) (.int .i64 (a : Int))
    have hZ : (wc.setCell ⟨w2.heap.size, 1, none⟩ (.int .i64 (a : Int))).heap.size = w2.heap.size + 1 := by simp; exact hz3
    clear c0 c1 c2 c3 f0 f1 f2 f3
    generalize wc.setCell ⟨w2.heap.size, 1, none⟩ (.int .i64 (a : Int)) = w4 at *
    go_cut [8] from 96 to 126 (fun s8 wx => ∃ j b : Nat, s8 = .int .i64 (j : Int) ∧ b ≤ 10737418249 ∧ Four wx w2.heap.size (.int .i64 T) (.int .i64 (a : Int)) (.int .i64 (b : Int)) (.slice none 0 0) ∧ Below w2.heap.size w2 wx ∧ wx.heap.size = w2.heap.size + 1 ∧ Hid (readS (fromColon D.data.toList) 0 = b))
    case first =>
      go_wp2_with fail
      go_loopw [8] (fun i wr => ∃ j b : Nat, i = .int .i64 (j : Int) ∧ j ≤ D.size ∧ b ≤ 10737418249 ∧ Four wr w2.heap.size (.int .i64 T) (.int .i64 (a : Int)) (.int .i64 (b : Int)) (.slice none 0 0) ∧ Below w2.heap.size w2 wr ∧ wr.heap.size = w2.heap.size + 1 ∧ Hid (readS (fromColon D.data.toList) 0 = readS (D.data.toList.drop j) b)) (fun i _ => D.size - (intOf i).toNat)
      case atStart => exact ⟨k, 0, rfl, hk, by omega, hQ, hB, hZ, Lib.hid (by rw [HR1.out.2])⟩
      case round =>
        obtain ⟨j, b, rfl, hj, hb, hF, hBw, hZw, HS⟩ := hrel
        obtain ⟨c0, c1, c2, c3, f0, f1, f2, f3⟩ := hF
        by_cases hlt : j < D.size
        · have hlk : j < D.data.toList.length := by have := HDL.out; omega
          have hc : D.data.toList[j] = D[j] := by rw [Array.getElem_toList]; rfl
          have hlt' : (j : Int) < (D.size : Int) := by omega
          by_cases hbig : 1073741824 < b
          · have g0 : decide ((b : Int) ≤ 1073741824) = false := decide_eq_false (by omega)
            have HE : Hid (readS (fromColon D.data.toList) 0 = b) := Lib.hid (by rw [HS.out, readS_big _ hbig])
            go_wp2_with fail
            go_meet
            exact ⟨j, b, rfl, hb, ⟨c0, c1, c2, c3, f0, f1, f2, f3⟩, hBw, hZw, HE⟩
          · have g0 : decide ((b : Int) ≤ 1073741824) = true := by simp; omega
            by_cases hdg : vl.digB D[j] = true
            · have hdd : 48 ≤ D[j].toNat ∧ D[j].toNat ≤ 57 := by simpa [vl.digB] using hdg
              have g1 : decide ((48 : Int) ≤ (D[j].toNat : Int)) = true := by simp; omega
              have g2 : decide ((D[j].toNat : Int) ≤ 57) = true := by simp; omega
              have HN : Hid (readS (fromColon D.data.toList) 0 = readS (D.data.toList.drop (j + 1)) (b * 10 + (D[j].toNat - 48))) := Lib.hid (by rw [HS.out, readS_step hlk, hc, if_neg hbig, if_pos hdg])
              have w1' : IntKind.u8.wrap ((D[j].toNat : Int) - 48) = ((D[j].toNat - 48 : Nat) : Int) := by rw [IntKind.wrap_u8]; omega
              have w2' : IntKind.i64.wrap ((b : Int) * 10) = (b : Int) * 10 := IntWalk.i64_in _ (by omega)
              have w3' : IntKind.i64.wrap ((b : Int) * 10 + ((D[j].toNat - 48 : Nat) : Int)) = ((b * 10 + (D[j].toNat - 48) : Nat) : Int) := by rw [IntWalk.i64_in _ (by omega)]; omega
              clear hc hdg
              have FN := Lib.hid ((Four.mk c0 c1 c2 c3 f0 f1 f2 f3).at2 (.int .i64 ((b * 10 + (D[j].toNat - 48) : Nat) : Int)))
              go_wp2_with fail
              go_still_tail 10, (by kernel_rfl)
              change wpList _ _ _ _ _ wr.drew
              all_goals
                go_wp2_with fail
                exact ⟨⟨j + 1, b * 10 + (D[j].toNat - 48), by go_num, by omega, by omega, FN.out.drew, (hBw.setCell (p := ⟨w2.heap.size, 2, none⟩) (Nat.le_refl _) _).trans ⟨rfl, rfl, rfl, Nat.le_refl _, fun _ _ => rfl⟩, by simp; exact hZw, HN⟩, by simp [intOf]; omega⟩
            · have HN : Hid (readS (fromColon D.data.toList) 0 = readS (D.data.toList.drop (j + 1)) b) := Lib.hid (by rw [HS.out, readS_step hlk, hc, if_neg hbig, if_neg hdg])
              have hcs : decide ((48 : Int) ≤ (D[j].toNat : Int)) = false ∨ (decide ((48 : Int) ≤ (D[j].toNat : Int)) = true ∧ decide ((D[j].toNat : Int) ≤ 57) = false) := by
                by_cases q1 : 48 ≤ D[j].toNat
                · exact .inr ⟨by simp; omega, decide_eq_false (fun h => hdg (by simp [vl.digB, q1]; omega))⟩
                · exact .inl (decide_eq_false (by omega))
              clear hc hdg
              rcases hcs with g1 | ⟨g1, g2⟩
              all_goals
                go_wp2_with fail
                exact ⟨⟨j + 1, b, by go_num, by omega, hb, ⟨c0, c1, c2, c3, f0, f1, f2, f3⟩, hBw, hZw, HN⟩, by simp [intOf]; omega⟩
        · have hje : j = D.size := by omega
          have hlt' : ¬ ((D.size : Int) < (D.size : Int)) := by omega
          have HE : Hid (readS (fromColon D.data.toList) 0 = b) := Lib.hid (by rw [HS.out, readS_end (by have := HDL.out; omega)])
          subst hje
          go_wp2_with fail
          go_meet
          exact ⟨_, b, rfl, hb, ⟨c0, c1, c2, c3, f0, f1, f2, f3⟩, hBw, hZw, HE⟩
    case rest =>
      obtain ⟨j, b, rfl, hb, hF, hBw, hZw, HRS⟩ := hcut
      -- what the words say
      have HG : Hid (∀ ps, pairsO ((L.drop 2).map bs) = some ps → guessR L = some ⟨T, (a : Int), (b : Int), ps⟩) := Lib.hid (fun ps hps => by
        have e1 := HR1.out.1
        have e2 := HRS.out
        rw [HX1.out.1] at e1 e2
        unfold guessR
        rw [← pairsO_words, hps, HTT.out, e1, e2])
      have HGN : Hid (pairsO ((L.drop 2).map bs) = none → guessR L = none) := Lib.hid (fun h => by
        unfold guessR
        rw [← pairsO_words, h])
      have hR2 : Four w2 w.heap.size (.int .i64 0) (.int .i64 0) (.int .i64 0) (.slice none 0 0) := HF1.out.below b2
      have hbw2 : Below w.heap.size w w2 := HBB.out.trans (b2.mono HBB.out.size)
      have HWS : Hid (∀ j, j < n → w2.cell? ⟨g, j, none⟩ = some (.string (bs (L.getD j [])))) := Lib.hid (fun j hj => (b2.cell (p := ⟨g, j, none⟩) hgw).trans (HWA.out.at_ j hj))
      have HLN : Hid (L.length = n) := HN
      have HLW : Hid (∀ j, (L.getD j []).length ≤ 100000) := Lib.hid (fun j => by
        have h1 := HL.out
        by_cases hj : j < L.length
        · rw [List.getD_eq_getElem?_getD, List.getElem?_eq_getElem hj]
          have h2 := rg.cutAt_len 32 s.data.toList (L[j]) (by rw [h1]; exact List.getElem_mem hj)
          have h3 := Lib.size_eq s
          show (L[j]).length ≤ _
          omega
        · rw [List.getD_eq_getElem?_getD, List.getElem?_eq_none (by omega)]
          simp)
      have hsz3 := n3
      clear hQ hB hZ HR1 HW3 HQ3 HB3 hz3 HX1 HRS HTT HWA HW0 HW1 HO HF1 HBB b2 HN
      obtain ⟨i0, hi0, hz0, hz1, hz2⟩ := info_parts infoPair
      go_wp2_with fail
      go_loopw [9] (fun i wr => ∃ (j : Nat) (v : Value) (ps : List PairP), i = .int .i64 (j : Int) ∧ 2 ≤ j ∧ j ≤ n ∧ ps.length = j - 2 ∧ Hid (pairsO (((L.drop 2).map bs).take (j - 2)) = some ps) ∧ Hid (∀ p ∈ ps, POk p) ∧
          Four wr w2.heap.size (.int .i64 T) (.int .i64 (a : Int)) (.int .i64 (b : Int)) v ∧ OwnPairs (w2.heap.size + 1) wr v ps ∧ Below w2.heap.size w2 wr ∧ w2.heap.size + 1 ≤ wr.heap.size) (fun i _ => n - (intOf i).toNat)
      case atStart => exact ⟨2, _, [], rfl, Nat.le_refl _, n1, rfl, Lib.hid rfl, Lib.hid (fun p hp => by simp at hp), hF, World.ownsRow_nil _ _ _ _, hBw, by omega⟩
      case round =>
        obtain ⟨j2, v, ps, rfl, hj1, hj2, hpl, HP, HOK, hF3, hown, hBr, hszr⟩ := hrel
        have hpl2 : ps.length ≤ 24 := by omega
        have HPL := Lib.hid hpl
        clear hF hBw hpl
        have hRr := hR2.below hBr
        have hbr := hbw2.trans (hBr.mono hbw2.size)
        by_cases hlt : j2 < n
        · have hcx := (hBr.cell (p := ⟨g, j2, none⟩) hg2).trans (HWS.out j2 hlt)
          generalize hxx : bs (L.getD j2 []) = x at hcx
          have hxs : x.size ≤ 100000 := by
            rw [← hxx, bs_size]
            exact HLW.out j2
          have hwd : ((L.drop 2).map bs)[j2 - 2]? = some x := by
            have hlen := HLN.out
            rw [List.getElem?_map, List.getElem?_drop, show 2 + (j2 - 2) = j2 by omega, ← hxx]
            rw [List.getElem?_eq_getElem (by omega), List.getD_eq_getElem?_getD, List.getElem?_eq_getElem (by omega)]
            rfl
          have CV := rParse_any x wr hxs
          have hlt' : (j2 : Int) < (n : Int) := by omega
          have hj0 : (0 : Int) ≤ (j2 : Int) := by omega
          cases hr : parP x.data.toList with
          | none =>
            obtain ⟨e1, e2⟩ := par_none hr
            rw [e1, e2] at CV
            unfold zV at CV
            have CV := Lib.hid CV
            have HNO : Hid (parR s.data.toList = none) := Lib.hid (PN.out (HGN.out (by
              obtain ⟨hk, he⟩ := List.getElem?_eq_some_iff.1 hwd
              refine pairsO_none (pre := ((L.drop 2).map bs).take (j2 - 2)) (post := ((L.drop 2).map bs).drop (j2 - 2 + 1)) (x := x) ?_ hr
              rw [← he, ← List.drop_eq_getElem_cons hk, List.take_append_drop])))
            clear hr e1 e2 hwd HG HGN PG PN HP HOK hown
            go_wp2_with fail
            refine CV.out.mono ?_
            rintro e w5 ⟨rfl, hb5⟩
            have R5 := hRr.below hb5
            have hlR : w.heap.size < w5.heap.size := R5.lt
            have hbw5 := hbr.trans (hb5.mono hbr.size)
            have hbW := Lib.hid ((below_set4 hbw5 (Nat.le_refl w.heap.size) (.int .i64 0) (.int .i64 0) (.int .i64 0) (.slice none 0 0)).alloc (by simp; omega) (.cells #[.string ⟨#[]⟩, .int .i64 0, .int .i64 0, .string ⟨#[]⟩] 39))
            have G0 := (R5.all (.int .i64 0) (.int .i64 0) (.int .i64 0) (.slice none 0 0)).below ((Below.refl _ _).alloc (Nat.le_refl _) (.cells #[.string ⟨#[]⟩, .int .i64 0, .int .i64 0, .string ⟨#[]⟩] 39))
            obtain ⟨a0, a1, a2, a3, e0, e1, e2, e3⟩ := R5
            obtain ⟨d0, d1, d2, d3, _, _, _, _⟩ := G0
            clear hbw5
            go_wp2_with fail
            exact bodyPost_ret (v := .tuple #[.agg #[.int .i64 0, .int .i64 0, .int .i64 0, .slice none 0 0], .int .i64 34]) (by simp [results, Tryz.f14, go_sem, d0, d1, d2, d3]) rfl (FZ.out _ HNO.out hbW.out)
          | some p =>
            obtain ⟨e1, e2⟩ := par_some hr
            rw [e1, e2] at CV
            unfold pV at CV
            have hpk := pok_par hr
            rw [show (⟨p.name.toArray⟩ : ByteArray) = bs p.name from rfl, show (⟨p.text.toArray⟩ : ByteArray) = bs p.text from rfl] at CV
            have HPN : Hid (pairsO (((L.drop 2).map bs).take (j2 + 1 - 2)) = some (ps ++ [p])) := Lib.hid (by
              rw [show j2 + 1 - 2 = (j2 - 2) + 1 by omega, List.take_add_one, hwd]
              exact pairsO_snoc HP.out hr)
            have HOKN : Hid (∀ q ∈ ps ++ [p], POk q) := Lib.hid (fun q hq => by
              rcases List.mem_append.1 hq with hq | hq
              · exact HOK.out q hq
              · simp at hq; subst hq; exact hpk)
            have CV := Lib.hid CV
            clear hr e1 e2 hwd HP HOK hpk
            obtain ⟨nm, kd, nu, tx⟩ := p
            dsimp only at CV
            clear HG HGN PG PN
            go_wp2_with fail
            refine CV.out.mono ?_
            rintro e w5 ⟨rfl, hb5⟩
            have F5 := hF3.below hb5
            have own5 := own_below hown hb5
            have hBr5 : Below w2.heap.size w2 w5 := hBr.trans (hb5.mono hBr.size)
            have hz5 : w2.heap.size + 1 ≤ w5.heap.size := Nat.le_trans hszr hb5.size
            have nw : Hid (∀ j u, ([.string (bs nm), .int .i64 kd, .int .i64 nu, .string (bs tx)] : List Value)[j]? = some u → ((w5.alloc (.cells #[.string (bs nm), .int .i64 kd, .int .i64 nu, .string (bs tx)] 39)).alloc (.cells #[.string (bs nm), .int .i64 kd, .int .i64 nu, .string (bs tx)] 39)).cell? ((⟨w5.heap.size + 1, 0, none⟩ : Addr).add j) = some u) := Lib.hid (World.news_of_block (cs := #[.string (bs nm), .int .i64 kd, .int .i64 nu, .string (bs tx)]) (t := 39) (fr := (0, 0)) (by
              have := heap_alloc_new (w5.alloc (.cells #[.string (bs nm), .int .i64 kd, .int .i64 nu, .string (bs tx)] 39)) (.cells #[.string (bs nm), .int .i64 kd, .int .i64 nu, .string (bs tx)] 39)
              rwa [heap_alloc] at this))
            have hlB : w2.heap.size < w5.heap.size := by omega
            have HF5 := Lib.hid F5
            have HO5 := Lib.hid own5
            unfold OwnPairs at hown
            obtain ⟨c0, c1, c2, c3, f0, f1, f2, f3⟩ := F5
            clear hF3 hown hRr hbr hBr hb5 hcx
            go_wp2_with (first
              | (at_builtin; refine wpList_append_own _ rfl _ _ 27 rfl (w2.heap.size + 1) 39 i0 _ 4 48 Tryz.underlying27 hi0 hz0 hz1 hz2 rfl (by omega) _ ps.length _ rfl ((own5.alloc _).alloc _) ⟨w5.heap.size + 1, 0, none⟩ 1 1 [.string (bs nm), .int .i64 kd, .int .i64 nu, .string (bs tx)] rfl rfl nw.out ?c5 ?c6 ?c7 ?c8 ?_)
              | fail)
            case c5 => simp [Value.oneCell']
            case c6 => unfold maxLen; omega
            case c7 => omega
            case c8 => simp; omega
            intro v6 w6 own6 hgrow _
            obtain ⟨g6, cap6, rfl, -, -⟩ := World.ownsRow.form own6 (by omega)
            have hne : some w2.heap.size ≠ v.ownBlock := own_ne HO5.out (k := w2.heap.size) (by omega)
            have F6 := HF5.out.of_block (w' := w6) ((hgrow.block w2.heap.size (by simp; omega) hne).trans ((Below.heap_alloc _ _ _ (by simp; omega)).trans (Below.heap_alloc _ _ _ hlB)))
            have hB6 : Below w2.heap.size w2 w6 := ((hBr5.alloc (by omega) _).alloc (by simp; omega) _).grown hgrow (by simp; omega) (fun k e => by have := (HO5.out.lt k e).1; omega)
            have hz6 := hgrow.size
            have HF6 := Lib.hid (F6.at3 (.slice (some ⟨g6, 0, none⟩) (ps.length + 1) cap6))
            obtain ⟨c0', c1', c2', c3', f0', f1', f2', f3'⟩ := F6
            clear c0 c1 c2 c3 f0 f1 f2 f3 hgrow
            simp only [World.size_alloc] at hz6
            go_wp2_with fail
            refine ⟨⟨j2 + 1, _, ps ++ [⟨nm, kd, nu, tx⟩], by go_num, by omega, by omega, by have := HPL.out; simp; omega, HPN, HOKN, HF6.out, ?_, hB6.setCell (p := ⟨w2.heap.size, 3, none⟩) (Nat.le_refl _) _, by simp; omega⟩, by simp [intOf]; omega⟩
            unfold OwnPairs
            rw [psc_append, List.length_append]
            exact ownsRow_setCell_below own6 (a := ⟨w2.heap.size, 3, none⟩) (by show w2.heap.size < w2.heap.size + 1; omega) _
        · obtain rfl : j2 = n := by omega
          have hall : ((L.drop 2).map bs).take (j2 - 2) = (L.drop 2).map bs := List.take_of_length_le (by rw [List.length_map, List.length_drop, HLN.out]; omega)
          have hpp := HP.out
          rw [hall] at hpp
          have hgs := HG.out ps hpp
          have hpar := PG.out _ hgs
          have hfrom := own_from hown
          obtain ⟨va, cap', rfl, hPA, hcap⟩ := own_pairs hown HOK.out
          have hfr : Hid (∀ g o, va = some ⟨g, o, none⟩ → w2.heap.size + 1 ≤ g) := Lib.hid (hfrom _ _ _ rfl)
          have C2 := rFormat_any T (a : Int) (b : Int) va cap' ps wr hPA (by omega)
          have HYES : Hid (ckR T (a : Int) (b : Int) ps = 0 → fR T (a : Int) (b : Int) ps = s → parR s.data.toList = some ⟨T, (a : Int), (b : Int), ps⟩) := Lib.hid (fun h1 h2 => by
            rw [hpar]
            unfold fmtR
            rw [if_pos (show checkR ⟨T, (a : Int), (b : Int), ps⟩ = 0 from h1)]
            unfold fR at h2
            rw [if_pos h1] at h2
            rw [← h2, bs_data, if_pos rfl])
          have HNOT : Hid (¬ (ckR T (a : Int) (b : Int) ps = 0 ∧ fR T (a : Int) (b : Int) ps = s) → parR s.data.toList = none) := Lib.hid (fun h => by
            rw [hpar]
            unfold fmtR
            by_cases h1 : ckR T (a : Int) (b : Int) ps = 0
            · rw [if_pos (show checkR ⟨T, (a : Int), (b : Int), ps⟩ = 0 from h1), if_neg]
              intro he
              apply h
              refine ⟨h1, ?_⟩
              unfold fR
              rw [if_pos h1]
              injection he with he
              rw [he, bs_of]
            · rw [if_neg (show ¬ checkR ⟨T, (a : Int), (b : Int), ps⟩ = 0 from h1), if_neg (by simp)])
          generalize fR T (a : Int) (b : Int) ps = X at *
          generalize ckR T (a : Int) (b : Int) ps = er at *
          have C2 := Lib.hid C2
          have hsl : ps.length ≤ 100000 := by omega
          have hne := str_ne_beq X s
          have HF3 := Lib.hid hF3
          have hnl : ¬ (j2 : Int) < (j2 : Int) := by omega
          have hlB : w2.heap.size < wr.heap.size := by omega
          have HRr := Lib.hid hRr
          have HPA := Lib.hid hPA
          obtain ⟨c0, c1, c2, c3, f0, f1, f2, f3⟩ := hF3
          clear hown hpp hgs hpar hfrom HG HGN PG PN hall hPA
          go_wp2_with fail
          refine C2.out.mono ?_
          rintro e w5 ⟨rfl, hb5⟩
          have F5 := HF3.out.below hb5
          have R5 := HRr.out.below hb5
          have hPA5 := HPA.out.below hb5
          have hbw5 := hbr.trans (hb5.mono hbr.size)
          have hlR : w.heap.size < w5.heap.size := R5.lt
          have hlB5 : w2.heap.size < w5.heap.size := F5.lt
          obtain ⟨q0, q1, q2, q3, _, _, _, _⟩ := F5
          clear c0 c1 c2 c3 f0 f1 f2 f3 hRr hBr hb5 hbr
          by_cases hz : er = 0
          · subst hz
            by_cases hX : X = s
            · have hne' : (X.toList == s.toList) = true := by rw [hne, hX]; simp
              have HY := Lib.hid (HYES.out rfl hX)
              have hbW := Lib.hid (below_set4 hbw5 (Nat.le_refl w.heap.size) (.int .i64 T) (.int .i64 (a : Int)) (.int .i64 (b : Int)) (.slice va ps.length cap'))
              have hPW := Lib.hid (pairs_set4 hPA5 (fun g o hg => by have := hfr.out g o hg; omega : ∀ g o, va = some ⟨g, o, none⟩ → g ≠ w.heap.size) (.int .i64 T) (.int .i64 (a : Int)) (.int .i64 (b : Int)) (.slice va ps.length cap'))
              have G0 := R5.all (.int .i64 T) (.int .i64 (a : Int)) (.int .i64 (b : Int)) (.slice va ps.length cap')
              obtain ⟨a0, a1, a2, a3, e0, e1, e2, e3⟩ := R5
              obtain ⟨d0, d1, d2, d3, _, _, _, _⟩ := G0
              clear hne HYES HNOT hPA5 hbw5 hX
              go_wp2_with fail
              exact bodyPost_ret (v := .tuple #[.agg #[.int .i64 T, .int .i64 (a : Int), .int .i64 (b : Int), .slice va ps.length cap'], .int .i64 0]) (by simp [results, Tryz.f14, go_sem, d0, d1, d2, d3]) rfl (FO.out T a b va _ cap' ps _ rfl hPW.out hcap hsl hbW.out HY.out)
            · have hne' : (X.toList == s.toList) = false := by rw [hne]; simp [hX]
              have HNN := Lib.hid (HNOT.out (fun h => hX h.2))
              have hbW := Lib.hid (below_set4 hbw5 (Nat.le_refl w.heap.size) (.int .i64 0) (.int .i64 0) (.int .i64 0) (.slice none 0 0))
              have G0 := R5.all (.int .i64 0) (.int .i64 0) (.int .i64 0) (.slice none 0 0)
              obtain ⟨a0, a1, a2, a3, e0, e1, e2, e3⟩ := R5
              obtain ⟨d0, d1, d2, d3, _, _, _, _⟩ := G0
              clear hne HYES HNOT hPA5 hbw5 hX
              go_wp2_with fail
              exact bodyPost_ret (v := .tuple #[.agg #[.int .i64 0, .int .i64 0, .int .i64 0, .slice none 0 0], .int .i64 34]) (by simp [results, Tryz.f14, go_sem, d0, d1, d2, d3]) rfl (FZ.out _ HNN.out hbW.out)
          · have hz' : (er != 0) = true := by simp [hz]
            have HNN := Lib.hid (HNOT.out (fun h => hz h.1))
            have hbW := Lib.hid (below_set4 hbw5 (Nat.le_refl w.heap.size) (.int .i64 0) (.int .i64 0) (.int .i64 0) (.slice none 0 0))
            have G0 := R5.all (.int .i64 0) (.int .i64 0) (.int .i64 0) (.slice none 0 0)
            obtain ⟨a0, a1, a2, a3, e0, e1, e2, e3⟩ := R5
            obtain ⟨d0, d1, d2, d3, _, _, _, _⟩ := G0
            clear hne HYES HNOT hPA5 hbw5 hz
            go_wp2_with fail
            exact bodyPost_ret (v := .tuple #[.agg #[.int .i64 0, .int .i64 0, .int .i64 0, .slice none 0 0], .int .i64 34]) (by simp [results, Tryz.f14, go_sem, d0, d1, d2, d3]) rfl (FZ.out _ HNN.out hbW.out)

set_option maxRecDepth 100000 in
set_option maxHeartbeats 4000000 in
theorem rrParse_any (s : ByteArray) (w : World) :
    Calls Tryz.prog 14 #[.string s] w (ParseR s w) := by
  by_cases hl : 31240 < s.size
  · have FZ : Hid (∀ w', Below w.heap.size w w' → ParseR s w (.returned (.tuple #[.agg #[.int .i64 0, .int .i64 0, .int .i64 0, .slice none 0 0], .int .i64 34])) w') :=
      Lib.hid (fun w' hb => ⟨0, 0, 0, none, 0, [], 34, rfl, PairsAt.nil _ _, ⟨Nat.le_refl _, by simp⟩, hb, .inr ⟨rfl, by
        unfold parR
        rw [if_pos (by rw [← Lib.size_eq]; exact hl)], rfl, rfl, rfl, rfl⟩⟩)
    have F0 := Four.new w 29 (.int .i64 0) (.int .i64 0) (.int .i64 0) (.slice none 0 0)
    have bA := (Below.refl w.heap.size w).alloc (Nat.le_refl _) (.cells #[.int .i64 0, .int .i64 0, .int .i64 0, .slice none 0 0] 29)
    have hli : (31240 : Int) < (s.size : Int) := by omega
    have hbW := Lib.hid bA
    obtain ⟨d0, d1, d2, d3, _, _, _, _⟩ := F0
    clear bA hl
    go_enter Tryz.func14, Tryz.ntmps14
    go_wp2_with fail
    exact bodyPost_ret (v := .tuple #[.agg #[.int .i64 0, .int .i64 0, .int .i64 0, .slice none 0 0], .int .i64 34]) (by simp [results, Tryz.f14, go_sem, d0, d1, d2, d3]) rfl (FZ.out _ hbW.out)
  · by_cases hb : badW (rg.cutAt 32 s.data.toList)
    · exact rrParse_bad s w (by omega) hb
    · exact rrParse_core s w (by omega) hb
end Go.Proofs.YtdndngabddnpmaaGreatDoor.rd

namespace Go.Proofs.YtdndngabddnpmaaGreatDoor.rd
open Go.RowKit Go.Proofs.YtdndngabddnpmaaGreatDoor.cm Go.Proofs.YtdndngabddnpmaaGreatDoor.vl Go.Proofs.YtdndngabddnpmaaGreatDoor.sr
attribute [local go_sem ↓] Go.wp_at_zero Go.wp_at_succ

set_option maxRecDepth 100000 in
set_option maxHeartbeats 8000000 in
theorem reads_any (s : ByteArray) (w : World) (hs : s.size ≤ 1000000) (hE : EnvP w) :
    Calls Tryz.prog 6 #[.string s] w fun e w' => e = .returned (.bool true) ∧ Below w.heap.size w w' := by
  have C1 := Lib.hid (rdParse_any s w hs hE)
  have C2 := Lib.hid (fun W => rrParse_any s W)
  clear hE
  go_enter Tryz.func6, Tryz.ntmps6
  go_wp2_with fail
  refine C1.out.mono ?_
  rintro e w1 ⟨t, tm, sr, va, ca, ps, er, rfl, hP, ⟨hc1, hc2⟩, hb1, hcase⟩
  have F1 := Four.new w1 29 (.int .i64 t) (.int .i64 tm) (.int .i64 sr) (.slice va ps.length ca)
  have bx1 := (Below.refl w1.heap.size w1).alloc (Nat.le_refl _) (.cells #[.int .i64 t, .int .i64 tm, .int .i64 sr, .slice va ps.length ca] 29)
  have hb1' := hb1.alloc hb1.size (.cells #[.int .i64 t, .int .i64 tm, .int .i64 sr, .slice va ps.length ca] 29)
  have hP1 := hP.below bx1
  have HF1 := Lib.hid F1
  have HP1 := Lib.hid hP1
  have HC1 := Lib.hid hcase
  clear F1 hP1 hcase hP bx1 hb1
  go_wp2_with fail
  refine (C2.out _).mono ?_
  rintro e w2 ⟨t', tm', sr', vb, cb, qs, er', rfl, hQ, ⟨hd1, hd2⟩, hb2, hcase'⟩
  have heq : er = er' ∧ t = t' ∧ tm = tm' ∧ sr = sr' ∧ ps = qs := by
    rcases HC1.out with ⟨h1, h2⟩ | ⟨h1, h2, h3, h4, h5, h6⟩
    · rcases hcase' with ⟨k1, k2⟩ | ⟨k1, k2, k3, k4, k5, k6⟩
      · rw [h2] at k2
        injection k2 with k2
        injection k2 with e1 e2 e3 e4
        exact ⟨by rw [h1, k1], e1, e2, e3, e4⟩
      · rw [h2] at k2; cases k2
    · rcases hcase' with ⟨k1, k2⟩ | ⟨k1, k2, k3, k4, k5, k6⟩
      · rw [h2] at k2; cases k2
      · exact ⟨by rw [h1, k1], by rw [h3, k3], by rw [h4, k4], by rw [h5, k5], by rw [h6, k6]⟩
  obtain ⟨rfl, rfl, rfl, rfl, rfl⟩ := heq
  have hbw2 := hb1'.trans (hb2.mono hb1'.size)
  have bx2 := (Below.refl w2.heap.size w2).alloc (Nat.le_refl _) (.cells #[.int .i64 t, .int .i64 tm, .int .i64 sr, .slice vb ps.length cb] 29)
  have F2 := (HF1.out.below hb2).below bx2
  have G2 := Four.new w2 29 (.int .i64 t) (.int .i64 tm) (.int .i64 sr) (.slice vb ps.length cb)
  have hP2 := (HP1.out.below hb2).below bx2
  have hQ2 := hQ.below bx2
  have hbw3 := hbw2.alloc hbw2.size (.cells #[.int .i64 t, .int .i64 tm, .int .i64 sr, .slice vb ps.length cb] 29)
  have C3 := Same_any t tm sr t tm sr va vb ca cb ps ps _ hP2 hQ2 (by omega)
  rw [(sameR_iff t tm sr t tm sr ps ps).2 ⟨rfl, rfl, rfl, rfl⟩] at C3
  have C3 := Lib.hid C3
  have HB := Lib.hid hbw3
  have ee : (er == er) = true := by simp
  have hlt : w1.heap.size < w2.heap.size := by have := hb2.size; simp at this; omega
  obtain ⟨a0, a1, a2, a3, _, _, _, _⟩ := F2
  obtain ⟨b0, b1, b2, b3, _, _, _, _⟩ := G2
  clear hP2 hQ2 hQ hcase' HC1 HP1 HF1 hb2 bx2 hbw2 hbw3 hb1' C1 C2
  go_wp2_with fail
  refine C3.out.mono ?_
  rintro e w5 ⟨rfl, hb5⟩
  go_wp2_with fail
  go_ret
  exact ⟨rfl, HB.out.trans (hb5.mono HB.out.size)⟩
end Go.Proofs.YtdndngabddnpmaaGreatDoor.rd
