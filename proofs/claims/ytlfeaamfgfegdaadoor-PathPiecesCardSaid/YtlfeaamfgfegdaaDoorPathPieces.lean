/-
  The law PathPieces: its walk.
-/
import Derived.Test.YtlfeaamfgfegdaaDoorPAg
import Derived.Test.YtlfeaamfgfegdaaDoorRows
namespace Go.Proofs.YtlfeaamfgfegdaaDoor
open Go.RowKit Go.Proofs.YtlfeaamfgfegdaaDoor.pt Go.Proofs.YtlfeaamfgfegdaaDoor.rg

namespace pathPieces
theorem piece_facts {t x : ByteArray} (h : x ∈ piecesB t) : (x.toList == []) = false ∧ (47 : UInt8) ∉ x.data.toList ∧ x.size ≤ t.size := by
  unfold piecesB at h
  obtain ⟨h1, h2⟩ := List.mem_filter.1 h
  refine ⟨ne_test h2, ?_, cutB_size 47 t x h1⟩
  unfold cutB at h1
  obtain ⟨l, hl, rfl⟩ := List.mem_map.1 h1
  show (47 : UInt8) ∉ l.toArray.toList
  rw [List.toList_toArray]
  exact cut_slash _ _ hl
/-- the pieces so far, joined -/
def joined (t : ByteArray) (k : Nat) : ByteArray := pt.bs (joinL ((piecesL t.data.toList).take k))
theorem joined_succ {t : ByteArray} {k : Nat} (h : k < (piecesB t).length) : joined t (k + 1) = joined t k ++ (⟨#[47]⟩ ++ (piecesB t)[k]'h) := by
  unfold joined
  rw [cat_bs, take_succ_join (pieces_at_list t h)]
theorem joined_all {t : ByteArray} (h : cleanS t = true) (h1 : (t.toList == [47]) = false) : (t.toList == (joined t (piecesB t).length).toList) = true := by
  rw [str_beq]
  unfold joined
  rw [pt.bs_data, ← pieces_len, List.take_length, beq_iff_eq]
  rw [eq_test] at h1
  obtain ⟨xs, hx, he⟩ := clean_names h
  rw [he, pieces_dir hx]
  rw [he] at h1
  unfold dirL at h1 ⊢
  split
  · rename_i e
    rw [if_pos e] at h1
    cases h1
  · rfl
theorem no_slash {x : ByteArray} (h : (47 : UInt8) ∉ x.data.toList) {k : Nat} (hk : k < x.size) : (((x[k]'hk).toNat : Int) == 47) = false := by
  rw [beq_eq_false_iff_ne]
  intro e
  have h1 := Lib.data_getElem? x k hk
  have h2 : x[k]'hk = 47 := UInt8.toNat_inj.1 (by show (x[k]'hk).toNat = 47; omega)
  rw [h2] at h1
  exact h (List.mem_of_getElem? h1)

set_option maxRecDepth 100000 in
set_option maxHeartbeats 16000000 in
theorem walk (t : ByteArray) (w : World) (_ : t.size ≤ maxLen) (_ : laidMetH Tryd.prog Rows.pathPiecesRow.laid w) (_ : w.ShapedOpen Tryd.prog) :
    Calls Tryd.prog 8 #[.string t] w fun e w' => e = .returned (.bool true) ∧ Below w.heap.size w w' := by
  have CW := Lib.hid (fun W => pt.awake_any W)
  by_cases h : t.size ≤ 400
  · have h' : decide ((400 : Int) < (t.size : Int)) = false := decide_eq_false (by omega)
    have CS := Lib.hid (Split_any t w (by omega))
    have CC := fun W => Clean_any t W (by omega)
    have HF := Lib.hid (fun x hx => piece_facts (t := t) (x := x) hx)
    have hlen := pieces_size t
    have HJS := Lib.hid (fun k hk => joined_succ (t := t) (k := k) hk)
    have HJA := Lib.hid (fun h1 h2 => joined_all (t := t) h1 h2)
    go_enter Tryd.func8, Tryd.ntmps8
    go_wp2_with fail
    refine CS.out.mono ?_
    rintro e w1 ⟨v, rfl, hown, hb1⟩
    obtain ⟨a, cap, rfl, hat⟩ := own_strs hown
    clear hown
    have e1 := fun h0 => int_test (starts_first (d := t) h0)
    have e2 := fun h0 => int_test (ends_last (d := t) h0)
    have e3 : t.size = 0 → startsL t.data.toList = false ∧ endsL t.data.toList = false := fun h0 => by
      have : t.data.toList = [] := List.length_eq_zero_iff.1 ((Lib.size_eq t).symm.trans h0)
      rw [this]; exact ⟨rfl, rfl⟩
    generalize startsL t.data.toList = s1 at *
    generalize endsL t.data.toList = s2 at *
    have NEXT : Hid (∀ (wr : World) (J : ByteArray), Below w.heap.size w wr → True) := Lib.hid (fun _ _ _ => trivial)
    clear NEXT
    have HB1 := Lib.hid hb1
    by_cases h0 : 0 < t.size
    have h0' : decide ((0 : Int) < (t.size : Int)) = true := by simp; omega
    have hw : IntKind.i64.wrap ((t.size : Int) - 1) = ((t.size - 1 : Nat) : Int) := by rw [IntWalk.i64_in _ (by omega)]; omega
    have hlt : t.size - 1 < t.size := by omega
    have f1 := e1 h0
    have f2 := e2 h0
    have hs1 : (s1 != s1) = false := by simp
    have hs2 : (s2 != s2) = false := by simp
    clear e1 e2 e3
    rotate_left
    have h0' : decide ((0 : Int) < (t.size : Int)) = false := decide_eq_false (by omega)
    obtain ⟨rfl, rfl⟩ := e3 (by omega)
    clear e1 e2
    all_goals
      go_wp2_with fail
      go_loopw [6, 7] (fun v i wr => ∃ k : Nat, k ≤ (piecesB t).length ∧ i = .int .i64 (k : Int) ∧ v = .string (joined t k) ∧ (joined t k).size ≤ 401 * k ∧ Below w1.heap.size w1 wr) (fun _ i _ => (piecesB t).length - (intOf i).toNat)
      case atStart => exact ⟨0, Nat.zero_le _, rfl, rfl, Nat.le_refl 0, Below.refl _ _⟩
      case round =>
        obtain ⟨k, hk, rfl, rfl, hsz, hbel⟩ := hrel
        by_cases hlt : k < (piecesB t).length
        · obtain ⟨g, rfl, hc⟩ := (hat.below hbel (Nat.le_refl _)).get hlt
          have hmem := List.getElem_mem hlt
          obtain ⟨q1, q2, q3⟩ := HF.out _ hmem
          have HS := Lib.hid (HJS.out k hlt)
          clear HJS HJA HF CC
          generalize (piecesB t)[k]'hlt = x at *
          generalize (piecesB t).length = n at *
          have HQ2 := Lib.hid q2
          clear q2
          have hlt' : (k : Int) < (n : Int) := by omega
          have hk0 : (0 : Int) ≤ (k : Int) := by omega
          generalize hjk : joined t k = J at *
          have HJK := Lib.hid hjk
          clear hjk
          go_wp2_with fail
          go_loop [8] (fun i => ∃ j : Nat, j ≤ x.size ∧ i = .int .i64 (j : Int)) (fun i => x.size - (intOf i).toNat)
          case atStart => exact ⟨0, Nat.zero_le _, rfl⟩
          case round =>
            obtain ⟨j, hj, rfl⟩ := hrel
            by_cases hjl : j < x.size
            · have f3 := no_slash HQ2.out hjl
              have hj0 : (0 : Int) ≤ (j : Int) := by omega
              have hj1 : (j : Int) < (x.size : Int) := by omega
              go_wp2_with fail
              exact ⟨⟨j + 1, by omega, by go_num⟩, by simp [intOf]; omega⟩
            · obtain rfl : j = x.size := by omega
              have hj1 : ¬ (x.size : Int) < (x.size : Int) := by omega
              go_wp2_with fail
              refine ⟨⟨k + 1, by omega, by go_num, ?_, ?_, hbel⟩, by simp [intOf]; omega⟩
              · exact val_str (by rw [HS.out])
              · rw [HS.out, ByteArray.size_append, ByteArray.size_append]
                show J.size + (1 + x.size) ≤ _
                omega
        · obtain rfl : k = (piecesB t).length := by omega
          have hfin := HB1.out.trans (hbel.mono HB1.out.size)
          have HF2 := Lib.hid hfin
          have hnl : ¬ ((piecesB t).length : Int) < ((piecesB t).length : Int) := by omega
          have CCW := CC wr
          cases hc : cleanS t
          · rw [hc] at CCW
            have CCW := Lib.hid CCW
            generalize joined t (piecesB t).length = J at *
            clear CC HF HJS HJA hc
            go_wp2_with fail
            refine CCW.out.mono ?_
            rintro e w5 ⟨rfl, hb5⟩
            go_wp2_with fail
            refine (CW.out _).mono ?_
            rintro e w6 ⟨rfl, hb6⟩
            go_wp2_with fail
            go_ret
            have hb56 := hb5.trans (hb6.mono hb5.size)
            exact ⟨rfl, HF2.out.trans (hb56.mono HF2.out.size)⟩
          · rw [hc] at CCW
            have CCW := Lib.hid CCW
            cases h47 : (t.toList == [47])
            · have hje := HJA.out hc h47
              generalize joined t (piecesB t).length = J at *
              clear CC HF HJS HJA hc
              go_wp2_with fail
              refine CCW.out.mono ?_
              rintro e w5 ⟨rfl, hb5⟩
              go_wp2_with fail
              refine (CW.out _).mono ?_
              rintro e w6 ⟨rfl, hb6⟩
              go_wp2_with fail
              go_ret
              have hb56 := hb5.trans (hb6.mono hb5.size)
              exact ⟨rfl, HF2.out.trans (hb56.mono HF2.out.size)⟩
            · generalize joined t (piecesB t).length = J at *
              clear CC HF HJS HJA hc
              go_wp2_with fail
              refine CCW.out.mono ?_
              rintro e w5 ⟨rfl, hb5⟩
              go_wp2_with fail
              refine (CW.out _).mono ?_
              rintro e w6 ⟨rfl, hb6⟩
              go_wp2_with fail
              go_ret
              have hb56 := hb5.trans (hb6.mono hb5.size)
              exact ⟨rfl, HF2.out.trans (hb56.mono HF2.out.size)⟩
  · have h' : decide ((400 : Int) < (t.size : Int)) = true := by simp; omega
    go_enter Tryd.func8, Tryd.ntmps8
    go_wp2_with fail
    refine (CW.out _).mono ?_
    rintro e w1 ⟨rfl, hb1⟩
    go_wp2_with fail
    go_ret
    exact ⟨rfl, hb1⟩
end pathPieces
end Go.Proofs.YtlfeaamfgfegdaaDoor
