/-
  The reference's Parse answers as mask.Parse.
-/
import Derived.Test.YtjckgehlojcinaaDoorRefMath
namespace Go.Proofs.YtjckgehlojcinaaDoor.mk
open Go.RowKit

set_option maxHeartbeats 1000000 in
theorem rparse_all (s : ByteArray) (w : World) (h1 : (s.toList == [97, 108, 108]) = true) :
    Calls Tryd.prog 23 #[.string s] w fun e w' => e = .returned (.tuple #[.int .u64 4294967295, .int .i64 0]) ∧ Below w.heap.size w w' := by
  go_enter Tryd.func23, Tryd.ntmps23
  go_wp2_with fail
  go_ret2
  exact ⟨rfl, Below.refl _ _⟩

set_option maxHeartbeats 1000000 in
theorem rparse_none (s : ByteArray) (w : World) (h1 : (s.toList == [97, 108, 108]) = false) (h2 : (s.toList == [110, 111, 110, 101]) = true) :
    Calls Tryd.prog 23 #[.string s] w fun e w' => e = .returned (.tuple #[.int .u64 0, .int .i64 0]) ∧ Below w.heap.size w w' := by
  go_enter Tryd.func23, Tryd.ntmps23
  go_wp2_with fail
  go_ret2
  exact ⟨rfl, Below.refl _ _⟩

theorem dtrue {D : Bool} {p : Prop} (h : D = false ↔ p) (hn : ¬ p) : D = true := by
  cases hD : D with
  | true => rfl
  | false => exact absurd (h.1 hD) hn

theorem one_cell (w : World) (v : Value) (t : TypeId) : ∀ (j : Nat) u, [v][j]? = some u → (w.alloc (.cells #[v] t)).cell? ((⟨w.heap.size, 0, none⟩ : Addr).add j) = some u := by
  intro j u hj
  match j, hj with
  | 0, hj => simp at hj; subst hj; simp [Addr.add]

/-- the numbers that an item adds, as the reference's loop does -/
def addC (A Z : Nat) : Nat := min (Z + 1) 32 - A

set_option maxHeartbeats 8000000 in
set_option maxRecDepth 100000 in
theorem rparse_core (s : ByteArray) (w : World) (hs : s.size ≤ 1000) (h1 : (s.toList == [97, 108, 108]) = false) (h2 : (s.toList == [110, 111, 110, 101]) = false) :
    Calls Tryd.prog 23 #[.string s] w fun e w' => e = .returned (.tuple #[.int .u64 ((parL (rg.cutB 44 s) 0 false).1 : Int), .int .i64 (parL (rg.cutB 44 s) 0 false).2]) ∧ Below w.heap.size w w' := by
  obtain ⟨i0, hi, hz0, hz1, hz2⟩ := info_parts Tryd.info3
  have CC := Lib.hid (rcut_any s 44 w (by omega))
  have HIT : Hid (∀ x ∈ rg.cutB 44 s, x.size ≤ 1000) := Lib.hid (fun x hx => Nat.le_trans (rg.cutB_size 44 s x hx) hs)
  have hlen : (rg.cutB 44 s).length ≤ s.size + 1 := cutB_len 44 s
  have hne := cutB_ne 44 s
  generalize rg.cutB 44 s = items at *
  go_enter Tryd.func23, Tryd.ntmps23
  go_wp2_with fail
  refine CC.out.mono ?_
  rintro e w1 ⟨v, rfl, hv, hb⟩
  obtain ⟨g, cap, rfl, hg, hcell⟩ := strs_at hv hne
  clear hv hne CC
  have hbs := hb.size
  generalize hn : items.length = n at *
  have HN := Lib.hid hn
  have HC := Lib.hid hcell
  clear hn hcell
  go_wp2_with fail
  go_loopw [5, 6, 7] (fun v gr i wr => ∃ (k M : Nat) (b : Bool) (nums : List Nat), k ≤ n ∧ i = .int .i64 (k : Int) ∧ gr = .bool b ∧ nums.length ≤ 32 * k ∧ wr.ownsRow w1.heap.size 3 1 v nums.length (nums.map fun r : Nat => Value.int .i64 (r : Int)) ∧ Below w1.heap.size w1 wr ∧
      Hid (∀ r, parL (items.take k ++ r) 0 false = parL r M b) ∧ Hid (b = false → ofL 0 (ints nums) = (M, 0))) (fun _ _ i _ => n - (intOf i).toNat)
  case atStart => exact ⟨0, 0, false, [], by omega, rfl, rfl, by simp, World.ownsRow_nil _ _ _ _, Below.refl _ _, Lib.hid (fun r => rfl), Lib.hid (fun _ => rfl)⟩
  case round =>
    obtain ⟨k, M, b, nums, hk, rfl, rfl, hnl, hown, hbel, HP, HO⟩ := hrel
    have hbs2 := hbel.size
    by_cases hlt : k < n
    · obtain ⟨x, hx⟩ : ∃ x, items[k]? = some x := ⟨_, List.getElem?_eq_getElem (by rw [HN.out]; exact hlt)⟩
      have hxm : x ∈ items := List.mem_of_getElem? hx
      have hcx : wr.cell? ⟨g, k, none⟩ = some (.string x) := by
        have := HC.out k x hx
        rw [Nat.zero_add] at this
        rw [hbel.cell (p := ⟨g, k, none⟩) hg, this]
      have CX := Lib.hid (rcut_any x 45 wr (by have := HIT.out x hxm; omega))
      have HPK : Hid (∀ r, parL (items.take (k + 1) ++ r) 0 false = parL (x :: r) M b) := Lib.hid (fun r => by
        rw [List.take_add_one, hx, List.append_assoc, HP.out]; rfl)
      have HF := Lib.hid (item_forms x)
      clear hx hxm
      go_wp2_with fail
      refine CX.out.mono ?_
      rintro e w2 ⟨v2, rfl, hv2, hb2⟩
      have hown2 := own_below hown hb2
      have hbel2 : Below w1.heap.size w1 w2 := hbel.trans (hb2.mono hbel.size)
      have hbs3 := hbel2.size
      rcases HF.out with ⟨hp, hr⟩ | ⟨p, y, hp, hr⟩ | ⟨p, y, z, r3, hp, hr⟩
      · rw [hp] at hv2
        obtain ⟨g2, cap2, rfl, hg2, hc2⟩ := strs_at hv2 (by simp)
        have hcp : w2.cell? ⟨g2, 0, none⟩ = some (.string x) := hc2 0 x rfl
        have CP := fun W => small_any x W
        clear hc2 hv2 hp HF
        cases hnn : numO x.data.toList with
        | none =>
          have hrn : rngO x = none := by rw [hr, hnn]; rfl
          rw [numS_none hnn] at CP
          have CP1 := Lib.hid CP
          clear CP hr hnn
          have HR : Hid (parL items 0 false = (0, 11)) := Lib.hid (by
            have := HPK.out (items.drop (k + 1))
            rw [List.take_append_drop] at this
            rw [this, parL, hrn])
          clear hrn
          go_wp2_with fail
          refine (CP1.out _).mono ?_
          rintro e w' ⟨rfl, rfl⟩
          go_wp2_with fail
          go_ret2
          exact ⟨ret_pair (m := 0) (by rw [HR.out]) (by rw [HR.out]), hb.trans (hbel2.mono hbs)⟩
        | some nn =>
          have hrn : rngO x = some (nn, nn) := by rw [hr, hnn]; rfl
          rw [numS_some hnn] at CP
          have CP1 := Lib.hid CP
          have HNO := Lib.hid hnn
          have HMO := Lib.hid hnn
          clear CP hr hnn
          have HOK := Lib.hid hrn
          clear hrn
          have hN1 := numO_lt HNO.out
          have hM1 := numO_lt HMO.out
          have HO1 : Hid (b = false → Hid (ofL 0 (ints nums) = (M, 0))) := Lib.hid (fun h => Lib.hid (HO.out h))
          clear HO
          cases b
          all_goals
            go_wp2_with fail
            refine (CP1.out _).mono ?_
            rintro e w' ⟨rfl, rfl⟩
            have hs1 : decide ((nn : Int) < 0) = false := by simp <;> omega
            have hs2 : decide (nn < nn) = false := decide_eq_false (by omega)
            obtain ⟨D, hd32, hmD⟩ : ∃ D, decide ((32 : Int) ≤ (nn : Int)) = D ∧ (D = false ↔ nn < 32) := ⟨_, rfl, by simp; omega⟩
            have HMD := Lib.hid hmD
            clear hmD
            go_wp2_with fail
            go_loopw [5, 11] (fun v j wr' => ∃ c : Nat, c ≤ addC nn nn ∧ j = .int .i64 ((nn : Int) + c) ∧ wr'.ownsRow w1.heap.size 3 1 v (nums.length + c) ((nums.map fun r : Nat => Value.int .i64 (r : Int)) ++ ((upto nn c).map fun r : Nat => Value.int .i64 (r : Int))) ∧ Below w1.heap.size w1 wr') (fun _ j _ => 20000 - (intOf j).toNat)
            case atStart => exact ⟨0, Nat.zero_le _, val_eq (by omega), by simpa [upto] using hown2, hbel2⟩
            case round =>
              obtain ⟨c, hc, rfl, hown3, hbel3⟩ := hrel
              have hbs4 := hbel3.size
              clear hown hown2 hbel
              by_cases hcl : c < addC nn nn
              · have hcA : nn + c ≤ nn ∧ nn + c < 32 := by unfold addC at hcl; omega
                obtain ⟨q1, q2⟩ := hcA
                clear hc hcl
                go_wp2_with (first
                  | (at_builtin; refine wpList_append_own _ rfl _ _ 22 rfl w1.heap.size 3 i0 (.int .i64 0) 1 8 Tryd.underlying22 hi hz0 hz1 hz2 rfl (by decide) _ _ _ rfl (hown3.alloc _) ⟨wr.heap.size, 0, none⟩ 1 1 [.int .i64 ((nn : Int) + c)] rfl rfl (one_cell _ _ _) (by intro u hu; simp at hu; subst hu; rfl) (by unfold maxLen; omega) (by omega) (by simp; omega) ?_)
                  | fail)
                intro v' w4 hown' hgrow _
                go_wp2_with fail
                refine ⟨⟨c + 1, by unfold addC; omega, val_eq (by omega), ?_, (hbel3.alloc hbs4 _).grown hgrow (by simp; omega) (fun k hk => (hown3.lt k hk).1)⟩, ?_⟩
                · have e : upto nn (c + 1) = upto nn c ++ [nn + c] := by unfold upto; rw [List.range'_concat]; simp
                  rw [e, List.map_append, ← List.append_assoc, ← Nat.add_assoc]
                  simpa using hown'
                · simp [intOf]; omega
              · have hce : c = addC nn nn := by omega
                have HCE := Lib.hid hce
                have q1 : nn < nn + c ∨ 32 ≤ nn + c := by unfold addC at hce; omega
                clear hce hcl hc
                rcases q1 with q1 | q1
                all_goals go_wp2_with fail
                all_goals
                  refine ⟨⟨k + 1, (if nn < 32 then M ||| (2 ^ (nn + 1) - 2 ^ nn) else M), _, nums ++ upto nn c, by omega, by go_num, rfl, by have := HCE.out; rw [List.length_append, upto, List.length_range']; unfold addC at this; omega, by rw [List.length_append, upto, List.length_range', List.map_append]; exact hown3, hbel3, Lib.hid ?_, Lib.hid ?_⟩, ?_⟩
                  · intro r
                    rw [HPK.out, parL, HOK.out]
                    show (if nn < 32 then _ else _) = _
                    by_cases hm : nn < 32
                    · rw [if_pos hm, if_pos hm] <;> first | rfl | rw [HMD.out.2 hm]
                    · rw [if_neg hm, if_neg hm] <;> first | rfl | rw [dtrue HMD.out hm]
                  · intro hbf
                    first
                      | (exfalso; cases hbf; done)
                      | (have hm := HMD.out.1 hbf
                         rw [if_pos hm]
                         have e2 : ints (nums ++ upto nn c) = ints nums ++ ints (upto nn c) := by simp [ints]
                         rw [e2, ofL_app _ _ _ _ (HO1.out (by trivial)).out, ofL_upto M nn c (by have := HCE.out; unfold addC at this; omega), show nn + c = nn + 1 by have := HCE.out; unfold addC at this; omega])
                  · simp [intOf]; omega
      · rw [hp] at hv2
        obtain ⟨g2, cap2, rfl, hg2, hc2⟩ := strs_at hv2 (by simp)
        have hcp : w2.cell? ⟨g2, 0, none⟩ = some (.string p) := hc2 0 p rfl
        have hcy : w2.cell? ⟨g2, 1, none⟩ = some (.string y) := hc2 1 y rfl
        have CP := fun W => small_any p W
        have CY := fun W => small_any y W
        clear hc2 hv2 hp HF
        cases hnn : numO p.data.toList with
        | none =>
          have hrn : rngO x = none := by rw [hr, hnn]
          rw [numS_none hnn] at CP
          have CP1 := Lib.hid CP
          have CY1 := Lib.hid CY
          clear CP CY hr hnn
          have HR : Hid (parL items 0 false = (0, 11)) := Lib.hid (by
            have := HPK.out (items.drop (k + 1))
            rw [List.take_append_drop] at this
            rw [this, parL, hrn])
          clear hrn
          go_wp2_with fail
          refine (CP1.out _).mono ?_
          rintro e w' ⟨rfl, rfl⟩
          go_wp2_with fail
          refine (CY1.out _).mono ?_
          rintro e w' ⟨rfl, rfl⟩
          go_wp2_with fail
          go_ret2
          exact ⟨ret_pair (m := 0) (by rw [HR.out]) (by rw [HR.out]), hb.trans (hbel2.mono hbs)⟩
        | some nn =>
          rw [hnn] at hr
          dsimp only at hr
          rw [numS_some hnn] at CP
          have CP1 := Lib.hid CP
          have HNO := Lib.hid hnn
          have hnn1 := numO_lt hnn
          clear CP hnn
          cases hmm : numO y.data.toList with
          | none =>
            have hrn : rngO x = none := by rw [hr, hmm]
            rw [numS_none hmm] at CY
            have CY1 := Lib.hid CY
            clear CY hr hmm
            have HR : Hid (parL items 0 false = (0, 11)) := Lib.hid (by
              have := HPK.out (items.drop (k + 1))
              rw [List.take_append_drop] at this
              rw [this, parL, hrn])
            clear hrn
            go_wp2_with fail
            refine (CP1.out _).mono ?_
            rintro e w' ⟨rfl, rfl⟩
            go_wp2_with fail
            refine (CY1.out _).mono ?_
            rintro e w' ⟨rfl, rfl⟩
            go_wp2_with fail
            go_ret2
            exact ⟨ret_pair (m := 0) (by rw [HR.out]) (by rw [HR.out]), hb.trans (hbel2.mono hbs)⟩
          | some mm =>
            rw [hmm] at hr
            dsimp only at hr
            rw [numS_some hmm] at CY
            have CY1 := Lib.hid CY
            have HMO := Lib.hid hmm
            have hmm1 := numO_lt hmm
            clear CY hmm
            by_cases hle : nn ≤ mm
            · have hrn : rngO x = some (nn, mm) := by rw [hr, if_pos hle]
              clear hr
              have HOK := Lib.hid hrn
              clear hrn
              have hN1 := numO_lt HNO.out
              have hM1 := numO_lt HMO.out
              have HO1 : Hid (b = false → Hid (ofL 0 (ints nums) = (M, 0))) := Lib.hid (fun h => Lib.hid (HO.out h))
              clear HO
              cases b
              all_goals
                go_wp2_with fail
                refine (CP1.out _).mono ?_
                rintro e w' ⟨rfl, rfl⟩
                go_wp2_with fail
                refine (CY1.out _).mono ?_
                rintro e w' ⟨rfl, rfl⟩
                have hs1 : decide ((nn : Int) < 0) = false := by simp <;> omega
                have hs2 : decide (mm < nn) = false := decide_eq_false (by omega)
                obtain ⟨D, hd32, hmD⟩ : ∃ D, decide ((32 : Int) ≤ (mm : Int)) = D ∧ (D = false ↔ mm < 32) := ⟨_, rfl, by simp; omega⟩
                have HMD := Lib.hid hmD
                clear hmD
                go_wp2_with fail
                go_loopw [5, 11] (fun v j wr' => ∃ c : Nat, c ≤ addC nn mm ∧ j = .int .i64 ((nn : Int) + c) ∧ wr'.ownsRow w1.heap.size 3 1 v (nums.length + c) ((nums.map fun r : Nat => Value.int .i64 (r : Int)) ++ ((upto nn c).map fun r : Nat => Value.int .i64 (r : Int))) ∧ Below w1.heap.size w1 wr') (fun _ j _ => 20000 - (intOf j).toNat)
                case atStart => exact ⟨0, Nat.zero_le _, val_eq (by omega), by simpa [upto] using hown2, hbel2⟩
                case round =>
                  obtain ⟨c, hc, rfl, hown3, hbel3⟩ := hrel
                  have hbs4 := hbel3.size
                  clear hown hown2 hbel
                  by_cases hcl : c < addC nn mm
                  · have hcA : nn + c ≤ mm ∧ nn + c < 32 := by unfold addC at hcl; omega
                    obtain ⟨q1, q2⟩ := hcA
                    clear hc hcl
                    go_wp2_with (first
                      | (at_builtin; refine wpList_append_own _ rfl _ _ 22 rfl w1.heap.size 3 i0 (.int .i64 0) 1 8 Tryd.underlying22 hi hz0 hz1 hz2 rfl (by decide) _ _ _ rfl (hown3.alloc _) ⟨wr.heap.size, 0, none⟩ 1 1 [.int .i64 ((nn : Int) + c)] rfl rfl (one_cell _ _ _) (by intro u hu; simp at hu; subst hu; rfl) (by unfold maxLen; omega) (by omega) (by simp; omega) ?_)
                      | fail)
                    intro v' w4 hown' hgrow _
                    go_wp2_with fail
                    refine ⟨⟨c + 1, by unfold addC; omega, val_eq (by omega), ?_, (hbel3.alloc hbs4 _).grown hgrow (by simp; omega) (fun k hk => (hown3.lt k hk).1)⟩, ?_⟩
                    · have e : upto nn (c + 1) = upto nn c ++ [nn + c] := by unfold upto; rw [List.range'_concat]; simp
                      rw [e, List.map_append, ← List.append_assoc, ← Nat.add_assoc]
                      simpa using hown'
                    · simp [intOf]; omega
                  · have hce : c = addC nn mm := by omega
                    have HCE := Lib.hid hce
                    have q1 : mm < nn + c ∨ 32 ≤ nn + c := by unfold addC at hce; omega
                    clear hce hcl hc
                    rcases q1 with q1 | q1
                    all_goals go_wp2_with fail
                    all_goals
                      refine ⟨⟨k + 1, (if mm < 32 then M ||| (2 ^ (mm + 1) - 2 ^ nn) else M), _, nums ++ upto nn c, by omega, by go_num, rfl, by have := HCE.out; rw [List.length_append, upto, List.length_range']; unfold addC at this; omega, by rw [List.length_append, upto, List.length_range', List.map_append]; exact hown3, hbel3, Lib.hid ?_, Lib.hid ?_⟩, ?_⟩
                      · intro r
                        rw [HPK.out, parL, HOK.out]
                        show (if mm < 32 then _ else _) = _
                        by_cases hm : mm < 32
                        · rw [if_pos hm, if_pos hm] <;> first | rfl | rw [HMD.out.2 hm]
                        · rw [if_neg hm, if_neg hm] <;> first | rfl | rw [dtrue HMD.out hm]
                      · intro hbf
                        first
                          | (exfalso; cases hbf; done)
                          | (have hm := HMD.out.1 hbf
                             rw [if_pos hm]
                             have e2 : ints (nums ++ upto nn c) = ints nums ++ ints (upto nn c) := by simp [ints]
                             rw [e2, ofL_app _ _ _ _ (HO1.out (by trivial)).out, ofL_upto M nn c (by have := HCE.out; unfold addC at this; omega), show nn + c = mm + 1 by have := HCE.out; unfold addC at this; omega])
                      · simp [intOf]; omega
            · have hrn : rngO x = none := by rw [hr, if_neg hle]
              have hlt2 : mm < nn := by omega
              clear hr hle
              have HR : Hid (parL items 0 false = (0, 11)) := Lib.hid (by
                have := HPK.out (items.drop (k + 1))
                rw [List.take_append_drop] at this
                rw [this, parL, hrn])
              clear hrn
              go_wp2_with fail
              refine (CP1.out _).mono ?_
              rintro e w' ⟨rfl, rfl⟩
              go_wp2_with fail
              refine (CY1.out _).mono ?_
              rintro e w' ⟨rfl, rfl⟩
              go_wp2_with fail
              go_ret2
              exact ⟨ret_pair (m := 0) (by rw [HR.out]) (by rw [HR.out]), hb.trans (hbel2.mono hbs)⟩
      · rw [hp] at hv2
        obtain ⟨g2, cap2, rfl, hg2, hc2⟩ := strs_at hv2 (by simp)
        have hcp : w2.cell? ⟨g2, 0, none⟩ = some (.string p) := hc2 0 p rfl
        have CP := Lib.hid (fun W => small_any p W)
        have HR : Hid (parL items 0 false = (0, 11)) := Lib.hid (by
          have := HPK.out (items.drop (k + 1))
          rw [List.take_append_drop] at this
          rw [this, parL, hr])
        clear hc2 hv2 hr hp HF
        go_wp2_with fail
        refine (CP.out _).mono ?_
        rintro e w' ⟨rfl, rfl⟩
        go_wp2_with fail
        go_ret2
        exact ⟨ret_pair (m := 0) (by rw [HR.out]) (by rw [HR.out]), hb.trans (hbel2.mono hbs)⟩
    · have hkn : k = n := by omega
      have HR := Lib.hid (by have := HP.out []; rwa [List.append_nil, List.take_of_length_le (by rw [HN.out]; omega)] at this : parL items 0 false = parL [] M b)
      have CO := fun (W : World) (v : Value) (h : IsInts W v (ints nums)) => rof_any v (ints nums) W h (by simp [ints]; omega)
      clear hkn
      cases b
      · have HO1 := Lib.hid (HO.out rfl)
        rw [HO1.out] at CO
        have CO1 := Lib.hid CO
        clear CO
        go_wp2_with fail
        refine (CO1.out _ _ (ints_of_own hown)).mono ?_
        rintro e w' ⟨rfl, q, rfl⟩
        go_wp2_with fail
        go_ret2
        exact ⟨ret_pair (by rw [HR.out]; rfl) (by rw [HR.out]; rfl), below_drewN (hb.trans (hbel.mono hbs)) _⟩
      · go_wp2_with fail
        go_ret2
        exact ⟨ret_pair (m := 0) (by rw [HR.out]; rfl) (by rw [HR.out]; rfl), hb.trans (hbel.mono hbs)⟩
end Go.Proofs.YtjckgehlojcinaaDoor.mk
