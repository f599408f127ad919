/-
  The reference's Format writes the same text as mask.Format.
-/
import Derived.Test.YtjckgehlojcinaaDoorRef
import Derived.Test.YtjckgehlojcinaaDoorRun
namespace Go.Proofs.YtjckgehlojcinaaDoor.mk
open Go.RowKit

/-- what the walk knows of a list that it was given -/
theorem cells_of {w : World} {v : Value} {L : List Nat} (h : IsInts w v (ints L)) (hn : L ≠ []) :
    ∃ b o c, v = .slice (some ⟨b, o, none⟩) L.length c ∧ ∀ j, j < L.length → w.cell? ⟨b, o + j, none⟩ = some (.int .i64 ((L.getD j 0 : Nat) : Int)) := by
  rcases h with ⟨a, c, rfl, hz⟩ | ⟨b, o, c, rfl, hc⟩
  · exact absurd (by simpa [ints] using hz) hn
  · refine ⟨b, o, c, by simp [ints], fun j hj => ?_⟩
    rw [hc j (by simpa [ints] using hj)]
    simp [ints, List.getD, hj]

set_option maxHeartbeats 1000000 in
theorem rformat_none (m : Nat) (w : World) (C : Hid (Calls Tryd.prog 19 #[.int .u64 m] w (RetInts w []))) :
    Calls Tryd.prog 21 #[.int .u64 m] w fun e w' => e = .returned (.string ⟨[110, 111, 110, 101].toArray⟩) ∧ Below w.heap.size w w' := by
  go_enter Tryd.func21, Tryd.ntmps21
  go_wp2_with fail
  refine C.out.mono ?_
  rintro e w' ⟨v, rfl, hv, hb⟩
  have hz : ∃ a c, v = .slice a 0 c := by
    rcases hv with ⟨a, c, rfl, _⟩ | ⟨b, o, c, rfl, _⟩
    · exact ⟨a, c, rfl⟩
    · exact ⟨_, c, rfl⟩
  obtain ⟨a, c, rfl⟩ := hz
  go_wp2_with fail
  go_ret
  exact ⟨rfl, hb⟩

set_option maxHeartbeats 1000000 in
theorem rformat_full (m : Nat) (w : World) (L : List Nat) (hL : L.length = 32) (C : Hid (Calls Tryd.prog 19 #[.int .u64 m] w (RetInts w L))) :
    Calls Tryd.prog 21 #[.int .u64 m] w fun e w' => e = .returned (.string ⟨[97, 108, 108].toArray⟩) ∧ Below w.heap.size w w' := by
  go_enter Tryd.func21, Tryd.ntmps21
  go_wp2_with fail
  refine C.out.mono ?_
  rintro e w' ⟨v, rfl, hv, hb⟩
  obtain ⟨b, o, c, rfl, _⟩ := cells_of hv (by intro hc; subst hc; simp at hL)
  rw [hL]
  clear hL
  go_wp2_with fail
  go_ret
  exact ⟨rfl, hb⟩

theorem digits_ne (n : Nat) : Lib.decDigits n ≠ [] := by
  unfold Lib.decDigits
  split <;> simp

theorem fmtR_ne (r : Nat × Nat) : fmtR r ≠ [] := by
  unfold fmtR
  split
  · exact digits_ne _
  · simp [digits_ne]

theorem join_ne : ∀ (xs : List (List UInt8)), xs ≠ [] → (∀ x ∈ xs, x ≠ []) → Lib.join xs [44] ≠ []
  | [], h, _ => absurd rfl h
  | [x], _, hx => by rw [Lib.join_one]; exact hx x (by simp)
  | x :: y :: r, _, hx => by
    have e : Lib.join (x :: y :: r) [44] = x ++ [44] ++ Lib.join (y :: r) [44] := by simp [Lib.join, List.intercalate, List.intersperse]
    rw [e]; simp

theorem text_empty (done : List (Nat × Nat)) (S : ByteArray) (hS : S = ⟨(Lib.join (done.map fmtR) [44]).toArray⟩) : (!S.toList.isEmpty) = decide (done ≠ []) := by
  have e : S.toList = Lib.join (done.map fmtR) [44] := by rw [hS]; simp
  rw [e]
  by_cases h : done = []
  · subst h; simp [Lib.join_nil]
  · have := join_ne (done.map fmtR) (by simpa using h) (fun x hx => by obtain ⟨r, _, rfl⟩ := List.mem_map.1 hx; exact fmtR_ne r)
    simp [h, this]

set_option maxHeartbeats 4000000 in
set_option maxRecDepth 100000 in
theorem rformat_some (m : Nat) (w : World) (L : List Nat) (hL : L ≠ []) (hL2 : L.length < 32) (hv32 : ∀ j, j < L.length → L.getD j 0 < 32)
    (C : Hid (Calls Tryd.prog 19 #[.int .u64 m] w (RetInts w L))) :
    Calls Tryd.prog 21 #[.int .u64 m] w fun e w' => e = .returned (.string ⟨(Lib.join ((grp 33 L).map fmtR) [44]).toArray⟩) ∧ Below w.heap.size w w' := by
  have hL0 : 0 < L.length := List.length_pos_iff.2 hL
  go_enter Tryd.func21, Tryd.ntmps21
  go_wp2_with fail
  refine C.out.mono ?_
  rintro e w1 ⟨v, rfl, hv, hb⟩
  obtain ⟨b, o, c, rfl, hc⟩ := cells_of hv hL
  clear hv C
  generalize hn : L.length = n at *
  have HN := Lib.hid hn
  have HC := Lib.hid hc
  have HV := Lib.hid hv32
  have HL := Lib.hid hL
  clear hn hc hv32 hL
  have t1 : ((n : Int) == 0) = false := by simp; omega
  have t2 : ((n : Int) == 32) = false := by simp; omega
  go_wp2_with fail
  go_loopw [4, 5] (fun s i wr => ∃ (k f q : Nat) (done : List (Nat × Nat)) (S : ByteArray), k ≤ n ∧ i = .int .i64 (k : Int) ∧ s = .string S ∧ S.size ≤ 6 * done.length ∧ done.length ≤ k ∧ n - k ≤ f ∧
      Hid (S = ⟨(Lib.join (done.map fmtR) [44]).toArray⟩) ∧ Hid (grp 33 L = done ++ grp f (L.drop k)) ∧ wr = w1.drewN q) (fun _ i _ => n - (intOf i).toNat)
  case atStart => exact ⟨0, 33, 0, [], ⟨#[]⟩, by omega, rfl, rfl, by decide, by simp, by omega, Lib.hid (by simp [Lib.join_nil]), Lib.hid (by simp), rfl⟩
  case round =>
    obtain ⟨k, f, q, done, S, hk, rfl, rfl, hS, hd, hf, HS, HG, rfl⟩ := hrel
    by_cases hlt : k < n
    · have hlen : (L.drop k).length = n - k := by rw [List.length_drop, HN.out]
      have hne : L.drop k ≠ [] := by intro hc; rw [hc] at hlen; simp at hlen; omega
      have hp := runLen_pos _ hne
      have hle := runLen_le (L.drop k)
      rw [hlen] at hle
      have gd : ∀ j, (L.drop k).getD j 0 = L.getD (k + j) 0 := fun j => by simp [List.getD]
      have HI : Hid (∀ j, j + 1 < runLen (L.drop k) → L.getD (k + (j + 1)) 0 = L.getD (k + j) 0 + 1) := Lib.hid (fun j hj => by
        have := runLen_in _ j hj; rwa [gd, gd] at this)
      have HO : Hid (∀ j, j + 1 = runLen (L.drop k) → k + (j + 1) < n → L.getD (k + (j + 1)) 0 ≠ L.getD (k + j) 0 + 1) := Lib.hid (fun j hj hb => by
        have := runLen_out _ j hj (by rw [hlen]; omega); rwa [gd, gd] at this)
      have HVL : Hid (∀ j, j < runLen (L.drop k) → L.getD (k + j) 0 = L.getD k 0 + j) := Lib.hid (fun j hj => by
        have := runLen_val _ j hj; rwa [gd, gd] at this)
      have HGC : Hid (∀ f', f = f' + 1 → grp f (L.drop k) = (L.getD k 0, L.getD k 0 + runLen (L.drop k) - 1) :: grp f' (L.drop (k + runLen (L.drop k)))) := Lib.hid (fun f' hf' => by
        subst hf'
        rw [grp_cons f' _ hne, gd, List.drop_drop]; rfl)
      generalize runLen (L.drop k) = r at *
      clear hne hlen gd
      go_wp2_with fail
      go_loopw [6] (fun x wr => ∃ (K q2 : Nat), k ≤ K ∧ K < k + r ∧ x = .int .i64 (K : Int) ∧ wr = w1.drewN q2) (fun x _ => n - (intOf x).toNat)
      case atStart => exact ⟨k, q, by omega, by omega, rfl, rfl⟩
      case round =>
        obtain ⟨K, q2, hk1, hk2, rfl, rfl⟩ := hrel
        have hc0 := HC.out K (by omega)
        have v0 := HV.out K (by omega)
        by_cases hj1 : K + 1 < k + r
        · have hc1 := HC.out (K + 1) (by omega)
          have v1 := HV.out (K + 1) (by omega)
          have hd1 : decide ((K : Int) + 1 < (n : Int)) = true := by simp; omega
          have e : L.getD (K + 1) 0 = L.getD K 0 + 1 := by
            have := HI.out (K - k) (by omega)
            rwa [show k + (K - k + 1) = K + 1 by omega, show k + (K - k) = K by omega] at this
          rw [e] at hc1 v1
          clear e
          generalize L.getD K 0 = x at *
          go_wp2_with fail
          go_quiet (fail)
          go_wp2_with fail
          go_roundw
          case rel => exact ⟨K + 1, _, by omega, by omega, by go_num, rfl⟩
          case measure => simp [intOf]; omega
        · have hKr : K = k + r - 1 := by omega
          have HK := Lib.hid hKr
          have hck := HC.out k (by omega)
          have HX : Hid (L.getD K 0 = L.getD k 0 + r - 1) := Lib.hid (by
            have := HVL.out (r - 1) (by omega)
            rw [show k + (r - 1) = K by omega] at this
            omega)
          have vk := HV.out k (by omega)
          obtain ⟨f', hf'⟩ : ∃ f', f = f' + 1 := ⟨f - 1, by omega⟩
          have HGF := Lib.hid (HGC.out f' hf')
          have hD1 := digits_len (L.getD k 0) (by omega)
          have hD2 := digits_len (L.getD K 0) (by omega)
          have HF : Hid (fmtR (L.getD k 0, L.getD k 0 + r - 1) = if r = 1 then Lib.decDigits (L.getD k 0) else Lib.decDigits (L.getD k 0) ++ (45 :: Lib.decDigits (L.getD K 0))) := Lib.hid (by
            unfold fmtR
            by_cases h1 : r = 1
            · rw [if_pos h1, if_pos (by show L.getD k 0 = L.getD k 0 + r - 1; omega)]
            · rw [if_neg h1, if_neg (by show ¬ L.getD k 0 = L.getD k 0 + r - 1; omega), HX.out])
          have CD1 := Lib.hid (fun W => dec_any (L.getD k 0) W (by omega))
          have CD2 := Lib.hid (fun W => dec_any (L.getD K 0) W (by omega))
          have HE := Lib.hid (text_empty done S HS.out)
          have hwalk : (K + 1 < n ∧ (((L.getD (K + 1) 0 : Nat) : Int) == ((L.getD K 0 : Nat) : Int) + 1) = false ∧ w1.cell? ⟨b, o + (K + 1), none⟩ = some (.int .i64 ((L.getD (K + 1) 0 : Nat) : Int))) ∨ K + 1 = n := by
            by_cases hin : K + 1 < n
            · refine .inl ⟨hin, ?_, HC.out _ hin⟩
              have := HO.out (K - k) (by omega) (by omega)
              rw [show k + (K - k + 1) = K + 1 by omega, show k + (K - k) = K by omega] at this
              exact beq_eq_false_iff_ne.2 (by omega)
            · exact .inr (by omega)
          generalize hxk : L.getD k 0 = x at *
          generalize hxK : L.getD K 0 = y at *
          generalize L.getD (K + 1) 0 = z at *
          generalize Lib.decDigits x = D at *
          generalize Lib.decDigits y = D2 at *
          have HXK := Lib.hid hxk
          have HXK' := Lib.hid hxK
          clear hxk hxK
          have fin : ∀ T : ByteArray, T = (if done = [] then S else S ++ ⟨#[44]⟩) ++ ⟨(if r = 1 then D else D ++ (45 :: D2)).toArray⟩ → T.size ≤ 6 * (done.length + 1) ∧ T = ⟨(Lib.join ((done ++ [(x, x + r - 1)]).map fmtR) [44]).toArray⟩ ∧
              grp 33 L = (done ++ [(x, x + r - 1)]) ++ grp f' (L.drop (K + 1)) := by
            intro T hT
            refine ⟨?_, ?_, ?_⟩
            · subst hT
              simp only [ByteArray.size_append]
              have e1 : (if done = [] then S else S ++ ⟨#[44]⟩).size ≤ S.size + 1 := by
                split
                · omega
                · rw [ByteArray.size_append]
                  show S.size + 1 ≤ S.size + 1
                  omega
              have e2 : (⟨(if r = 1 then D else D ++ (45 :: D2)).toArray⟩ : ByteArray).size ≤ 5 := by
                show (if r = 1 then D else D ++ (45 :: D2)).toArray.size ≤ 5
                rw [List.size_toArray]
                split
                · omega
                · simp; omega
              omega
            · rw [hT, HS.out, List.map_append, List.map_cons, List.map_nil, HF.out]
              apply ByteArray.ext
              by_cases hdn : done = []
              · subst hdn
                simp [Lib.join_one, Lib.join_nil]
              · rw [if_neg hdn, join_snoc _ _ (by simpa using hdn)]
                simp
            · rw [HG.out, HGF.out, show k + r = K + 1 by omega, List.append_assoc]; rfl
          have FIN := Lib.hid fin
          have hff : f ≤ f' + 1 := by omega
          clear fin HGF HF HGC HI HO HVL hKr hf'
          have hdn32 : done.length < 32 := by omega
          rcases hwalk with ⟨hin, he, hc1⟩ | hin
          · have hd1 : decide ((K : Int) + 1 < (n : Int)) = true := by simp; omega
            by_cases hdn : done = []
            · by_cases hr1 : r = 1
              · have he0 : (!S.toList.isEmpty) = false := by rw [HE.out]; simp [hdn]
                have HDN := Lib.hid hdn
                clear hdn
                have hKk : K ≤ k := by omega
                have HR := Lib.hid hr1
                clear hr1
                go_wp2_with fail
                go_quiet (fail)
                go_wp2_with fail
                refine (CD1.out _).mono ?_
                rintro e w' ⟨rfl, rfl⟩
                go_wp2_with fail
                obtain ⟨g1, g2, g3⟩ := FIN.out (S ++ ⟨D.toArray⟩) (by
                  rw [if_pos HDN.out, if_pos HR.out] <;> (apply ByteArray.ext; simp))
                refine ⟨⟨K + 1, f', _, done ++ [(x, x + r - 1)], S ++ ⟨D.toArray⟩, by omega, by go_num, rfl, by rw [List.length_append]; exact g1, by simp; omega, by omega, Lib.hid g2, Lib.hid g3, rfl⟩, ?_⟩
                simp [intOf]; omega
              · have he0 : (!S.toList.isEmpty) = false := by rw [HE.out]; simp [hdn]
                have HDN := Lib.hid hdn
                clear hdn
                have hKk : k < K := by omega
                have HR := Lib.hid hr1
                clear hr1
                go_wp2_with fail
                go_quiet (fail)
                go_wp2_with fail
                refine (CD1.out _).mono ?_
                rintro e w' ⟨rfl, rfl⟩
                go_wp2_with fail
                refine (CD2.out _).mono ?_
                rintro e w' ⟨rfl, rfl⟩
                go_wp2_with fail
                obtain ⟨g1, g2, g3⟩ := FIN.out (S ++ ⟨D.toArray⟩ ++ (⟨#[45]⟩ ++ ⟨D2.toArray⟩)) (by
                  rw [if_pos HDN.out, if_neg HR.out] <;> (apply ByteArray.ext; simp))
                refine ⟨⟨K + 1, f', _, done ++ [(x, x + r - 1)], S ++ ⟨D.toArray⟩ ++ (⟨#[45]⟩ ++ ⟨D2.toArray⟩), by omega, by go_num, rfl, by rw [List.length_append]; exact g1, by simp; omega, by omega, Lib.hid g2, Lib.hid g3, rfl⟩, ?_⟩
                simp [intOf]; omega
            · by_cases hr1 : r = 1
              · have he0 : (!S.toList.isEmpty) = true := by rw [HE.out]; simp [hdn]
                have HDN := Lib.hid hdn
                clear hdn
                have hKk : K ≤ k := by omega
                have HR := Lib.hid hr1
                clear hr1
                go_wp2_with fail
                go_quiet (fail)
                go_wp2_with fail
                refine (CD1.out _).mono ?_
                rintro e w' ⟨rfl, rfl⟩
                go_wp2_with fail
                obtain ⟨g1, g2, g3⟩ := FIN.out (S ++ ⟨#[44]⟩ ++ ⟨D.toArray⟩) (by
                  rw [if_neg HDN.out, if_pos HR.out] <;> (apply ByteArray.ext; simp))
                refine ⟨⟨K + 1, f', _, done ++ [(x, x + r - 1)], S ++ ⟨#[44]⟩ ++ ⟨D.toArray⟩, by omega, by go_num, rfl, by rw [List.length_append]; exact g1, by simp; omega, by omega, Lib.hid g2, Lib.hid g3, rfl⟩, ?_⟩
                simp [intOf]; omega
              · have he0 : (!S.toList.isEmpty) = true := by rw [HE.out]; simp [hdn]
                have HDN := Lib.hid hdn
                clear hdn
                have hKk : k < K := by omega
                have HR := Lib.hid hr1
                clear hr1
                go_wp2_with fail
                go_quiet (fail)
                go_wp2_with fail
                refine (CD1.out _).mono ?_
                rintro e w' ⟨rfl, rfl⟩
                go_wp2_with fail
                refine (CD2.out _).mono ?_
                rintro e w' ⟨rfl, rfl⟩
                go_wp2_with fail
                obtain ⟨g1, g2, g3⟩ := FIN.out (S ++ ⟨#[44]⟩ ++ ⟨D.toArray⟩ ++ (⟨#[45]⟩ ++ ⟨D2.toArray⟩)) (by
                  rw [if_neg HDN.out, if_neg HR.out] <;> (apply ByteArray.ext; simp))
                refine ⟨⟨K + 1, f', _, done ++ [(x, x + r - 1)], S ++ ⟨#[44]⟩ ++ ⟨D.toArray⟩ ++ (⟨#[45]⟩ ++ ⟨D2.toArray⟩), by omega, by go_num, rfl, by rw [List.length_append]; exact g1, by simp; omega, by omega, Lib.hid g2, Lib.hid g3, rfl⟩, ?_⟩
                simp [intOf]; omega
          · have hd1 : decide ((K : Int) + 1 < (n : Int)) = false := by simp; omega
            have HIN := Lib.hid hin
            clear hin
            by_cases hdn : done = []
            · by_cases hr1 : r = 1
              · have he0 : (!S.toList.isEmpty) = false := by rw [HE.out]; simp [hdn]
                have HDN := Lib.hid hdn
                clear hdn
                have hKk : K ≤ k := by omega
                have HR := Lib.hid hr1
                clear hr1
                go_wp2_with fail
                go_quiet (fail)
                go_wp2_with fail
                refine (CD1.out _).mono ?_
                rintro e w' ⟨rfl, rfl⟩
                go_wp2_with fail
                obtain ⟨g1, g2, g3⟩ := FIN.out (S ++ ⟨D.toArray⟩) (by
                  rw [if_pos HDN.out, if_pos HR.out] <;> (apply ByteArray.ext; simp))
                refine ⟨⟨K + 1, f', _, done ++ [(x, x + r - 1)], S ++ ⟨D.toArray⟩, by omega, by go_num, rfl, by rw [List.length_append]; exact g1, by simp; omega, by omega, Lib.hid g2, Lib.hid g3, rfl⟩, ?_⟩
                simp [intOf]; omega
              · have he0 : (!S.toList.isEmpty) = false := by rw [HE.out]; simp [hdn]
                have HDN := Lib.hid hdn
                clear hdn
                have hKk : k < K := by omega
                have HR := Lib.hid hr1
                clear hr1
                go_wp2_with fail
                go_quiet (fail)
                go_wp2_with fail
                refine (CD1.out _).mono ?_
                rintro e w' ⟨rfl, rfl⟩
                go_wp2_with fail
                refine (CD2.out _).mono ?_
                rintro e w' ⟨rfl, rfl⟩
                go_wp2_with fail
                obtain ⟨g1, g2, g3⟩ := FIN.out (S ++ ⟨D.toArray⟩ ++ (⟨#[45]⟩ ++ ⟨D2.toArray⟩)) (by
                  rw [if_pos HDN.out, if_neg HR.out] <;> (apply ByteArray.ext; simp))
                refine ⟨⟨K + 1, f', _, done ++ [(x, x + r - 1)], S ++ ⟨D.toArray⟩ ++ (⟨#[45]⟩ ++ ⟨D2.toArray⟩), by omega, by go_num, rfl, by rw [List.length_append]; exact g1, by simp; omega, by omega, Lib.hid g2, Lib.hid g3, rfl⟩, ?_⟩
                simp [intOf]; omega
            · by_cases hr1 : r = 1
              · have he0 : (!S.toList.isEmpty) = true := by rw [HE.out]; simp [hdn]
                have HDN := Lib.hid hdn
                clear hdn
                have hKk : K ≤ k := by omega
                have HR := Lib.hid hr1
                clear hr1
                go_wp2_with fail
                go_quiet (fail)
                go_wp2_with fail
                refine (CD1.out _).mono ?_
                rintro e w' ⟨rfl, rfl⟩
                go_wp2_with fail
                obtain ⟨g1, g2, g3⟩ := FIN.out (S ++ ⟨#[44]⟩ ++ ⟨D.toArray⟩) (by
                  rw [if_neg HDN.out, if_pos HR.out] <;> (apply ByteArray.ext; simp))
                refine ⟨⟨K + 1, f', _, done ++ [(x, x + r - 1)], S ++ ⟨#[44]⟩ ++ ⟨D.toArray⟩, by omega, by go_num, rfl, by rw [List.length_append]; exact g1, by simp; omega, by omega, Lib.hid g2, Lib.hid g3, rfl⟩, ?_⟩
                simp [intOf]; omega
              · have he0 : (!S.toList.isEmpty) = true := by rw [HE.out]; simp [hdn]
                have HDN := Lib.hid hdn
                clear hdn
                have hKk : k < K := by omega
                have HR := Lib.hid hr1
                clear hr1
                go_wp2_with fail
                go_quiet (fail)
                go_wp2_with fail
                refine (CD1.out _).mono ?_
                rintro e w' ⟨rfl, rfl⟩
                go_wp2_with fail
                refine (CD2.out _).mono ?_
                rintro e w' ⟨rfl, rfl⟩
                go_wp2_with fail
                obtain ⟨g1, g2, g3⟩ := FIN.out (S ++ ⟨#[44]⟩ ++ ⟨D.toArray⟩ ++ (⟨#[45]⟩ ++ ⟨D2.toArray⟩)) (by
                  rw [if_neg HDN.out, if_neg HR.out] <;> (apply ByteArray.ext; simp))
                refine ⟨⟨K + 1, f', _, done ++ [(x, x + r - 1)], S ++ ⟨#[44]⟩ ++ ⟨D.toArray⟩ ++ (⟨#[45]⟩ ++ ⟨D2.toArray⟩), by omega, by go_num, rfl, by rw [List.length_append]; exact g1, by simp; omega, by omega, Lib.hid g2, Lib.hid g3, rfl⟩, ?_⟩
                simp [intOf]; omega
    · have hkn : k = n := by omega
      have HS' : Hid (S = ⟨(Lib.join ((grp 33 L).map fmtR) [44]).toArray⟩) := Lib.hid (by
        have e : grp f (L.drop k) = [] := by
          have : L.drop k = [] := List.drop_eq_nil_iff.2 (by rw [HN.out]; omega)
          rw [this]; cases f <;> rfl
        rw [HG.out, e, List.append_nil]; exact HS.out)
      clear hkn
      go_wp2_with fail
      go_ret
      exact ⟨ret_str (by rw [HS'.out]), below_drewN hb _⟩
end Go.Proofs.YtjckgehlojcinaaDoor.mk
