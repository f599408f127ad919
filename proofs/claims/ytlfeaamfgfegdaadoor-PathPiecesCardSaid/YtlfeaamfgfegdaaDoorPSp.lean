/-
  The reference's Split: the pieces of a text, in memory of the call's own.
-/
import Derived.Test.YtlfeaamfgfegdaaDoorPNm
import Derived.Test.YtlfeaamfgfegdaaDoorRCut
namespace Go.Proofs.YtlfeaamfgfegdaaDoor.pt
open Go.RowKit Go.Proofs.YtlfeaamfgfegdaaDoor.cm Go.Proofs.YtlfeaamfgfegdaaDoor.rg

def neB (x : ByteArray) : Bool := !x.data.toList.isEmpty
/-- the pieces of a text, as strings -/
def piecesB (s : ByteArray) : List ByteArray := (cutB 47 s).filter neB
def startsL (l : List UInt8) : Bool := l.head? == some 47

theorem pieces_list (s : ByteArray) : (piecesB s).map (fun x => x.data.toList) = piecesL s.data.toList := by
  unfold piecesB piecesL cutB
  rw [List.filter_map, List.map_map]
  have : ((fun x : ByteArray => x.data.toList) ∘ fun l : List UInt8 => (⟨l.toArray⟩ : ByteArray)) = id := by funext l; simp
  rw [this, List.map_id]
  congr 1
theorem neB_extract {s : ByteArray} {f k : Nat} (hf : f < k) (hk : k ≤ s.size) : neB (s.extract f k) = true := by
  unfold neB
  have hsz : (s.extract f k).size = k - f := by rw [ByteArray.size_extract]; omega
  cases h : (s.extract f k).data.toList with
  | nil =>
    have := Lib.size_eq (s.extract f k)
    rw [h, List.length_nil] at this; omega
  | cons _ _ => rfl
theorem neB_empty {s : ByteArray} {k j : Nat} (h : j ≤ k) : neB (s.extract k j) = false := by
  have hsz : (s.extract k j).size = 0 := by rw [ByteArray.size_extract]; omega
  unfold neB
  rw [Lib.size_eq] at hsz
  rw [List.length_eq_zero_iff.1 hsz]; rfl
theorem pieces_at {s : ByteArray} {f k : Nat} (hfk : f ≤ k) (h : s.data.toList[k]? = some 47) (hn : ∀ j : Nat, f ≤ j → j < k → s.data.toList[j]? ≠ some 47) :
    piecesB (s.extract f s.size) = (if f < k then [s.extract f k] else []) ++ piecesB (s.extract (k + 1) s.size) := by
  have hk : k < s.size := by have := (List.getElem?_eq_some_iff.1 h).1; rwa [← Lib.size_eq] at this
  unfold piecesB
  rw [cutB_at 47 s f k hfk h hn, List.filter_cons]
  split
  · rename_i h1
    rw [if_pos (Nat.lt_of_not_le fun hle => by rw [neB_empty hle] at h1; cases h1)]; rfl
  · rename_i h1
    rw [if_neg (fun hlt => h1 (neB_extract hlt (by omega)))]; rfl
theorem pieces_end {s : ByteArray} {f : Nat} (hn : ∀ j : Nat, f ≤ j → s.data.toList[j]? ≠ some 47) : piecesB (s.extract f s.size) = if f < s.size then [s.extract f s.size] else [] := by
  unfold piecesB
  rw [cutB_end 47 s f hn, List.filter_cons]
  split
  · rename_i h1
    rw [if_pos (Nat.lt_of_not_le fun hle => by rw [neB_empty hle] at h1; cases h1)]; rfl
  · rename_i h1
    rw [if_neg (fun hlt => h1 (neB_extract hlt (by omega)))]; rfl
theorem pieces_past {s : ByteArray} {f : Nat} (h : s.size ≤ f) : piecesB (s.extract f s.size) = [] := by
  rw [pieces_end (fun j hj => by rw [List.getElem?_eq_none (by rw [← Lib.size_eq]; omega)]; simp), if_neg (by omega)]
theorem starts_first {d : ByteArray} (h : 0 < d.size) : startsL d.data.toList = ((d[0]'h).toNat == 47) := by
  unfold startsL
  rw [List.head?_eq_getElem?, Lib.data_getElem? d 0 h, Bool.eq_iff_iff, beq_iff_eq, beq_iff_eq]
  constructor
  · intro e; rw [Option.some.inj e]; rfl
  · intro e; exact congrArg some (UInt8.toNat_inj.1 e)
theorem int_test {b : UInt8} {t : Bool} (h : t = (b.toNat == 47)) : ((b.toNat : Int) == 47) = t := by
  rw [h, Bool.eq_iff_iff, beq_iff_eq, beq_iff_eq]; omega

/-- what Split answers -/
def SplitR (s : ByteArray) (w : World) (e : Ending) (w' : World) : Prop :=
  ∃ v, e = .returned (.tuple #[v, .bool (startsL s.data.toList), .bool (endsL s.data.toList)]) ∧ OwnStrs w.heap.size w' v (piecesB s) ∧ Below w.heap.size w w'

set_option maxHeartbeats 4000000 in
set_option maxRecDepth 100000 in
theorem rSplit_any (s : ByteArray) (w : World) (hs : s.size ≤ 100000) :
    Calls Tryd.prog 25 #[.string s] w (SplitR s w) := by
  obtain ⟨i0, hi, hz0, hz1, hz2⟩ := info_parts infoStr
  have FIN : Hid (∀ (v : Value) (b1 b2 : Bool) (xs : List ByteArray) (W : World), piecesB s = xs → startsL s.data.toList = b1 → endsL s.data.toList = b2 → OwnStrs w.heap.size W v xs → Below w.heap.size w W → SplitR s w (.returned (.tuple #[v, .bool b1, .bool b2])) W) :=
    Lib.hid (fun v b1 b2 xs W h1 h2 h3 h4 h5 => by subst h1; subst h2; subst h3; exact ⟨v, rfl, h4, h5⟩)
  go_enter Tryd.func25, Tryd.ntmps25
  go_wp2_with fail
  go_loopw [5, 6, 7] (fun v a i wr => ∃ (k f : Nat) (done : List ByteArray), k ≤ s.size + 1 ∧ f ≤ k ∧ i = .int .i64 (k : Int) ∧ a = .int .i64 (f : Int) ∧ done.length ≤ k ∧ OwnStrs w.heap.size wr v done ∧ Below w.heap.size w wr ∧
      Hid (piecesB s = done ++ piecesB (s.extract f s.size)) ∧ Hid (∀ j : Nat, f ≤ j → j < k → s.data.toList[j]? ≠ some 47) ∧ Hid (k = s.size + 1 → f = k)) (fun _ _ i _ => s.size + 1 - (intOf i).toNat)
  case atStart => exact ⟨0, 0, [], Nat.zero_le _, Nat.le_refl _, rfl, rfl, Nat.le_refl _, World.ownsRow_nil _ _ _ _, Below.refl _ _, Lib.hid (by rw [rg.extract_all]; rfl), Lib.hid (fun j _ h => by omega), Lib.hid (fun h => by omega)⟩
  case round =>
    obtain ⟨k, f, done, hk, hfk, rfl, rfl, hd, hown, hbel, HC, HN, HE⟩ := hrel
    have hbs := hbel.size
    unfold OwnStrs at hown
    by_cases hle : k ≤ s.size
    · have hle' : decide ((k : Int) ≤ (s.size : Int)) = true := by simp; omega
      -- is here a slash, or the end
      by_cases hcut : k = s.size ∨ s.data.toList[k]? = some 47
      · have HR : Hid (piecesB (s.extract f s.size) = (if f < k then [s.extract f k] else []) ++ piecesB (s.extract (k + 1) s.size)) := Lib.hid (by
          by_cases hks : k = s.size
          · subst hks
            rw [pieces_end (fun j h1 => by
              by_cases hj : j < s.size
              · exact HN.out j h1 hj
              · rw [List.getElem?_eq_none (by rw [← Lib.size_eq]; omega)]; simp), pieces_past (by omega), List.append_nil]
          · rcases hcut with h | h
            · exact (hks h).elim
            · exact pieces_at hfk h HN.out)
        have NXT : Hid (∀ j : Nat, k + 1 ≤ j → j < k + 1 → s.data.toList[j]? ≠ some 47) := Lib.hid (fun j h1 h2 => by omega)
        have hopen : (((k : Int) == (s.size : Int)) = true) ∨ ((((k : Int) == (s.size : Int)) = false) ∧ ∃ h : k < s.size, ((((s[k]'h).toNat : Int) == 47) = true)) := by
          by_cases hks : k = s.size
          · left; simp; omega
          · right
            refine ⟨by simp; omega, by omega, ?_⟩
            rcases hcut with h | h
            · exact (hks h).elim
            · rw [Lib.data_getElem? s k (by omega)] at h
              rw [Option.some.inj h]; rfl
        by_cases hfk' : f < k
        · have hgt : decide ((f : Int) < (k : Int)) = true := by simp; omega
          have HR := HR.out
          rw [if_pos hfk'] at HR
          have HR := Lib.hid HR
          clear hcut
          have R1 : ∀ (W : World), wr = W → True := fun _ _ => trivial
          rcases hopen with h1 | ⟨h1, h2, h3⟩
          all_goals
            go_wp2_with (first
              | (at_builtin; refine wpList_append_own _ rfl _ _ 34 rfl w.heap.size 9 i0 (.string ⟨#[]⟩) 1 16 Tryd.underlying34 hi hz0 hz1 hz2 rfl (by decide) _ _ _ rfl (hown.alloc _) ⟨wr.heap.size, 0, none⟩ 1 1 [.string (s.extract f k)] rfl rfl ?c1 ?c2 ?c3 ?c4 ?c5 ?_)
              | fail)
            case c1 =>
              intro j u hj
              match j, hj with
              | 0, hj => simp at hj; subst hj; simp [Addr.add]
            case c2 => intro u hu; simp at hu; subst hu; rfl
            case c3 => unfold maxLen; omega
            case c4 => omega
            case c5 => simp; omega
            intro v' w1 hown' hgrow _
            go_wp2_with fail
            refine ⟨⟨k + 1, k + 1, done ++ [s.extract f k], by omega, by omega, by go_num, by go_num, by simp; omega, ?_, ?_, Lib.hid ?_, NXT, Lib.hid (fun _ => rfl)⟩, ?_⟩
            · unfold OwnStrs; rw [List.length_append, List.map_append]; exact hown'
            · exact ((hbel.alloc hbs _).grown hgrow (by simp; omega) (fun k hk => (hown.lt k hk).1))
            · rw [HC.out, HR.out, List.append_assoc]
            · simp [intOf]; omega
        · have hgt : decide ((f : Int) < (k : Int)) = false := by simp; omega
          have HR := HR.out
          rw [if_neg hfk', List.nil_append] at HR
          have HR := Lib.hid HR
          clear hcut
          rcases hopen with h1 | ⟨h1, h2, h3⟩
          all_goals
            go_wp2_with fail
            refine ⟨⟨k + 1, k + 1, done, by omega, by omega, by go_num, by go_num, by omega, hown, hbel, Lib.hid ?_, NXT, Lib.hid (fun _ => rfl)⟩, ?_⟩
            · rw [HC.out, HR.out]
            · simp [intOf]; omega
      · have hks : k < s.size := by omega
        have hat : s.data.toList[k]? = some (s[k]'hks) := Lib.data_getElem? s k hks
        have he1 : ((k : Int) == (s.size : Int)) = false := by simp; omega
        have he2 : (((s[k]'hks).toNat : Int) == 47) = false := by
          rw [beq_eq_false_iff_ne]
          intro e
          exact hcut (.inr (by rw [hat]; exact congrArg some (UInt8.toNat_inj.1 (by show (s[k]'hks).toNat = 47; omega))))
        have NXT : Hid (∀ j : Nat, f ≤ j → j < k + 1 → s.data.toList[j]? ≠ some 47) := Lib.hid (fun j h1 h2 => by
          by_cases hj : j = k
          · subst hj; intro e; exact hcut (.inr e)
          · exact HN.out j h1 (by omega))
        clear hcut hat
        go_wp2_with fail
        refine ⟨⟨k + 1, f, done, by omega, by omega, by go_num, rfl, by omega, hown, hbel, HC, NXT, Lib.hid (fun h => by omega)⟩, ?_⟩
        simp [intOf]; omega
    · have hle' : decide ((k : Int) ≤ (s.size : Int)) = false := by simp; omega
      have HP : Hid (piecesB s = done) := Lib.hid (by
        have h1 := HE.out (by omega)
        rw [HC.out, pieces_past (by omega), List.append_nil])
      by_cases h0 : 0 < s.size
      · have x0 : decide ((0 : Int) < (s.size : Int)) = true := by simp; omega
        have hw : IntKind.i64.wrap ((s.size : Int) - 1) = ((s.size - 1 : Nat) : Int) := by rw [IntWalk.i64_in _ (by omega)]; omega
        have hlt : s.size - 1 < s.size := by omega
        have e1 := int_test (starts_first h0)
        have e2 := int_test (ends_last h0)
        generalize hb1 : startsL s.data.toList = b1 at e1
        generalize hb2 : endsL s.data.toList = b2 at e2
        have HB1 := Lib.hid hb1
        have HB2 := Lib.hid hb2
        clear hb1 hb2
        go_wp2_with fail
        go_quiet (fail)
        go_wp2_with fail
        go_ret3
        exact FIN.out _ _ _ _ _ HP.out HB1.out HB2.out hown (hbel.trans ⟨rfl, rfl, rfl, Nat.le_refl _, fun _ _ => rfl⟩)
      · have x0 : decide ((0 : Int) < (s.size : Int)) = false := decide_eq_false (by omega)
        have hz : s.size = 0 := by omega
        have hnil : s.data.toList = [] := List.length_eq_zero_iff.1 ((Lib.size_eq s).symm.trans hz)
        have HB1 : Hid (startsL s.data.toList = false) := Lib.hid (by rw [hnil]; rfl)
        have HB2 : Hid (endsL s.data.toList = false) := Lib.hid (by rw [hnil]; rfl)
        clear hnil
        go_wp2_with fail
        go_quiet (fail)
        go_wp2_with fail
        go_ret3
        exact FIN.out _ _ _ _ _ HP.out HB1.out HB2.out hown (hbel.trans ⟨rfl, rfl, rfl, Nat.le_refl _, fun _ _ => rfl⟩)
end Go.Proofs.YtlfeaamfgfegdaaDoor.pt
