/-
  slices.Delete of one element, at entries and at nodes: a row of the call's own is cut.
  slices.Insert of one entry: a row of the call's own takes it in.
  Blocks with their types; what Delete and Insert make of entries in order.
-/
import Derived.Test.YtafnbpkdenjipaaFGo
import Derived.Deep.RegionLaw
import Derived.Laws.IdiomCopy
import Derived.Shelf.RegionOpenPlain
import Derived.Lib.AppendZerosOnto
import Derived.Lib.Overlaps
import Derived.Maps.AppendAt
import Derived.Test.YtafnbpkdenjipaaFGr
namespace Go.Proofs.Ytafnbpkdenjipaa.fl
open Go.RowKit Go.Proofs.Ytafnbpkdenjipaa.cm

def setL : List Value → Nat → List Value → List Value
  | xs, _, [] => xs
  | xs, o, v :: r => setL (xs.set o v) (o + 1) r
theorem setL_len : ∀ (vs xs : List Value) (o : Nat), (setL xs o vs).length = xs.length
  | [], xs, o => rfl
  | v :: r, xs, o => by rw [setL, setL_len r]; simp
theorem setL_eq : ∀ (vs xs : List Value) (o : Nat), o + vs.length ≤ xs.length → setL xs o vs = xs.take o ++ vs ++ xs.drop (o + vs.length)
  | [], xs, o, _ => by simp [setL]
  | v :: r, xs, o, h => by
    rw [setL, setL_eq r (xs.set o v) (o + 1) (by simp at h ⊢; omega), list_seg_step xs o v r (by simp at h ⊢; omega)]
    rfl
theorem own_setCells {B T size n : Nat} {v : Value} {g : Nat} (hg : v.ownBlock = some g) : ∀ (vs xs : List Value) (o : Nat) (w : World), w.ownsRow B T size v n xs → (w.setCells g o vs).ownsRow B T size v n (setL xs o vs)
  | [], _, _, _, h => h
  | u :: r, xs, o, w, h => own_setCells hg r (xs.set o u) (o + 1) (w.setCell ⟨g, o, none⟩ u) (own_store h hg o u)
theorem grown_refl (w : World) (row : Option Nat) : w.grownBy w row := ⟨rfl, rfl, rfl, Nat.le_refl _, fun _ _ _ => rfl⟩
theorem grown_trans {w w' w'' : World} {row : Option Nat} (h : w.grownBy w' row) (k : w'.grownBy w'' row) : w.grownBy w'' row :=
  ⟨k.os.trans h.os, k.tape.trans h.tape, k.output.trans h.output, Nat.le_trans h.size k.size, fun i hi hne => (k.block i (Nat.lt_of_lt_of_le hi h.size) hne).trans (h.block i hi hne)⟩
theorem grown_set (w : World) (g o : Nat) (u : Value) : w.grownBy (w.setCell ⟨g, o, none⟩ u) (some g) := ⟨rfl, rfl, rfl, by rw [size_set]; exact Nat.le_refl _, fun k _ hk => Below.heap_setCell w ⟨g, o, none⟩ u k (fun e => hk (by rw [e]))⟩
theorem grown_setCells (g : Nat) : ∀ (vs : List Value) (o : Nat) (w : World), w.grownBy (w.setCells g o vs) (some g)
  | [], _, w => grown_refl w _
  | u :: r, o, w => grown_trans (grown_set w g o u) (grown_setCells g r (o + 1) _)
theorem own_cut {B T size n m : Nat} {w : World} {g cap : Nat} {xs : List Value} (h : w.ownsRow B T size (.slice (some ⟨g, 0, none⟩) n cap) n xs) (hm : m ≤ n) : w.ownsRow B T size (.slice (some ⟨g, 0, none⟩) m cap) m (xs.take (m * size)) := by
  have hms : m * size ≤ n * size := Nat.mul_le_mul_right _ hm
  refine ⟨by rw [List.length_take, h.1]; omega, ?_⟩
  rcases h.2 with ⟨h1, _⟩ | ⟨g', cap', cur, h1, h2, h3, h4, h5, h6, h7⟩
  · cases h1
  · injection h1 with h1 _ h1'
    injection h1 with h1
    injection h1 with h1 _ _
    subst h1; subst h1'
    exact .inr ⟨g, cap, cur, rfl, h2, h3, by omega, h5, h6, by rw [← h7, List.take_take, Nat.min_eq_left hms]⟩

/-- one element is cleared -/
theorem run_clear_one {P : Program} (w : World) (t e ty : TypeId) (z : Value) (zs : List Value) (ht : P.underlying t = some (.slice e)) (hv : ∀ w, (zeroValue e).run P w = .ok z w) (hz : z.cells = zs.toArray) (h1 : ∀ v ∈ zs, v.oneCell' = true) (b o c : Nat)
    (hc : ∀ j, j < zs.length → (w.cell? ⟨b, o + j, none⟩).isSome = true) (hf : ∀ j, j < zs.length → w.frozen? ⟨b, o + j, none⟩ = false) :
    (Builtin.clear_ #[t] ty #[.slice (some ⟨b, o, none⟩) 1 c]).run P w = .ok (.tuple #[]) (w.setCells b o zs) := by
  have hzc : (Builtin.zeroCells z.cells 1).toList = zs := by
    rw [hz]
    simp [Builtin.zeroCells]
    apply List.ext_getElem
    · simp
    · intro i h1 h2
      simp [Nat.mod_eq_of_lt h2]
      rw [List.getElem?_eq_getElem h2]
      rfl
  have hst := run_storeCells_cells (P := P) b o zs 0 w (by simpa using hc) (by simpa using hf) h1
  simp only [Nat.add_zero] at hst
  simp [Builtin.clear_, run_underlying ht, hv, hzc, hst]
theorem row_one (l : List Value) (hl : ∀ u ∈ l, u.oneCell' = true) (k : Nat) : ∀ u ∈ l.drop k, u.oneCell' = true := fun u hu => hl u (List.mem_of_mem_drop hu)
theorem erow_one : ∀ (l : List EntP), ∀ u ∈ erow l, u.oneCell' = true
  | [], u, hu => by simp [erow] at hu
  | e :: l, u, hu => by
    rw [erow] at hu
    rcases List.mem_append.1 hu with h | h
    · simp [ecs] at h
      rcases h with rfl | rfl <;> rfl
    · exact erow_one l u h

set_option maxRecDepth 100000 in
set_option maxHeartbeats 2000000 in
theorem deleteE_any (B : Nat) (w : World) (g cap n i : Nat) (xs : List Value) (h : w.ownsRow B 87 2 (.slice (some ⟨g, 0, none⟩) n cap) n xs) (hi : i < n) (hn : n ≤ 1000) (h1 : ∀ u ∈ xs, u.oneCell' = true) :
    Calls Try.prog 92 #[.slice (some ⟨g, 0, none⟩) n cap, .int .i64 i, .int .i64 ((i : Int) + 1)] w fun e w' => e = .returned (.slice (some ⟨g, 0, none⟩) (n - 1) cap) ∧ w'.ownsRow B 87 2 (.slice (some ⟨g, 0, none⟩) (n - 1) cap) (n - 1) (xs.take (i * 2) ++ xs.drop ((i + 1) * 2)) ∧ w.grownBy w' (some g) := by
  obtain ⟨i0, hi0, hz0, hz1, hz2⟩ := info_parts infoE
  have hxl : xs.length = n * 2 := h.1
  obtain ⟨hcap, hcm⟩ : n ≤ cap ∧ cap ≤ maxLen := by
    rcases h.2 with ⟨h1, _⟩ | ⟨g', cap', cur, h1, h2, h3, h4, h5, _⟩
    · cases h1
    · injection h1 with _ _ h1
      subst h1
      exact ⟨h4, h5⟩
  -- the cells that are moved to the left
  obtain ⟨news, hnews⟩ : ∃ news, news = xs.drop ((i + 1) * 2) := ⟨_, rfl⟩
  have hlen : news.length = (n - (i + 1)) * 2 := by rw [hnews, List.length_drop, hxl]; omega
  obtain ⟨A, hA, hsrc⟩ : ∃ A : Addr, (if cap = i + 1 then some (⟨g, 0, none⟩ : Addr) else some ⟨g, (i + 1) * 2, none⟩) = some A ∧ Hid (∀ t u, news[t]? = some u → w.drew.cell? (A.add t) = some u) := by
    by_cases hc : cap = i + 1
    · refine ⟨⟨g, 0, none⟩, by simp [hc], fun t u hu => ?_⟩
      have h0 : news.length = 0 := by rw [hlen]; omega
      rw [List.length_eq_zero_iff.1 h0] at hu
      simp at hu
    · refine ⟨⟨g, (i + 1) * 2, none⟩, by simp [hc], fun t u hu => ?_⟩
      have ht : t < news.length := (List.getElem?_eq_some_iff.1 hu).1
      rw [hlen] at ht
      have hadd : (⟨g, (i + 1) * 2, none⟩ : Addr).add t = ⟨g, (i + 1) * 2 + t, none⟩ := by unfold Addr.add; split <;> simp_all
      rw [hadd]
      show w.cell? _ = _
      rw [h.cellAt _ (by omega)]
      rw [hnews, List.getElem?_drop] at hu
      exact hu
  have s1 : Hid (news.length = (n - (i + 1)) * 2) := hlen
  have s2 : Hid (∀ u ∈ news, u.oneCell' = true) := by rw [hnews]; exact row_one xs h1 _
  have s3 : Hid (∀ t, t < news.length → (w.drew.cell? ⟨g, 0 + i * 2 + t, none⟩).isSome = true ∧ w.drew.frozen? ⟨g, 0 + i * 2 + t, none⟩ = false) := by
    intro t ht
    rw [hlen] at ht
    refine ⟨?_, h.frozenAt _⟩
    show (w.cell? _).isSome = true
    rw [h.cellAt _ (by omega), List.getElem?_eq_getElem (by rw [hxl]; omega)]
    rfl
  obtain ⟨W1, hW1⟩ : ∃ W1, W1 = w.drew.setCells g (0 + i * 2) news := ⟨_, rfl⟩
  have own1 : W1.ownsRow B 87 2 (.slice (some ⟨g, 0, none⟩) n cap) n (setL xs (i * 2) news) := by
    rw [hW1, Nat.zero_add]
    exact own_setCells rfl news xs (i * 2) w.drew h
  have grow1 : w.grownBy W1 (some g) := by
    rw [hW1]
    exact grown_trans (w' := w.drew) ⟨rfl, rfl, rfl, Nat.le_refl _, fun _ _ _ => rfl⟩ (grown_setCells g news _ w.drew)
  have ei : i + (n - (i + 1)) = n - 1 := by omega
  have ej : n - (i + (n - (i + 1))) = 1 := by omega
  have hcl : ∀ ty, (Builtin.clear_ #[41] ty #[.slice (some ⟨g, (i + (n - (i + 1))) * 2, none⟩) (n - (i + (n - (i + 1)))) (cap - (i + (n - (i + 1))))]).run Try.prog W1 = .ok (.tuple #[]) (W1.setCells g ((n - 1) * 2) [.string ⟨#[]⟩, .int .i64 0]) :=
    fun ty => by
     rw [ej, ei]
     exact run_clear_one W1 _ _ ty _ [.string ⟨#[]⟩, .int .i64 0] Try.underlying41 Try.zeroValue87 rfl (by simp [Value.oneCell']) g ((n - 1) * 2) _
      (fun t ht => by
        have ht : t < 2 := ht
        rw [own1.cellAt _ (by omega), List.getElem?_eq_getElem (by rw [setL_len, hxl]; omega)]; rfl) (fun t _ => own1.frozenAt _)
  have FIN : Hid ((W1.setCells g ((n - 1) * 2) [.string ⟨#[]⟩, .int .i64 0]).ownsRow B 87 2 (.slice (some ⟨g, 0, none⟩) (n - 1) cap) (n - 1) (xs.take (i * 2) ++ xs.drop ((i + 1) * 2)) ∧ w.grownBy (W1.setCells g ((n - 1) * 2) [.string ⟨#[]⟩, .int .i64 0]) (some g)) := Lib.hid (by
    refine ⟨?_, grown_trans grow1 (grown_setCells g _ _ _)⟩
    have h2 := own_cut (own_setCells (v := .slice (some ⟨g, 0, none⟩) n cap) rfl [.string ⟨#[]⟩, .int .i64 0] _ ((n - 1) * 2) W1 own1) (Nat.sub_le n 1)
    have e : (setL (setL xs (i * 2) news) ((n - 1) * 2) [.string ⟨#[]⟩, .int .i64 0]).take ((n - 1) * 2) = xs.take (i * 2) ++ xs.drop ((i + 1) * 2) := by
      have hz8 : ([.string ⟨#[]⟩, .int .i64 0] : List Value).length = 2 := rfl
      rw [setL_eq [.string ⟨#[]⟩, .int .i64 0] _ _ (by rw [setL_len, hxl, hz8]; omega), List.append_assoc, List.take_append_of_le_length (by rw [List.length_take, setL_len, hxl]; omega), List.take_take, Nat.min_self]
      rw [setL_eq news xs _ (by rw [hlen, hxl]; omega), List.take_append_of_le_length (by rw [List.length_append, List.length_take, hlen, hxl]; omega), List.take_of_length_le (by rw [List.length_append, List.length_take, hlen, hxl]; omega), hnews]
    rw [e] at h2
    exact h2)
  have hW : Hid (W1 = w.drew.setCells g (0 + i * 2) news) := hW1
  have hic : i ≤ cap := by omega
  have hjc : i + 1 ≤ cap := by omega
  have hi0' : (0 : Int) ≤ (i : Int) + 1 := by omega
  have hi1' : (i : Int) + 1 ≤ (n : Int) := by omega
  have heq : ((i : Int) == (i : Int) + 1) = false := by simp; omega
  have EI := Lib.hid ei
  clear hW1 own1 grow1 h h1 hnews hlen ei ej
  go_enter Try.func92, Try.ntmps92
  go_wp2_with fail
  go_region_law (refine step_append_room rfl (.tmp 22) (.tmp 25) 41 rfl 87 i0 2 Try.underlying41 hi0 hz1 g 0 i cap (by simp [Act.eval, Act.put]) A (n - (i + 1)) (cap - (i + 1)) news (by simp [Act.eval, Act.put]) s1.out hsrc.out s2.out (by omega) s3.out ?_; rw [← hW.out])
  go_wp2_with fail
  go_ret
  exact ⟨by rw [EI.out]; rfl, FIN.out⟩

set_option maxRecDepth 100000 in
set_option maxHeartbeats 2000000 in
theorem deleteN_any (B : Nat) (w : World) (g cap n i : Nat) (xs : List Value) (h : w.ownsRow B 43 8 (.slice (some ⟨g, 0, none⟩) n cap) n xs) (hi : i < n) (hn : n ≤ 1000) (h1 : ∀ u ∈ xs, u.oneCell' = true) :
    Calls Try.prog 89 #[.slice (some ⟨g, 0, none⟩) n cap, .int .i64 i, .int .i64 ((i : Int) + 1)] w fun e w' => e = .returned (.slice (some ⟨g, 0, none⟩) (n - 1) cap) ∧ w'.ownsRow B 43 8 (.slice (some ⟨g, 0, none⟩) (n - 1) cap) (n - 1) (xs.take (i * 8) ++ xs.drop ((i + 1) * 8)) ∧ w.grownBy w' (some g) := by
  obtain ⟨i0, hi0, hz0, hz1, hz2⟩ := info_parts infoN
  have hxl : xs.length = n * 8 := h.1
  obtain ⟨hcap, hcm⟩ : n ≤ cap ∧ cap ≤ maxLen := by
    rcases h.2 with ⟨h1, _⟩ | ⟨g', cap', cur, h1, h2, h3, h4, h5, _⟩
    · cases h1
    · injection h1 with _ _ h1
      subst h1
      exact ⟨h4, h5⟩
  -- the cells that are moved to the left
  obtain ⟨news, hnews⟩ : ∃ news, news = xs.drop ((i + 1) * 8) := ⟨_, rfl⟩
  have hlen : news.length = (n - (i + 1)) * 8 := by rw [hnews, List.length_drop, hxl]; omega
  obtain ⟨A, hA, hsrc⟩ : ∃ A : Addr, (if cap = i + 1 then some (⟨g, 0, none⟩ : Addr) else some ⟨g, (i + 1) * 8, none⟩) = some A ∧ Hid (∀ t u, news[t]? = some u → w.drew.cell? (A.add t) = some u) := by
    by_cases hc : cap = i + 1
    · refine ⟨⟨g, 0, none⟩, by simp [hc], fun t u hu => ?_⟩
      have h0 : news.length = 0 := by rw [hlen]; omega
      rw [List.length_eq_zero_iff.1 h0] at hu
      simp at hu
    · refine ⟨⟨g, (i + 1) * 8, none⟩, by simp [hc], fun t u hu => ?_⟩
      have ht : t < news.length := (List.getElem?_eq_some_iff.1 hu).1
      rw [hlen] at ht
      have hadd : (⟨g, (i + 1) * 8, none⟩ : Addr).add t = ⟨g, (i + 1) * 8 + t, none⟩ := by unfold Addr.add; split <;> simp_all
      rw [hadd]
      show w.cell? _ = _
      rw [h.cellAt _ (by omega)]
      rw [hnews, List.getElem?_drop] at hu
      exact hu
  have s1 : Hid (news.length = (n - (i + 1)) * 8) := hlen
  have s2 : Hid (∀ u ∈ news, u.oneCell' = true) := by rw [hnews]; exact row_one xs h1 _
  have s3 : Hid (∀ t, t < news.length → (w.drew.cell? ⟨g, 0 + i * 8 + t, none⟩).isSome = true ∧ w.drew.frozen? ⟨g, 0 + i * 8 + t, none⟩ = false) := by
    intro t ht
    rw [hlen] at ht
    refine ⟨?_, h.frozenAt _⟩
    show (w.cell? _).isSome = true
    rw [h.cellAt _ (by omega), List.getElem?_eq_getElem (by rw [hxl]; omega)]
    rfl
  obtain ⟨W1, hW1⟩ : ∃ W1, W1 = w.drew.setCells g (0 + i * 8) news := ⟨_, rfl⟩
  have own1 : W1.ownsRow B 43 8 (.slice (some ⟨g, 0, none⟩) n cap) n (setL xs (i * 8) news) := by
    rw [hW1, Nat.zero_add]
    exact own_setCells rfl news xs (i * 8) w.drew h
  have grow1 : w.grownBy W1 (some g) := by
    rw [hW1]
    exact grown_trans (w' := w.drew) ⟨rfl, rfl, rfl, Nat.le_refl _, fun _ _ _ => rfl⟩ (grown_setCells g news _ w.drew)
  have ei : i + (n - (i + 1)) = n - 1 := by omega
  have ej : n - (i + (n - (i + 1))) = 1 := by omega
  have hcl : ∀ ty, (Builtin.clear_ #[70] ty #[.slice (some ⟨g, (i + (n - (i + 1))) * 8, none⟩) (n - (i + (n - (i + 1)))) (cap - (i + (n - (i + 1))))]).run Try.prog W1 = .ok (.tuple #[]) (W1.setCells g ((n - 1) * 8) [.int .i64 0, .int .i64 0, .int .i64 0, .int .i64 0, .int .i64 0, .int .i64 0, .string ⟨#[]⟩, .slice none 0 0]) :=
    fun ty => by
     rw [ej, ei]
     exact run_clear_one W1 _ _ ty _ [.int .i64 0, .int .i64 0, .int .i64 0, .int .i64 0, .int .i64 0, .int .i64 0, .string ⟨#[]⟩, .slice none 0 0] Try.underlying70 Try.zeroValue43 rfl (by simp [Value.oneCell']) g ((n - 1) * 8) _
      (fun t ht => by
        have ht : t < 8 := ht
        rw [own1.cellAt _ (by omega), List.getElem?_eq_getElem (by rw [setL_len, hxl]; omega)]; rfl) (fun t _ => own1.frozenAt _)
  have FIN : Hid ((W1.setCells g ((n - 1) * 8) [.int .i64 0, .int .i64 0, .int .i64 0, .int .i64 0, .int .i64 0, .int .i64 0, .string ⟨#[]⟩, .slice none 0 0]).ownsRow B 43 8 (.slice (some ⟨g, 0, none⟩) (n - 1) cap) (n - 1) (xs.take (i * 8) ++ xs.drop ((i + 1) * 8)) ∧ w.grownBy (W1.setCells g ((n - 1) * 8) [.int .i64 0, .int .i64 0, .int .i64 0, .int .i64 0, .int .i64 0, .int .i64 0, .string ⟨#[]⟩, .slice none 0 0]) (some g)) := Lib.hid (by
    refine ⟨?_, grown_trans grow1 (grown_setCells g _ _ _)⟩
    have h2 := own_cut (own_setCells (v := .slice (some ⟨g, 0, none⟩) n cap) rfl [.int .i64 0, .int .i64 0, .int .i64 0, .int .i64 0, .int .i64 0, .int .i64 0, .string ⟨#[]⟩, .slice none 0 0] _ ((n - 1) * 8) W1 own1) (Nat.sub_le n 1)
    have e : (setL (setL xs (i * 8) news) ((n - 1) * 8) [.int .i64 0, .int .i64 0, .int .i64 0, .int .i64 0, .int .i64 0, .int .i64 0, .string ⟨#[]⟩, .slice none 0 0]).take ((n - 1) * 8) = xs.take (i * 8) ++ xs.drop ((i + 1) * 8) := by
      have hz8 : ([.int .i64 0, .int .i64 0, .int .i64 0, .int .i64 0, .int .i64 0, .int .i64 0, .string ⟨#[]⟩, .slice none 0 0] : List Value).length = 8 := rfl
      rw [setL_eq [.int .i64 0, .int .i64 0, .int .i64 0, .int .i64 0, .int .i64 0, .int .i64 0, .string ⟨#[]⟩, .slice none 0 0] _ _ (by rw [setL_len, hxl, hz8]; omega), List.append_assoc, List.take_append_of_le_length (by rw [List.length_take, setL_len, hxl]; omega), List.take_take, Nat.min_self]
      rw [setL_eq news xs _ (by rw [hlen, hxl]; omega), List.take_append_of_le_length (by rw [List.length_append, List.length_take, hlen, hxl]; omega), List.take_of_length_le (by rw [List.length_append, List.length_take, hlen, hxl]; omega), hnews]
    rw [e] at h2
    exact h2)
  have hW : Hid (W1 = w.drew.setCells g (0 + i * 8) news) := hW1
  have hic : i ≤ cap := by omega
  have hjc : i + 1 ≤ cap := by omega
  have hi0' : (0 : Int) ≤ (i : Int) + 1 := by omega
  have hi1' : (i : Int) + 1 ≤ (n : Int) := by omega
  have heq : ((i : Int) == (i : Int) + 1) = false := by simp; omega
  have EI := Lib.hid ei
  clear hW1 own1 grow1 h h1 hnews hlen ei ej
  go_enter Try.func89, Try.ntmps89
  go_wp2_with fail
  go_region_law (refine step_append_room rfl (.tmp 22) (.tmp 25) 70 rfl 43 i0 8 Try.underlying70 hi0 hz1 g 0 i cap (by simp [Act.eval, Act.put]) A (n - (i + 1)) (cap - (i + 1)) news (by simp [Act.eval, Act.put]) s1.out hsrc.out s2.out (by omega) s3.out ?_; rw [← hW.out])
  go_wp2_with fail
  go_ret
  exact ⟨by rw [EI.out]; rfl, FIN.out⟩
end Go.Proofs.Ytafnbpkdenjipaa.fl
namespace Go.Proofs.Ytafnbpkdenjipaa.fl
open Go.RowKit Go.Proofs.Ytafnbpkdenjipaa.cm

theorem run_copy_rows {P : Program} (w : World) (dT sT ty elem : TypeId) (z g o dLen dCap : Nat) (a : Addr) (sLen sCap : Nat) (cs : List Value) (hu : P.underlying dT = some (.slice elem)) (hs : (P.info? elem).map (·.size) = some z)
    (hn : cs.length = Nat.min sLen dLen * z) (hsrc : ∀ j v, cs[j]? = some v → w.cell? (a.add j) = some v) (hc : ∀ j, j < cs.length → (w.cell? ⟨g, o + j, none⟩).isSome = true) (hf : ∀ j, j < cs.length → w.frozen? ⟨g, o + j, none⟩ = false) (h1 : ∀ v ∈ cs, v.oneCell' = true) :
    (Builtin.copy_ #[dT, sT] ty #[.slice (some ⟨g, o, none⟩) dLen dCap, .slice (some a) sLen sCap]).run P w = .ok (goInt (Nat.min sLen dLen)) (w.setCells g o cs) := by
  have hl := run_loadCells_list (P := P) w a cs hsrc
  have hst := run_storeCells_cells (P := P) g o cs 0 w (by simpa using hc) (by simpa using hf) h1
  simp only [Nat.add_zero] at hst
  cases hq : P.info? elem with
  | none => simp [hq] at hs
  | some i =>
    have hi : i.size = z := by simpa [hq] using hs
    simp [Builtin.copy_, run_underlying hu, Builtin.lenOf, Builtin.firstCells, sizeOf, typeInfo, hq, hi, ← hn, hl, hst]
theorem wp_copy_run {P : Program} (w : World) {o : Oper} {a : Act} {K : Act → World → Prop} {Q : Exit → Act → World → Prop} (d s : Operand) (t t' : TypeId)
    (ho : o.op = .call { callee := .builtin .copy, args := #[d, s], argTypes := #[t, t'] }) (v u : Value) (hd : a.eval d = v) (hs : a.eval s = u) {v' : Value} {w' : World}
    (hr : (Builtin.copy_ #[t, t'] o.type #[v, u]).run P w = .ok v' w') (h : K (a.put o.dst v') w') : o.wp P a w K Q := by
  unfold Oper.wp execOp
  simp only [ho, resolve, invoke, builtin, Sem.run_bind, Sem.run_pure, Result.andThen_ok, List.map_toArray, List.map_cons, List.map_nil, hd, hs, hr]
  exact h
theorem wpList_copy_run {P : Program} (w : World) {ops : Array Oper} {rest : List Oper} {o : Oper} {a : Act} {Q : Exit → Act → World → Prop} (hgd : o.guard = none) (d s : Operand) (t t' : TypeId)
    (ho : o.op = .call { callee := .builtin .copy, args := #[d, s], argTypes := #[t, t'] }) (v u : Value) (hd : a.eval d = v) (hs : a.eval s = u) {v' : Value} {w' : World}
    (hr : (Builtin.copy_ #[t, t'] o.type #[v, u]).run P w = .ok v' w') (h : wpList P ops Q rest (a.put o.dst v') w') : wpList P ops Q (o :: rest) a w :=
  wpList_plain hgd fun _ hK => wp_copy_run w d s t t' ho v u hd hs hr (hK _ _ h)
theorem step_copy_run {P : Program} {ops : Array Oper} {o : Oper} {a : Act} {w : World} {K : Act → World → Prop} {Q : Exit → Act → World → Prop} {E : Prop}
    (hg : o.guard = none) (d x : Operand) (dT sT : TypeId) (hop : o.op = Op.call { callee := Callee.builtin Builtin.copy, args := #[d, x], argTypes := #[dT, sT] })
    (v u : Value) (hd : a.eval d = v) (hx : a.eval x = u) {v' : Value} {w' : World} (hr : (Builtin.copy_ #[dT, sT] o.type #[v, u]).run P w = .ok v' w') (hK : K (a.put o.dst v') w') :
    if Region.wanted o (yielded ops a.tmps) = true then Oper.wp P o a w K Q else E := by
  have hw : Region.wanted o (yielded ops a.tmps) = true := by simp [Region.wanted, hg]
  rw [if_pos hw]
  unfold Oper.wp
  simp [execOp, hop, resolve, invoke, builtin, hd, hx, hr, Result.andThen]
  exact hK
theorem add_plain (g o j : Nat) : (⟨g, o, none⟩ : Addr).add j = ⟨g, o + j, none⟩ := by unfold Addr.add; split <;> simp_all
/-- a row that is longer: the spare cells are there too -/
theorem own_more {B T size n : Nat} {w : World} {g cap : Nat} {xs : List Value} (h : w.ownsRow B T size (.slice (some ⟨g, 0, none⟩) n cap) n xs) {m : Nat} (hm : m ≤ cap) : ∃ ys, w.ownsRow B T size (.slice (some ⟨g, 0, none⟩) m cap) m ys ∧ ys.take (Nat.min (n * size) (m * size)) = xs.take (Nat.min (n * size) (m * size)) := by
  rcases h.2 with ⟨h1, _⟩ | ⟨g', cap', cur, h1, h2, h3, h4, h5, h6, h7⟩
  · cases h1
  · injection h1 with h1 _ h1'
    injection h1 with h1
    injection h1 with h1 _ _
    subst h1; subst h1'
    refine ⟨cur.toList.take (m * size), ⟨?_, .inr ⟨g, cap, cur, rfl, h2, h3, hm, h5, h6, rfl⟩⟩, ?_⟩
    · rw [List.length_take, Array.length_toList, h6, Nat.min_eq_left (Nat.mul_le_mul_right _ hm)]
    · rw [← h7, List.take_take, List.take_take, Nat.min_eq_left (Nat.min_le_right _ _), Nat.min_eq_left (Nat.min_le_left _ _)]
theorem own_cap {B T size n : Nat} {w : World} {g cap : Nat} {xs : List Value} (h : w.ownsRow B T size (.slice (some ⟨g, 0, none⟩) n cap) n xs) : n ≤ cap ∧ cap ≤ maxLen ∧ ∃ k, w.shape? g = some (T, k) ∧ k = cap * size := by
  rcases h.2 with ⟨h1, _⟩ | ⟨g', cap', cur, h1, h2, h3, h4, h5, h6, h7⟩
  · cases h1
  · injection h1 with h1 _ h1'
    injection h1 with h1
    injection h1 with h1 _ _
    subst h1; subst h1'
    exact ⟨h4, h5, cur.size, by simp [World.shape?, h3], h6⟩

/-- what Insert answers -/
def InsR (B : Nat) (w : World) (v : Value) (n i : Nat) (xs ns : List Value) (e : Ending) (w' : World) : Prop :=
  ∃ v', e = .returned v' ∧ w'.ownsRow B 87 2 v' (n + 1) (xs.take (i * 2) ++ ns ++ xs.drop (i * 2)) ∧ w.grownBy w' v.ownBlock ∧ (v'.ownBlock = v.ownBlock ∨ v'.ownBlock = some w.heap.size)

set_option maxRecDepth 100000 in
set_option maxHeartbeats 2000000 in
/-- at the end -/
theorem insertEnd_any (B : Nat) (w : World) (a : Option Addr) (cap n c : Nat) (xs : List Value) (nm : ByteArray) (ino : Int) (h : w.ownsRow B 87 2 (.slice a n cap) n xs) (hn : n ≤ 1000) (hB : B ≤ w.heap.size) (hc : w.heap[c]? = some (.cells #[.string nm, .int .i64 ino] 87 (0, 0))) :
    Calls Try.prog 93 #[.slice a n cap, .int .i64 n, .slice (some ⟨c, 0, none⟩) 1 1] w (InsR B w (.slice a n cap) n n xs [.string nm, .int .i64 ino]) := by
  obtain ⟨i0, hi, hz0, hz1, hz2⟩ := info_parts infoE
  have hxl : xs.length = n * 2 := h.1
  have nw : Hid (∀ j u, ([.string nm, .int .i64 ino] : List Value)[j]? = some u → w.cell? ((⟨c, 0, none⟩ : Addr).add j) = some u) := Lib.hid (World.news_of_block (cs := #[.string nm, .int .i64 ino]) (t := 87) (fr := (0, 0)) hc)
  have hnc : n ≤ cap := by
    obtain ⟨a', cap', h1, h2, -⟩ := own_slice h
    injection h1 with _ _ h1
    omega
  have FIN : Hid (∀ v' w', w'.ownsRow B 87 2 v' (n + 1) (xs ++ [.string nm, .int .i64 ino]) → w.grownBy w' (Value.slice a n cap).ownBlock → (v'.ownBlock = (Value.slice a n cap).ownBlock ∨ v'.ownBlock = some w.heap.size) → InsR B w (.slice a n cap) n n xs [.string nm, .int .i64 ino] (.returned v') w') := Lib.hid (fun v' w' h1 h2 h3 => ⟨v', rfl, by rw [List.take_of_length_le (by omega), List.drop_eq_nil_of_le (by omega), List.append_nil]; exact h1, h2, h3⟩)
  have hf : a = none → n = 0 ∧ cap = 0 := fun e => by
    obtain ⟨a', cap', h1, _, h2, -⟩ := own_slice h
    injection h1 with h1 _ h3
    have := h2 (h1.symm.trans e)
    exact ⟨this.2, by omega⟩
  have HOWN := Lib.hid h
  have H5 : Hid (∀ u ∈ ([.string nm, .int .i64 ino] : List Value), u.oneCell' = true) := Lib.hid (by simp [Value.oneCell'])
  have H6 : Hid (n + 1 ≤ maxLen) := Lib.hid (by unfold maxLen; omega)
  have H7 : Hid ((n + 1) * 24 ≤ 140737488355328) := Lib.hid (by omega)
  have H8 := Lib.hid hB
  clear h hc
  cases a with
  | none =>
    obtain ⟨rfl, rfl⟩ := hf rfl
    go_enter Try.func93, Try.ntmps93
    go_wp2_with (first
      | (at_builtin; refine wpList_append_own_at _ rfl _ _ 41 rfl B 87 i0 _ 2 24 Try.underlying41 hi hz0 hz1 hz2 rfl (by omega) _ 0 _ rfl HOWN.out ⟨c, 0, none⟩ 1 1 [.string nm, .int .i64 ino] rfl rfl nw.out H5.out H6.out H7.out H8.out ?_)
      | fail)
    intro v2 w2 own2 hgrow _ hat
    have HF := Lib.hid (FIN.out v2 w2 own2 hgrow hat)
    clear own2 hgrow hat
    go_wp2_with fail
    go_ret
    exact HF.out
  | some p =>
    obtain ⟨g, rfl⟩ : ∃ g, p = ⟨g, 0, none⟩ := by
      obtain ⟨a', cap', h1, _, _, h2⟩ := own_slice HOWN.out
      injection h1 with h1
      obtain ⟨g, h3, -⟩ := h2 p h1.symm
      exact ⟨g, h3⟩
    by_cases hcn : cap = n
    · subst hcn
      have he : ((cap : Int) == (cap : Int)) = true := by simp
      have hn0 : (0 : Int) ≤ (cap : Int) := by omega
      clear hf
      go_enter Try.func93, Try.ntmps93
      go_wp2_with (first
        | (at_builtin; refine wpList_append_own_at _ rfl _ _ 41 rfl B 87 i0 _ 2 24 Try.underlying41 hi hz0 hz1 hz2 rfl (by omega) _ cap _ rfl HOWN.out ⟨c, 0, none⟩ 1 1 [.string nm, .int .i64 ino] rfl rfl nw.out H5.out H6.out H7.out H8.out ?_)
        | fail)
      intro v2 w2 own2 hgrow _ hat
      have HF := Lib.hid (FIN.out v2 w2 own2 hgrow hat)
      clear own2 hgrow hat
      go_wp2_with fail
      go_ret
      exact HF.out
    · have hcn' : ¬ cap = n := hcn
      clear hcn
      have he : ((n : Int) == (n : Int)) = true := by simp
      have hn0 : (0 : Int) ≤ (n : Int) := by omega
      clear hf
      go_enter Try.func93, Try.ntmps93
      go_wp2_with (first
        | (at_builtin; refine wpList_append_own_at _ rfl _ _ 41 rfl B 87 i0 _ 2 24 Try.underlying41 hi hz0 hz1 hz2 rfl (by omega) _ n _ rfl HOWN.out ⟨c, 0, none⟩ 1 1 [.string nm, .int .i64 ino] rfl rfl nw.out H5.out H6.out H7.out H8.out ?_)
        | fail)
      intro v2 w2 own2 hgrow _ hat
      have HF := Lib.hid (FIN.out v2 w2 own2 hgrow hat)
      clear own2 hgrow hat
      go_wp2_with fail
      go_ret
      exact HF.out

theorem drop_len {xs : List Value} {n i : Nat} (h : xs.length = n * 2) (_hi : i ≤ n) : (xs.drop (i * 2)).length = (n - i) * 2 := by rw [List.length_drop, h]; omega
/-- what stands in a row behind two copies -/
theorem set_two {ys xs ns : List Value} {n i : Nat} (hy : ys.length = (n + 1) * 2) (hx : xs.length = n * 2) (hi : i ≤ n) (hns : ns.length = 2) (hyx : ys.take (i * 2) = xs.take (i * 2)) :
    setL (setL ys ((i + 1) * 2) (xs.drop (i * 2))) (i * 2) ns = xs.take (i * 2) ++ ns ++ xs.drop (i * 2) := by
  have hd := drop_len hx hi
  rw [setL_eq ns _ _ (by rw [setL_len, hy, hns]; omega), setL_eq (xs.drop (i * 2)) ys _ (by rw [hd, hy]; omega), hns]
  have e1 : (ys.take ((i + 1) * 2) ++ xs.drop (i * 2) ++ ys.drop ((i + 1) * 2 + (xs.drop (i * 2)).length)).take (i * 2) = xs.take (i * 2) := by
    rw [List.append_assoc, List.take_append_of_le_length (by rw [List.length_take, hy]; omega), List.take_take, Nat.min_eq_left (by omega), hyx]
  have e2 : ys.drop ((i + 1) * 2 + (xs.drop (i * 2)).length) = [] := List.drop_eq_nil_of_le (by rw [hd, hy]; omega)
  have e3 : (ys.take ((i + 1) * 2) ++ xs.drop (i * 2) ++ ys.drop ((i + 1) * 2 + (xs.drop (i * 2)).length)).drop (i * 2 + 2) = xs.drop (i * 2) := by
    rw [e2, List.append_nil, List.drop_append_of_le_length (by rw [List.length_take, hy]; omega)]
    rw [List.drop_eq_nil_of_le (by rw [List.length_take, hy]; omega)]
    rfl
  rw [e1, e3]

set_option maxRecDepth 100000 in
set_option maxHeartbeats 4000000 in
/-- ahead of the end, in place -/
theorem insertShift_any (B : Nat) (w : World) (g cap n i c : Nat) (xs : List Value) (nm : ByteArray) (ino : Int) (h : w.ownsRow B 87 2 (.slice (some ⟨g, 0, none⟩) n cap) n xs) (hin : i < n) (hn : n ≤ 1000) (hroom : n + 1 ≤ cap) (h1 : ∀ u ∈ xs, u.oneCell' = true) (hcg : c ≠ g) (hc : w.heap[c]? = some (.cells #[.string nm, .int .i64 ino] 87 (0, 0))) :
    Calls Try.prog 93 #[.slice (some ⟨g, 0, none⟩) n cap, .int .i64 i, .slice (some ⟨c, 0, none⟩) 1 1] w (InsR B w (.slice (some ⟨g, 0, none⟩) n cap) n i xs [.string nm, .int .i64 ino]) := by
  obtain ⟨i0, hi0, hz0, hz1, hz2⟩ := info_parts infoE
  have hsz : (Try.prog.info? 87).map (·.size) = some 2 := by rw [hi0]; simp [hz1]
  have hxl : xs.length = n * 2 := h.1
  obtain ⟨-, hcm, kB, hkB, hkB2⟩ := own_cap h
  obtain ⟨ys, hy, hyx⟩ := own_more h hroom
  have hyl : ys.length = (n + 1) * 2 := hy.1
  have hyx2 : ys.take (i * 2) = xs.take (i * 2) := by
    have := congrArg (List.take (i * 2)) hyx
    rwa [List.take_take, List.take_take, Nat.min_eq_left (Nat.le_min.2 ⟨by omega, by omega⟩)] at this
  have hcp : c < w.heap.size := (Array.getElem?_eq_some_iff.1 hc).1
  have hov : ∀ lb cb, (callFunc 98 #[.slice (some ⟨c, 0, none⟩) 1 1, .slice (some ⟨g, (i + 1) * 2, none⟩) lb cb]).run Try.prog w = .ok (.value (.bool false)) w := fun lb cb => by
    rw [run_callFunc_extern Try.func98 (by kernel_rfl) (by kernel_rfl) (by kernel_rfl) (e := Extern.SlicesOverlaps.overlaps #[41, 41] #[4]) (by kernel_rfl),
      Lib.run_overlaps_apart w 41 4 87 Try.underlying41 2 Try.sizeOf87 ⟨c, 0, none⟩ ⟨g, (i + 1) * 2, none⟩ 1 1 lb cb hcg 87 87 2 kB (by simp [World.shape?, hc]) hkB (by omega) (by simp [World.frozen?, hc]) (by simp [World.frozen?, hc])]
    rfl
  have hdl := drop_len hxl (Nat.le_of_lt hin)
  obtain ⟨W1, hW1⟩ : ∃ W1, W1 = w.drew.setCells g ((i + 1) * 2) (xs.drop (i * 2)) := ⟨_, rfl⟩
  have hyd : w.drew.ownsRow B 87 2 (.slice (some ⟨g, 0, none⟩) (n + 1) cap) (n + 1) ys := hy
  have hxd : w.drew.ownsRow B 87 2 (.slice (some ⟨g, 0, none⟩) n cap) n xs := h
  have own1 : W1.ownsRow B 87 2 (.slice (some ⟨g, 0, none⟩) (n + 1) cap) (n + 1) (setL ys ((i + 1) * 2) (xs.drop (i * 2))) := by
    rw [hW1]; exact own_setCells rfl _ _ _ _ hyd
  have hcp1 : ∀ ty dc sc, (Builtin.copy_ #[41, 41] ty #[.slice (some ⟨g, (i + 1) * 2, none⟩) (n - i) dc, .slice (some ⟨g, i * 2, none⟩) (n + 1 - i) sc]).run Try.prog w.drew = .ok (goInt (Nat.min (n + 1 - i) (n - i))) W1 := fun ty dc sc => by
    rw [hW1]
    exact run_copy_rows w.drew _ _ ty 87 2 g ((i + 1) * 2) (n - i) dc ⟨g, i * 2, none⟩ (n + 1 - i) sc (xs.drop (i * 2)) Try.underlying41 hsz (by rw [hdl]; simp only [Nat.min_def]; split <;> omega)
      (fun j v hj => by
        have hjl : j < (xs.drop (i * 2)).length := (List.getElem?_eq_some_iff.1 hj).1
        rw [hdl] at hjl
        rw [add_plain, hxd.cellAt _ (by omega)]
        rwa [List.getElem?_drop] at hj)
      (fun j hj => by
        rw [hdl] at hj
        rw [hyd.cellAt _ (by omega), List.getElem?_eq_getElem (by omega)]; rfl) (fun j _ => hyd.frozenAt _) (fun v hv => h1 v (List.mem_of_mem_drop hv))
  have hcW : W1.heap[c]? = some (.cells #[.string nm, .int .i64 ino] 87 (0, 0)) := by
    rw [hW1, (grown_setCells g _ _ w.drew).block c hcp (fun e => hcg (by injection e))]
    exact hc
  have hcp2 : ∀ ty dc, (Builtin.copy_ #[41, 41] ty #[.slice (some ⟨g, i * 2, none⟩) (n + 1 - i) dc, .slice (some ⟨c, 0, none⟩) 1 1]).run Try.prog W1 = .ok (goInt (Nat.min 1 (n + 1 - i))) (W1.setCells g (i * 2) [.string nm, .int .i64 ino]) := fun ty dc =>
    run_copy_rows W1 _ _ ty 87 2 g (i * 2) (n + 1 - i) dc ⟨c, 0, none⟩ 1 1 [.string nm, .int .i64 ino] Try.underlying41 hsz (by simp only [Nat.min_def]; split <;> simp; omega)
      (World.news_of_block (cs := #[.string nm, .int .i64 ino]) hcW)
      (fun j hj => by
        have hj : j < 2 := hj
        rw [own1.cellAt _ (by omega), List.getElem?_eq_getElem (by rw [setL_len]; omega)]; rfl) (fun j _ => own1.frozenAt _) (by simp [Value.oneCell'])
  have FIN : Hid (InsR B w (.slice (some ⟨g, 0, none⟩) n cap) n i xs [.string nm, .int .i64 ino] (.returned (.slice (some ⟨g, 0, none⟩) (n + 1) cap)) (W1.setCells g (i * 2) [.string nm, .int .i64 ino])) := Lib.hid
    ⟨_, rfl, by
      have := own_setCells (v := .slice (some ⟨g, 0, none⟩) (n + 1) cap) rfl [.string nm, .int .i64 ino] _ (i * 2) W1 own1
      rwa [set_two hyl hxl (Nat.le_of_lt hin) rfl hyx2] at this,
      grown_trans (w' := W1) (by rw [hW1]; exact grown_trans (w' := w.drew) ⟨rfl, rfl, rfl, Nat.le_refl _, fun _ _ _ => rfl⟩ (grown_setCells g _ _ w.drew)) (grown_setCells g _ _ W1), .inl rfl⟩
  have he : ((i : Int) == (n : Int)) = false := by simp; omega
  have hw1 : IntKind.i64.wrap ((i : Int) + 1) = (i : Int) + 1 := by rw [IntKind.wrap_i64]; omega
  have hw2 : IntKind.i64.wrap ((n : Int) + 1) = (n : Int) + 1 := by rw [IntKind.wrap_i64]; omega
  have hg : decide ((n : Int) + 1 > (cap : Int)) = false := by simp; omega
  have hg2 : ¬ (cap : Int) < (n : Int) + 1 := by omega
  have hb1 : (0 : Int) ≤ (i : Int) + 1 := by omega
  have hb2 : ¬ cap = i + 1 := by omega
  have hb3 : ¬ cap = i := by omega
  have hb4 : (i : Int) + 1 ≤ (n : Int) + 1 := by omega
  have hb5 : (i : Int) ≤ (n : Int) + 1 := by omega
  have hb6 : (i : Int) ≤ (n : Int) := by omega
  have hb7 : (0 : Int) ≤ (n : Int) + 1 := by omega
  have hb8 : (n : Int) + 1 ≤ (cap : Int) := by omega
  have HCP1 := hcp1
  clear hW1 own1 h hy hyx hyx2 hxd hyd hc hcW h1 hdl hkB
  go_enter Try.func93, Try.ntmps93
  go_wp2_with (simp only [hov])
  go_region_law (refine step_copy_run rfl _ _ 41 41 rfl _ _ (by simp [Act.eval, Act.put]) (by simp [Act.eval, Act.put]) (hcp1 _ _ _) ?_)
  go_wp2_with (at_builtin; refine wpList_copy_run _ rfl _ _ 41 41 rfl _ _ rfl rfl (hcp2 _ _) ?_)
  go_ret
  exact FIN.out

theorem set_two' {ys xs ns : List Value} {n i : Nat} (hy : ys.length = (n + 1) * 2) (hx : xs.length = n * 2) (hi : i ≤ n) (hns : ns.length = 2) (hyx : ys.take (i * 2) = xs.take (i * 2)) :
    setL (setL ys (i * 2) ns) ((i + 1) * 2) (xs.drop (i * 2)) = xs.take (i * 2) ++ ns ++ xs.drop (i * 2) := by
  have hd := drop_len hx hi
  rw [setL_eq (xs.drop (i * 2)) _ _ (by rw [setL_len, hy, hd]; omega), setL_eq ns ys _ (by rw [hns, hy]; omega), hns]
  have e2 : (ys.take (i * 2) ++ ns ++ ys.drop (i * 2 + 2)).drop ((i + 1) * 2 + (xs.drop (i * 2)).length) = [] := List.drop_eq_nil_of_le (by simp [hd, hy, hns]; omega)
  have e1 : (ys.take (i * 2) ++ ns ++ ys.drop (i * 2 + 2)).take ((i + 1) * 2) = xs.take (i * 2) ++ ns := by
    have hl : (ys.take (i * 2) ++ ns).length = (i + 1) * 2 := by rw [List.length_append, List.length_take, hy, hns]; omega
    rw [List.take_append_of_le_length (by rw [hl]; exact Nat.le_refl _), List.take_of_length_le (by rw [hl]; exact Nat.le_refl _), hyx]
  rw [e1, e2, List.append_nil]

set_option maxRecDepth 100000 in
set_option maxHeartbeats 4000000 in
/-- ahead of the end, in a new row -/
theorem insertGrow_any (B : Nat) (w : World) (g n i c : Nat) (xs : List Value) (nm : ByteArray) (ino : Int) (h : w.ownsRow B 87 2 (.slice (some ⟨g, 0, none⟩) n n) n xs) (hin : i < n) (hn : n ≤ 1000) (hB : B ≤ w.heap.size) (h1 : ∀ u ∈ xs, u.oneCell' = true) (hc : w.heap[c]? = some (.cells #[.string nm, .int .i64 ino] 87 (0, 0))) :
    Calls Try.prog 93 #[.slice (some ⟨g, 0, none⟩) n n, .int .i64 i, .slice (some ⟨c, 0, none⟩) 1 1] w (InsR B w (.slice (some ⟨g, 0, none⟩) n n) n i xs [.string nm, .int .i64 ino]) := by
  obtain ⟨i0, hi0, hz0, hz1, hz2⟩ := info_parts infoE
  have hsz : (Try.prog.info? 87).map (·.size) = some 2 := by rw [hi0]; simp [hz1]
  have hxl : xs.length = n * 2 := h.1
  have hdl := drop_len hxl (Nat.le_of_lt hin)
  have hcp : c < w.heap.size := (Array.getElem?_eq_some_iff.1 hc).1
  have hgl : g < w.heap.size := (own_lt h (g := g) rfl).2
  have htl : (xs.take (i * 2)).length = i * 2 := by rw [List.length_take, hxl]; omega
  obtain ⟨C, hC⟩ : ∃ C, C = grownCap w (i + (n + 1 - i)) n 87 := ⟨_, rfl⟩
  have hC1 : n + 1 ≤ C := by rw [hC]; have := grownCap_ge w (i + (n + 1 - i)) n 87; omega
  have hC2 : C ≤ maxLen := by rw [hC]; exact grownCap_le_maxLen w _ _ _ (by unfold maxLen; omega)
  obtain ⟨W0, hW0⟩ : ∃ W0, W0 = w.drew.alloc (.cells ((xs.take (i * 2)).toArray ++ Builtin.zeroCells (Value.agg #[.string ⟨#[]⟩, .int .i64 0]).cells (n + 1 - i) ++ Builtin.zeroCells (Value.agg #[.string ⟨#[]⟩, .int .i64 0]).cells (C - (i + (n + 1 - i)))) 87) := ⟨_, rfl⟩
  have hrun : ∀ ty, (Builtin.append_ #[41, 3] ty #[.slice (some ⟨g, 0, none⟩) i n, .int .i64 ((n : Int) + 1 - (i : Int))]).run Try.prog w = .ok (.slice (some ⟨w.heap.size, 0, none⟩) (n + 1) C) W0 := fun ty => by
    have hold : (Builtin.firstCells i0.size i (.slice (some ⟨g, 0, none⟩) i n)).run Try.prog w.drew = .ok (xs.take (i * 2)).toArray w.drew := by
      have := run_loadCells_list (P := Try.prog) w.drew ⟨g, 0, none⟩ (xs.take (i * 2)) (fun j v hj => by
        have hjl : j < (xs.take (i * 2)).length := (List.getElem?_eq_some_iff.1 hj).1
        rw [htl] at hjl
        rw [add_plain, Nat.zero_add]
        show w.cell? _ = _
        rw [h.cellAt _ (by omega)]
        rwa [List.getElem?_take, if_pos hjl] at hj)
      rw [htl] at this
      simp only [Builtin.firstCells, hz1]
      exact this
    have := Lib.run_append_grow_zeros (P := Try.prog) w 41 3 ty 87 i0 _ .i64 .i64 Try.underlying41 Try.underlying3 hi0 hz0 (some ⟨g, 0, none⟩) i n (xs.take (i * 2)) hold (n + 1 - i) (by omega) (by omega) (by omega) (by omega) (by rw [hz2]; omega) (by rw [hz2]; exact growslice_fits (by omega) (by omega))
    rw [← hC, ← hW0] at this
    rw [show (n : Int) + 1 - (i : Int) = ((n + 1 - i : Nat) : Int) by omega, this, show i + (n + 1 - i) = n + 1 by omega]
  have hzc : ∀ k, (Builtin.zeroCells (Value.agg #[.string ⟨#[]⟩, .int .i64 0]).cells k).size = k * 2 := fun k => by simp [Builtin.zeroCells, Value.cells]
  have hH0 : W0.heap[w.heap.size]? = some (.cells ((xs.take (i * 2)).toArray ++ Builtin.zeroCells (Value.agg #[.string ⟨#[]⟩, .int .i64 0]).cells (n + 1 - i) ++ Builtin.zeroCells (Value.agg #[.string ⟨#[]⟩, .int .i64 0]).cells (C - (i + (n + 1 - i)))) 87 (0, 0)) := by
    rw [hW0]; exact heap_alloc_new w.drew _
  have own0 : W0.ownsRow B 87 2 (.slice (some ⟨w.heap.size, 0, none⟩) (n + 1) C) (n + 1) (xs.take (i * 2) ++ (Builtin.zeroCells (Value.agg #[.string ⟨#[]⟩, .int .i64 0]).cells (n + 1 - i)).toList) := by
    refine ⟨by rw [List.length_append, htl, Array.length_toList, hzc]; omega, .inr ⟨w.heap.size, C, _, rfl, hB, hH0, hC1, hC2, by simp only [Array.size_append, hzc, List.size_toArray, htl]; omega, ?_⟩⟩
    rw [Array.toList_append, Array.toList_append, List.toList_toArray]
    rw [List.take_append_of_le_length (by rw [List.length_append, htl, Array.length_toList, hzc]; omega)]
    exact List.take_of_length_le (by rw [List.length_append, htl, Array.length_toList, hzc]; omega)
  have grow0 : w.grownBy W0 (some g) := by rw [hW0]; exact grown_trans (w' := w.drew) ⟨rfl, rfl, rfl, Nat.le_refl _, fun _ _ _ => rfl⟩ (World.grownBy_alloc _ _ _)
  obtain ⟨ys, hys⟩ : ∃ ys, ys = xs.take (i * 2) ++ (Builtin.zeroCells (Value.agg #[.string ⟨#[]⟩, .int .i64 0]).cells (n + 1 - i)).toList := ⟨_, rfl⟩
  rw [← hys] at own0
  have hyl : ys.length = (n + 1) * 2 := own0.1
  have hyx : ys.take (i * 2) = xs.take (i * 2) := by rw [hys, List.take_append_of_le_length (by omega), List.take_of_length_le (by omega)]
  have hcW : W0.heap[c]? = some (.cells #[.string nm, .int .i64 ino] 87 (0, 0)) := by
    rw [hW0, Below.heap_alloc w.drew _ c hcp]; exact hc
  have hgW : W0.heap[g]? = w.heap[g]? := by rw [hW0, Below.heap_alloc w.drew _ g hgl]; rfl
  have hxW : W0.ownsRow B 87 2 (.slice (some ⟨g, 0, none⟩) n n) n xs := own_keep h fun g' hg' => by injection hg' with hg'; subst hg'; exact hgW
  obtain ⟨W1, hW1⟩ : ∃ W1, W1 = W0.setCells w.heap.size (i * 2) [.string nm, .int .i64 ino] := ⟨_, rfl⟩
  have hcp1 : ∀ ty dc, (Builtin.copy_ #[41, 41] ty #[.slice (some ⟨w.heap.size, i * 2, none⟩) (n + 1 - i) dc, .slice (some ⟨c, 0, none⟩) 1 1]).run Try.prog W0 = .ok (goInt (Nat.min 1 (n + 1 - i))) W1 := fun ty dc => by
    rw [hW1]
    exact run_copy_rows W0 _ _ ty 87 2 w.heap.size (i * 2) (n + 1 - i) dc ⟨c, 0, none⟩ 1 1 [.string nm, .int .i64 ino] Try.underlying41 hsz (by simp only [Nat.min_def]; split <;> simp; omega)
      (World.news_of_block (cs := #[.string nm, .int .i64 ino]) hcW)
      (fun j hj => by
        have hj : j < 2 := hj
        rw [own0.cellAt _ (by omega), List.getElem?_eq_getElem (by omega)]; rfl) (fun j _ => own0.frozenAt _) (by simp [Value.oneCell'])
  have own1 : W1.ownsRow B 87 2 (.slice (some ⟨w.heap.size, 0, none⟩) (n + 1) C) (n + 1) (setL ys (i * 2) [.string nm, .int .i64 ino]) := by
    rw [hW1]; exact own_setCells rfl _ _ _ _ own0
  have grow1 : W0.grownBy W1 (some w.heap.size) := by rw [hW1]; exact grown_setCells _ _ _ _
  have hxW1 : W1.drew.ownsRow B 87 2 (.slice (some ⟨g, 0, none⟩) n n) n xs := own_keep hxW fun g' hg' => by
    injection hg' with hg'
    subst hg'
    exact grow1.block g (Nat.lt_of_lt_of_le hgl grow0.size) (fun e => by injection e with e; omega)
  have hcp2 : ∀ ty dc sc, (Builtin.copy_ #[41, 41] ty #[.slice (some ⟨w.heap.size, (i + 1) * 2, none⟩) (n - i) dc, .slice (some ⟨g, i * 2, none⟩) (n - i) sc]).run Try.prog W1.drew = .ok (goInt (Nat.min (n - i) (n - i))) (W1.drew.setCells w.heap.size ((i + 1) * 2) (xs.drop (i * 2))) := fun ty dc sc =>
    run_copy_rows W1.drew _ _ ty 87 2 w.heap.size ((i + 1) * 2) (n - i) dc ⟨g, i * 2, none⟩ (n - i) sc (xs.drop (i * 2)) Try.underlying41 hsz (by rw [hdl]; simp only [Nat.min_def]; split <;> omega)
      (fun j v hj => by
        have hjl : j < (xs.drop (i * 2)).length := (List.getElem?_eq_some_iff.1 hj).1
        rw [hdl] at hjl
        rw [add_plain, hxW1.cellAt _ (by omega)]
        rwa [List.getElem?_drop] at hj)
      (fun j hj => by
        rw [hdl] at hj
        show (W1.cell? _).isSome = true
        rw [own1.cellAt _ (by omega), List.getElem?_eq_getElem (by rw [setL_len]; omega)]; rfl) (fun j _ => own1.frozenAt _) (fun v hv => h1 v (List.mem_of_mem_drop hv))
  have FIN : Hid (InsR B w (.slice (some ⟨g, 0, none⟩) n n) n i xs [.string nm, .int .i64 ino] (.returned (.slice (some ⟨w.heap.size, 0, none⟩) (n + 1) C)) (W1.drew.setCells w.heap.size ((i + 1) * 2) (xs.drop (i * 2)))) := Lib.hid
    ⟨_, rfl, by
      have hd : W1.drew.ownsRow B 87 2 (.slice (some ⟨w.heap.size, 0, none⟩) (n + 1) C) (n + 1) (setL ys (i * 2) [.string nm, .int .i64 ino]) := own1
      have := own_setCells (v := .slice (some ⟨w.heap.size, 0, none⟩) (n + 1) C) rfl (xs.drop (i * 2)) _ ((i + 1) * 2) W1.drew hd
      rwa [set_two' hyl hxl (Nat.le_of_lt hin) rfl hyx] at this, by
      have k1 : W0.grownBy W1.drew (some w.heap.size) := ⟨grow1.os, grow1.tape, grow1.output, grow1.size, grow1.block⟩
      have k2 := grown_trans k1 (grown_setCells w.heap.size (xs.drop (i * 2)) ((i + 1) * 2) W1.drew)
      exact ⟨k2.os.trans grow0.os, k2.tape.trans grow0.tape, k2.output.trans grow0.output, Nat.le_trans grow0.size k2.size, fun k hk hne => (k2.block k (Nat.lt_of_lt_of_le hk grow0.size) (fun e => by injection e with e; omega)).trans (grow0.block k hk hne)⟩, .inr rfl⟩
  have he : ((i : Int) == (n : Int)) = false := by simp; omega
  have hw1 : IntKind.i64.wrap ((i : Int) + 1) = (i : Int) + 1 := by rw [IntKind.wrap_i64]; omega
  have hw2 : IntKind.i64.wrap ((n : Int) + 1) = (n : Int) + 1 := by rw [IntKind.wrap_i64]; omega
  have hw3 : IntKind.i64.wrap ((n : Int) + 1 - (i : Int)) = (n : Int) + 1 - (i : Int) := by rw [IntKind.wrap_i64]; omega
  have hg2 : (n : Int) < (n : Int) + 1 := by omega
  have hb1 : (0 : Int) ≤ (i : Int) + 1 := by omega
  have hb2 : ¬ C = i + 1 := by omega
  have hb3 : ¬ C = i := by omega
  have hb4 : (i : Int) + 1 ≤ (n : Int) + 1 := by omega
  have hb5 : (i : Int) ≤ (n : Int) + 1 := by omega
  have hb6 : (i : Int) ≤ (n : Int) := by omega
  have hb7 : (0 : Int) ≤ (n : Int) + 1 := by omega
  have hb9 : ¬ n = i := by omega
  clear hW1 own1 h hyx hxW hxW1 hc hcW h1 hdl hW0 hH0 own0 hC hys grow0 grow1 hzc hgW
  go_enter Try.func93, Try.ntmps93
  go_wp2_with (first
    | (at_builtin; refine Lib.wpList_append_run _ rfl _ _ _ _ rfl _ _ rfl rfl _ _ (hrun _) ?_)
    | (at_builtin; refine wpList_copy_run _ rfl _ _ 41 41 rfl _ _ rfl rfl (hcp1 _ _) ?_)
    | fail)
  go_region_law (refine step_copy_run rfl _ _ 41 41 rfl _ _ (by simp [Act.eval, Act.put]) (by simp [Act.eval, Act.put]) (hcp2 _ _ _) ?_)
  go_wp2_with fail
  go_ret
  exact FIN.out

/-- slices.Insert of one entry -/
theorem insert_any (B : Nat) (w : World) (a : Option Addr) (cap n i c : Nat) (xs : List Value) (nm : ByteArray) (ino : Int) (h : w.ownsRow B 87 2 (.slice a n cap) n xs) (hin : i ≤ n) (hn : n ≤ 1000) (hB : B ≤ w.heap.size) (h1 : ∀ u ∈ xs, u.oneCell' = true) (hcg : (Value.slice a n cap).ownBlock ≠ some c) (hc : w.heap[c]? = some (.cells #[.string nm, .int .i64 ino] 87 (0, 0))) :
    Calls Try.prog 93 #[.slice a n cap, .int .i64 i, .slice (some ⟨c, 0, none⟩) 1 1] w (InsR B w (.slice a n cap) n i xs [.string nm, .int .i64 ino]) := by
  by_cases he : i = n
  · subst he
    exact insertEnd_any B w a cap i c xs nm ino h hn hB hc
  · obtain ⟨g, rfl⟩ : ∃ g, a = some ⟨g, 0, none⟩ := by
      obtain ⟨a', cap', h1, _, h2, h3⟩ := own_slice h
      injection h1 with h1
      cases ha : a with
      | none => rw [ha] at h1; have := (h2 h1.symm).2; omega
      | some p => rw [ha] at h1; obtain ⟨g, h4, -⟩ := h3 p h1.symm; exact ⟨g, by rw [h4]⟩
    obtain ⟨hcap, -⟩ := own_cap h
    by_cases hr : n + 1 ≤ cap
    · exact insertShift_any B w g cap n i c xs nm ino h (by omega) hn hr h1 (fun e => hcg (by rw [e]; rfl)) hc
    · obtain rfl : cap = n := by omega
      exact insertGrow_any B w g cap i c xs nm ino h (by omega) hn hB h1 hc
end Go.Proofs.Ytafnbpkdenjipaa.fl
namespace Go.Proofs.Ytafnbpkdenjipaa.fl
open Go.RowKit Go.Proofs.Ytafnbpkdenjipaa.cm

/-- a block that is known whole, with its type -/
def TB (T : Nat) (w : World) (B : Nat) (cs : List Value) : Prop := w.heap[B]? = some (.cells cs.toArray T (0, 0))
section
variable {T : Nat} {w w' : World} {B : Nat} {cs : List Value}
theorem TB.blk (h : TB T w B cs) : Blk w B cs := ⟨T, h⟩
theorem TB.lt (h : TB T w B cs) : B < w.heap.size := (Array.getElem?_eq_some_iff.1 h).1
theorem TB.keep (h : TB T w B cs) (hk : w'.heap[B]? = w.heap[B]?) : TB T w' B cs := hk.trans h
theorem TB.stay (h : TB T w B cs) (hb : Below w.heap.size w w') : TB T w' B cs := h.keep (hb.block B h.lt)
theorem TB.alloc (h : TB T w B cs) (o : Obj) : TB T (w.alloc o) B cs := h.stay ((Below.refl _ _).alloc (Nat.le_refl _) _)
theorem TB.new1 (w : World) (cs : List Value) (T n : Nat) (hn : w.heap.size = n) : TB T (w.alloc (.cells cs.toArray T)) n cs := by
  subst hn
  show (w.heap.push (.cells cs.toArray T))[w.heap.size]? = _
  simp
theorem TB.set (h : TB T w B cs) (j : Nat) (v : Value) : TB T (w.setCell ⟨B, j, none⟩ v) B (cs.set j v) := by
  obtain ⟨hlt, hk⟩ := Array.getElem?_eq_some_iff.1 h
  show (w.heap.modify B _)[B]? = _
  rw [Array.getElem?_eq_getElem (by rw [Array.size_modify]; exact hlt), Array.getElem_modify_self, hk]
  simp
theorem TB.other (h : TB T w B cs) {C : Nat} (hne : B ≠ C) (j : Nat) (v : Value) : TB T (w.setCell ⟨C, j, none⟩ v) B cs := h.keep (Below.heap_setCell w ⟨C, j, none⟩ v B hne)
theorem TB.drew (h : TB T w B cs) : TB T w.drew B cs := h
/-- another type's row lies elsewhere -/
theorem TB.ne (h : TB T w B cs) {M T' size n : Nat} {v : Value} {xs : List Value} (ho : w.ownsRow M T' size v n xs) (hT : T ≠ T') : v.ownBlock ≠ some B := fun e => by
  obtain ⟨c, fz, h1⟩ := Lib.ownsRow_kind ho B e
  have h2 : w.heap[B]? = some (.cells cs.toArray T (0, 0)) := h
  rw [h2] at h1
  injection h1 with h1
  injection h1 with _ h1
  exact hT h1
theorem TB.grown (h : TB T w B cs) {M T' size n : Nat} {v : Value} {xs : List Value} (ho : w.ownsRow M T' size v n xs) (hT : T ≠ T') (hg : w.grownBy w' v.ownBlock) : TB T w' B cs := h.keep (hg.block B h.lt fun e => h.ne ho hT e.symm)
theorem TB.same (h : TB T w B cs) (hT : ¬ (T = 72 ∨ T = 43 ∨ T = 87)) (j : Nat) (u : Value) : SameT w (w.setCell ⟨B, j, none⟩ u) := SameT.set h hT j u
end

-- entries in order
theorem less_take {l : List EntP} (h : SortE l) (s : ByteArray) : l.filter (fun e => decide (lt e.name s)) = l.take (posE l s) := by
  obtain ⟨h1, h2⟩ := pos_less h s
  have e : l = l.take (posE l s) ++ l.drop (posE l s) := (List.take_append_drop _ l).symm
  have a1 : (l.take (posE l s)).filter (fun e => decide (lt e.name s)) = l.take (posE l s) := by
    rw [List.filter_eq_self]
    intro x hx
    obtain ⟨j, hj⟩ := List.mem_iff_getElem?.1 hx
    rw [List.getElem?_take] at hj
    split at hj
    · exact decide_eq_true (h1 j x (by assumption) hj)
    · cases hj
  have a2 : (l.drop (posE l s)).filter (fun e => decide (lt e.name s)) = [] := by
    rw [List.filter_eq_nil_iff]
    intro x hx
    obtain ⟨j, hj⟩ := List.mem_iff_getElem?.1 hx
    rw [List.getElem?_drop] at hj
    simpa using h2 (posE l s + j) x (by omega) hj
  calc l.filter (fun e => decide (lt e.name s)) = (l.take (posE l s) ++ l.drop (posE l s)).filter (fun e => decide (lt e.name s)) := by rw [← e]
    _ = l.take (posE l s) := by rw [List.filter_append, a1, a2, List.append_nil]
theorem more_drop {l : List EntP} (h : SortE l) {s : ByteArray} (hn : findE l s = none) : l.filter (fun e => decide (lt s e.name)) = l.drop (posE l s) := by
  obtain ⟨h1, h2⟩ := pos_less h s
  have e : l = l.take (posE l s) ++ l.drop (posE l s) := (List.take_append_drop _ l).symm
  have a1 : (l.take (posE l s)).filter (fun e => decide (lt s e.name)) = [] := by
    rw [List.filter_eq_nil_iff]
    intro x hx
    obtain ⟨j, hj⟩ := List.mem_iff_getElem?.1 hx
    rw [List.getElem?_take] at hj
    split at hj
    · simpa using lt_asymm (h1 j x (by assumption) hj)
    · cases hj
  have a2 : (l.drop (posE l s)).filter (fun e => decide (lt s e.name)) = l.drop (posE l s) := by
    rw [List.filter_eq_self]
    intro x hx
    obtain ⟨j, hj⟩ := List.mem_iff_getElem?.1 hx
    rw [List.getElem?_drop] at hj
    have k1 := h2 (posE l s + j) x (by omega) hj
    have k2 := find_none.1 hn x (List.mem_of_getElem? hj)
    exact decide_eq_true (by
      rcases lt_total _ _ k2 with y | y
      · exact (k1 y).elim
      · exact y)
  calc l.filter (fun e => decide (lt s e.name)) = (l.take (posE l s) ++ l.drop (posE l s)).filter (fun e => decide (lt s e.name)) := by rw [← e]
    _ = l.drop (posE l s) := by rw [List.filter_append, a1, a2, List.nil_append]
/-- Insert at the place makes insE -/
theorem ins_at {l : List EntP} (h : SortE l) {s : ByteArray} (hn : findE l s = none) (i : Int) : insE l s i = l.take (posE l s) ++ [⟨s, i⟩] ++ l.drop (posE l s) := by
  unfold insE
  rw [less_take h, more_drop h hn, List.append_assoc]
  rfl
/-- Delete at the place makes remE -/
theorem rem_at {l : List EntP} (h : SortE l) {s : ByteArray} {i : Int} (hf : findE l s = some i) : remE l s = l.eraseIdx (posE l s) ∧ posE (remE l s) s = posE l s := by
  induction l with
  | nil => cases hf
  | cons x l ih =>
    have hs' := List.pairwise_cons.1 h
    rw [find_cons] at hf
    by_cases k : x.name = s
    · have hnl : findE l s = none := find_none.2 fun y hy => by
        have := ne_of_lt (hs'.1 y hy)
        rw [k] at this
        exact this.symm
      have hp : posE (x :: l) s = 0 := by
        unfold posE
        rw [List.countP_eq_zero]
        intro y hy
        rcases List.mem_cons.1 hy with hy | hy
        · rw [hy, k]; simpa using lt_irrefl s
        · have := hs'.1 y hy
          rw [k] at this
          simpa using lt_asymm this
      have hr : remE (x :: l) s = l := by
        unfold remE
        rw [List.filter_cons_of_neg (by simp [k])]
        exact rem_none hnl
      have hp2 : posE l s = 0 := by
        unfold posE at hp ⊢
        rw [List.countP_cons_of_neg (by rw [k]; simpa using lt_irrefl s)] at hp
        exact hp
      rw [hr, hp, hp2]
      exact ⟨rfl, rfl⟩
    · rw [if_neg k] at hf
      obtain ⟨h1, h2⟩ := ih hs'.2 hf
      have hr : remE (x :: l) s = x :: remE l s := by
        unfold remE
        rw [List.filter_cons_of_pos (by simp [k])]
      have hx : lt x.name s := by
        have := hs'.1 _ ((find_some hs'.2).1 hf)
        exact this
      have hp : ∀ m : List EntP, posE (x :: m) s = posE m s + 1 := fun m => by unfold posE; rw [List.countP_cons_of_pos (by simpa using hx)]
      rw [hr, hp, hp, h1, List.eraseIdx_cons_succ]
      rw [h1] at h2
      exact ⟨rfl, by rw [h2]⟩
theorem erow_take (l : List EntP) (k : Nat) : erow (l.take k) = (erow l).take (k * 2) := by
  have e : erow l = erow (l.take k) ++ erow (l.drop k) := by rw [← erow_app, List.take_append_drop]
  by_cases h : k ≤ l.length
  · have hl : (erow (l.take k)).length = k * 2 := by rw [erow_len, List.length_take]; omega
    rw [e]
    exact (List.take_left' hl).symm
  · rw [List.take_of_length_le (by omega), List.take_of_length_le (by rw [erow_len]; omega)]
theorem erow_drop (l : List EntP) (k : Nat) : erow (l.drop k) = (erow l).drop (k * 2) := by
  have e : erow l = erow (l.take k) ++ erow (l.drop k) := by rw [← erow_app, List.take_append_drop]
  by_cases h : k ≤ l.length
  · have hl : (erow (l.take k)).length = k * 2 := by rw [erow_len, List.length_take]; omega
    rw [e]
    exact (List.drop_left' hl).symm
  · rw [List.drop_eq_nil_of_le (by omega), List.drop_eq_nil_of_le (by rw [erow_len]; omega)]
    rfl
/-- the row behind Insert -/
theorem erow_ins {l : List EntP} (h : SortE l) {s : ByteArray} (hn : findE l s = none) (i : Int) : (erow l).take (posE l s * 2) ++ [.string s, .int .i64 i] ++ (erow l).drop (posE l s * 2) = erow (insE l s i) ∧ (insE l s i).length = l.length + 1 := by
  have hp := pos_le l s
  rw [ins_at h hn, erow_app, erow_app, erow_take, erow_drop]
  refine ⟨rfl, ?_⟩
  simp
  omega
/-- the row behind Delete -/
theorem erow_rem {l : List EntP} (h : SortE l) {s : ByteArray} {i : Int} (hf : findE l s = some i) : (erow l).take (posE l s * 2) ++ (erow l).drop ((posE l s + 1) * 2) = erow (remE l s) ∧ (remE l s).length = l.length - 1 := by
  rw [(rem_at h hf).1, erow_erase]
  refine ⟨rfl, ?_⟩
  obtain ⟨e, -, -, -, hl⟩ := pos_find h hf
  rw [List.length_eraseIdx_of_lt hl]

-- changes in memory
def ccs (c : ChgP) : List Value := [.int .i64 c.dir.dev, .int .i64 c.dir.ino, .string c.name, .int .i64 c.old.dev, .int .i64 c.old.ino, .int .i64 c.now.dev, .int .i64 c.now.ino]
def crow : List ChgP → List Value
  | [] => []
  | c :: l => ccs c ++ crow l
theorem crow_len : ∀ l, (crow l).length = l.length * 7
  | [] => rfl
  | c :: l => by rw [crow, List.length_append, show (ccs c).length = 7 from rfl, crow_len l, List.length_cons]; omega
theorem crow_app : ∀ a b, crow (a ++ b) = crow a ++ crow b
  | [], b => rfl
  | c :: a, b => by rw [List.cons_append, crow, crow, crow_app a b, List.append_assoc]
theorem crow_at : ∀ (l : List ChgP) (j : Nat) (c : ChgP), l[j]? = some c → ∀ i, i < 7 → (crow l)[j * 7 + i]? = (ccs c)[i]?
  | [], j, c, h, _, _ => by simp at h
  | x :: l, 0, c, h, i, hi => by
    simp at h
    subst h
    rw [crow, Nat.zero_mul, Nat.zero_add, List.getElem?_append_left (by show _ < 7; omega)]
  | x :: l, j + 1, c, h, i, hi => by
    rw [crow, List.getElem?_append_right (by show 7 ≤ _; omega), show (ccs x).length = 7 from rfl, show (j + 1) * 7 + i - 7 = j * 7 + i by omega]
    exact crow_at l j c (by simpa using h) i hi
def OwnC (B : Nat) (w : World) (v : Value) (l : List ChgP) : Prop := w.ownsRow B 66 7 v l.length (crow l)
theorem OwnC.nil (B : Nat) (w : World) : OwnC B w (.slice none 0 0) [] := World.ownsRow_nil _ _ _ _
theorem infoC : (Try.prog.info? 66).map (fun i => (i.zero, i.size, i.bytes)) = some (some (.agg #[.int .i64 0, .int .i64 0, .string ⟨#[]⟩, .int .i64 0, .int .i64 0, .int .i64 0, .int .i64 0]), 7, 64) := by kernel_rfl
/-- a change in memory -/
structure ChgAt (w : World) (b o : Nat) (c : ChgP) : Prop where
  c0 : w.cell? ⟨b, o, none⟩ = some (.int .i64 c.dir.dev)
  c1 : w.cell? ⟨b, o + 1, none⟩ = some (.int .i64 c.dir.ino)
  c2 : w.cell? ⟨b, o + 2, none⟩ = some (.string c.name)
  c3 : w.cell? ⟨b, o + 3, none⟩ = some (.int .i64 c.old.dev)
  c4 : w.cell? ⟨b, o + 4, none⟩ = some (.int .i64 c.old.ino)
  c5 : w.cell? ⟨b, o + 5, none⟩ = some (.int .i64 c.now.dev)
  c6 : w.cell? ⟨b, o + 6, none⟩ = some (.int .i64 c.now.ino)
theorem ChgAt.stays : Stays ChgAt := fun _ _ _ _ _ h hb => ⟨cell_stays h.c0 hb, cell_stays h.c1 hb, cell_stays h.c2 hb, cell_stays h.c3 hb, cell_stays h.c4 hb, cell_stays h.c5 hb, cell_stays h.c6 hb⟩
abbrev Chgs (w : World) (a : Option Addr) (l : List ChgP) : Prop := RowAt ChgAt 7 w a l
theorem OwnC.at_ {B : Nat} {w : World} {v : Value} {l : List ChgP} (h : OwnC B w v l) : ∃ a cap, v = .slice a l.length cap ∧ l.length ≤ cap ∧ (a = none → cap = 0) ∧ Chgs w a l := by
  obtain ⟨a, cap, hv, hc, hn, hp⟩ := own_slice h
  refine ⟨a, cap, hv, hc, fun x => (hn x).1, ?_⟩
  cases a with
  | none => exact .inl (List.length_eq_zero_iff.1 (hn rfl).2)
  | some p =>
    obtain ⟨g, rfl, -⟩ := hp p rfl
    refine .inr ⟨g, 0, rfl, fun j c hj => ?_⟩
    have hl : j < l.length := (List.getElem?_eq_some_iff.1 hj).1
    have key : ∀ i, i < 7 → w.cell? ⟨g, 0 + j * 7 + i, none⟩ = (ccs c)[i]? := fun i hi => by
      rw [Nat.zero_add, own_cell h hv (by omega), crow_at l j c hj i hi]
    exact ⟨key 0 (by omega), key 1 (by omega), key 2 (by omega), key 3 (by omega), key 4 (by omega), key 5 (by omega), key 6 (by omega)⟩
end Go.Proofs.Ytafnbpkdenjipaa.fl
