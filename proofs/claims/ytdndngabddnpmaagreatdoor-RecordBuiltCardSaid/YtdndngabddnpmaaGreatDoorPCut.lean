/-
  What reading a line cuts off; no program.
-/
import Derived.Test.YtdndngabddnpmaaGreatDoorRFmt
import Derived.Test.YtdndngabddnpmaaGreatDoorParP
namespace Go.Proofs.YtdndngabddnpmaaGreatDoor.rd
open Go.Proofs.YtdndngabddnpmaaGreatDoor.vl Go.Proofs.YtdndngabddnpmaaGreatDoor.rg

theorem index_app (c : UInt8) (r b : List UInt8) : ∀ a : List UInt8, (∀ x ∈ a, x ≠ c) → Lib.index (a ++ ((c :: r) ++ b)) (c :: r) = (a.length : Int)
  | [], _ => by
    show Lib.index (c :: (r ++ b)) (c :: r) = 0
    unfold Lib.index
    rw [if_pos]
    show (c :: r).isPrefixOf ((c :: r) ++ b) = true
    rw [List.isPrefixOf_iff_prefix]
    exact List.prefix_append _ _
  | x :: a, h => by
    have ih := index_app c r b a (fun y hy => h y (by simp [hy]))
    have hx : x ≠ c := h x (by simp)
    show Lib.index (x :: (a ++ ((c :: r) ++ b))) (c :: r) = _
    unfold Lib.index
    rw [if_neg (by simp [List.isPrefixOf]; intro hc; exact absurd hc.symm hx), ih, if_neg (by simp <;> omega)]
    simp
theorem cut_app (c : UInt8) (r a b : List UInt8) (h : ∀ x ∈ a, x ≠ c) : Lib.cut (a ++ ((c :: r) ++ b)) (c :: r) = (a, b, true) := by
  unfold Lib.cut
  rw [index_app c r b a h, if_pos (by omega)]
  have e1 : (a ++ ((c :: r) ++ b)).take ((a.length : Int).toNat) = a := by simp
  have e2 : (a ++ ((c :: r) ++ b)).drop ((a.length : Int).toNat + (c :: r).length) = b := by
    rw [← List.append_assoc, Int.toNat_natCast, ← List.length_append, List.drop_left]
  rw [e1, e2]
theorem prefix_app (p b : List UInt8) : Lib.hasPrefix (p ++ b) p = true ∧ Lib.trimPrefix (p ++ b) p = b := by
  have h : Lib.hasPrefix (p ++ b) p = true := by
    unfold Lib.hasPrefix
    rw [List.isPrefixOf_iff_prefix]
    exact List.prefix_append _ _
  refine ⟨h, ?_⟩
  unfold Lib.trimPrefix
  rw [if_pos h, List.drop_left]

theorem atoi_dec (n : Nat) (h : n ≤ 9223372036854775807) : Lib.atoiAll (Lib.decDigits n) = .ok (n : Int) := by
  have := atoi_itoa (n : Int) ⟨by omega, by omega⟩
  rwa [itoa_nat] at this
theorem pu_one (a d : Nat) (h : d < 10) (ha : a < 1000) : Lib.parseUint10 a (Lib.decDigits d) = .ok (a * 10 + d) := by
  have hd : Lib.decDigits d = [UInt8.ofNat (48 + d)] := by unfold Lib.decDigits; rw [dif_pos h]
  have hn : (UInt8.ofNat (48 + d)).toNat = 48 + d := by simp; omega
  rw [hd]
  unfold Lib.parseUint10
  rw [hn, if_pos (by omega), if_neg (by omega), if_neg (by omega)]
  unfold Lib.parseUint10
  rw [show 48 + d - 48 = d by omega]
theorem atoi_three (m : Nat) (h : m < 1000) : Lib.atoiAll (three m) = .ok (m : Int) := by
  have h1 := pu_one 0 (m / 100) (by omega) (by omega)
  have h2 := pu_one (m / 100) (m / 10 % 10) (by omega) (by omega)
  have h3 := pu_one (m / 100 * 10 + m / 10 % 10) (m % 10) (by omega) (by omega)
  have hp : Lib.parseUint10 0 (three m) = .ok m := by
    unfold three
    rw [pu_app _ _ _ _ h1, show 0 * 10 + m / 100 = m / 100 by omega, pu_app _ _ _ _ h2, h3]
    congr 1
    omega
  have hd := three_dig m
  have hl := three_len m h
  cases ht : three m with
  | nil => rw [ht] at hl; simp at hl
  | cons c r =>
    have hc := hd c (by rw [ht]; simp)
    have hc2 : 48 ≤ c.toNat ∧ c.toNat ≤ 57 := by simpa [vl.digB] using hc
    unfold Lib.atoiAll
    have hm : Lib.parseMag (c :: r) = .ok m := by
      unfold Lib.parseMag
      rw [if_neg (by simp), ← ht, hp]
    simp only
    rw [if_neg (by omega), hm]
    simp only
    rw [if_neg (by omega)]
    first
      | rfl
      | (split <;> first | rfl | omega | (simp; omega))

theorem tail_words : ∀ ps : List PairP, tailL ps = ((ps.map pairL).map fun v => 32 :: v).flatten := fun ps => by
  unfold tailL
  rw [List.map_map]
  rfl
theorem pieces_tail (q : PairP) (qs : List PairP) (h : ∀ p ∈ q :: qs, checkP p = 0 ∧ isInt p.num) : rg.cutAt 32 (pairL q ++ tailL qs) = (q :: qs).map pairL := by
  have hb : ∀ p ∈ q :: qs, ∀ c ∈ pairL p, c ≠ 32 := fun p hp c hc => ne32 ((fmtP_bytes (fmtP_some (h p hp).1) (h p hp).2).2 c hc).1
  rw [tail_words]
  exact cut_words (qs.map pairL) (pairL q) (hb q (by simp)) (fun v hv => by
    obtain ⟨p, hp, rfl⟩ := List.mem_map.1 hv
    exact hb p (by simp [hp]))

/-- the pairs of some pieces -/
def pairsO (xs : List ByteArray) : Option (List PairP) := xs.mapM fun x => parP x.data.toList
theorem pairsO_nil : pairsO [] = some [] := rfl
theorem pairsO_snoc {xs : List ByteArray} {ps : List PairP} {x : ByteArray} {p : PairP} (h : pairsO xs = some ps) (hx : parP x.data.toList = some p) : pairsO (xs ++ [x]) = some (ps ++ [p]) := by
  unfold pairsO at h ⊢
  rw [List.mapM_append, h]
  simp [hx]
theorem pairsO_tail (q : PairP) (qs : List PairP) (h : ∀ p ∈ q :: qs, checkP p = 0 ∧ isInt p.num) : pairsO (cutB 32 (bs (pairL q ++ tailL qs))) = some (q :: qs) := by
  unfold pairsO cutB
  have hf : ((fun x : ByteArray => parP x.data.toList) ∘ fun l : List UInt8 => (⟨l.toArray⟩ : ByteArray)) = parP := by
    funext l
    simp
  rw [bs_data, pieces_tail q qs h, List.mapM_map, hf]
  exact mapM_pairs (q :: qs) h
theorem pairsO_none {xs pre post : List ByteArray} {x : ByteArray} (h : xs = pre ++ (x :: post)) (hx : parP x.data.toList = none) : pairsO xs = none := by
  subst h
  unfold pairsO
  rw [List.mapM_append]
  cases (List.mapM (fun x : ByteArray => parP x.data.toList) pre) <;> simp [hx]
end Go.Proofs.YtdndngabddnpmaaGreatDoor.rd
