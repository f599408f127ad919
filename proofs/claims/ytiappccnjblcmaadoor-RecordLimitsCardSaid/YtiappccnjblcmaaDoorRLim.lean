/-
  The largest records; no program.
-/
import Derived.Test.YtiappccnjblcmaaDoorRAgree
import Derived.Test.YtiappccnjblcmaaDoorPCut
import Derived.OpenShut
namespace Go.Proofs.YtiappccnjblcmaaDoor.rd
open Go.RowKit Go.Proofs.YtiappccnjblcmaaDoor.cm Go.Proofs.YtiappccnjblcmaaDoor.vl

def chr (k : Nat) : UInt8 := UInt8.ofNat (97 + k)
def limN (k : Nat) : List UInt8 := [97, 98, 99, 100, 101, 102, 103, 104, 105, 106, 107, 108, 109, 110, 111, chr k]
def limT (C : UInt8) : List UInt8 := List.replicate 640 C
theorem limT_len (C : UInt8) : (limT C).length = 640 := by unfold limT; exact List.length_replicate
def limOne (C : UInt8) (k : Nat) : PairP := ⟨limN k, 2, 0, limT C⟩
def limP (C : UInt8) : Nat → List PairP
  | 0 => []
  | k + 1 => limP C k ++ [limOne C k]
theorem limP_len (C : UInt8) : ∀ k, (limP C k).length = k
  | 0 => rfl
  | k + 1 => by rw [limP, List.length_append, limP_len C k]; rfl
theorem limP_mem (C : UInt8) : ∀ k, ∀ p ∈ limP C k, ∃ j, j < k ∧ p = limOne C j
  | 0, p, h => by simp [limP] at h
  | k + 1, p, h => by
    rw [limP] at h
    rcases List.mem_append.1 h with h | h
    · obtain ⟨j, hj, rfl⟩ := limP_mem C k p h
      exact ⟨j, by omega, rfl⟩
    · simp at h
      exact ⟨k, by omega, h⟩
theorem limP_pok (C : UInt8) (k : Nat) : ∀ p ∈ limP C k, POk p := fun p h => by
  obtain ⟨j, _, rfl⟩ := limP_mem C k p h
  refine ⟨by show 16 ≤ _; omega, by show (limT C).length ≤ _; rw [limT_len]; omega, by show isInt 0; unfold isInt; omega⟩
def limNs : Nat → List (List UInt8)
  | 0 => []
  | k + 1 => limNs k ++ [limN k]
theorem limP_names (C : UInt8) : ∀ k, (limP C k).map (·.name) = limNs k
  | 0 => rfl
  | k + 1 => by rw [limP, List.map_append, limP_names C k]; rfl
theorem names24 : (limNs 24).Nodup := by
  have h : decide ((limNs 24).Nodup) = true := by kernel_rfl
  exact of_decide_eq_true h
theorem name_ok : ∀ j < 24, nameL (limN j) = true := by
  have h : (List.range 24).all (fun j => nameL (limN j)) = true := by kernel_rfl
  intro j hj
  exact List.all_eq_true.1 h j (by simpa using hj)
theorem checkPs_ok : ∀ (ps : List PairP) (seen : List (List UInt8)), (∀ p ∈ ps, checkP p = 0) → (seen ++ ps.map (·.name)).Nodup → checkPs seen ps = 0
  | [], _, _, _ => rfl
  | p :: r, seen, h, hn => by
    rw [checkPs, if_neg (by rw [h p (by simp)]; simp)]
    have hni : p.name ∉ seen := fun hm => by
      rw [List.nodup_append] at hn
      exact hn.2.2 _ hm _ (by simp) rfl
    rw [if_neg hni]
    exact checkPs_ok r (seen ++ [p.name]) (fun q hq => h q (by simp [hq])) (by simpa [List.append_assoc] using hn)
theorem lim_check (C : UInt8) (j : Nat) (h : j < 24) : checkP (limOne C j) = 0 := by
  have hn := name_ok j h
  show (if nameL (limN j) = false then (22 : Int) else if (2 : Int) < 1 ∨ (3 : Int) < 2 ∨ ((2 : Int) ≠ 1 ∧ (0 : Int) ≠ 0) ∨ ((2 : Int) ≠ 2 ∧ limT C ≠ []) then 23 else if 640 < (limT C).length then 20 else 0) = 0
  rw [if_neg (show ¬ nameL (limN j) = false by rw [hn]; simp), if_neg (show ¬ ((2 : Int) < 1 ∨ (3 : Int) < 2 ∨ ((2 : Int) ≠ 1 ∧ (0 : Int) ≠ 0) ∨ ((2 : Int) ≠ 2 ∧ limT C ≠ [])) by simp), if_neg (show ¬ 640 < (limT C).length by rw [limT_len]; omega)]
theorem lim_ck (C : UInt8) : ckR 1306 1099511627776 1073741824 (limP C 24) = 0 := by
  unfold ckR checkR
  rw [if_neg (show ¬ (findT 1306).isSome = false by decide), if_neg (show ¬ ((1099511627776 : Int) < 0 ∨ (1099511627776 : Int) < 1099511627776 ∨ (1073741824 : Int) < 0 ∨ (1073741824 : Int) < 1073741824) by omega), if_neg (by show ¬ 24 < (limP C 24).length; rw [limP_len]; omega)]
  exact checkPs_ok _ _ (fun p hp => by obtain ⟨j, hj, rfl⟩ := limP_mem C 24 p hp; exact lim_check C j hj) (by rw [limP_names]; exact names24)
theorem lim_more (ps : List PairP) (h : ps.length = 25) : ckR 1306 1099511627776 1073741824 ps = 32 ∧ fR 1306 1099511627776 1073741824 ps = ⟨#[]⟩ := by
  have hc : ckR 1306 1099511627776 1073741824 ps = 32 := by
    unfold ckR checkR
    rw [if_neg (show ¬ (findT 1306).isSome = false by decide), if_neg (show ¬ ((1099511627776 : Int) < 0 ∨ (1099511627776 : Int) < 1099511627776 ∨ (1073741824 : Int) < 0 ∨ (1073741824 : Int) < 1073741824) by omega), if_pos (by show 24 < ps.length; omega)]
  refine ⟨hc, ?_⟩
  unfold fR
  rw [if_neg (by rw [hc]; decide)]
theorem lim_line (C : UInt8) : (fR 1306 1099511627776 1073741824 (limP C 24)).size ≤ 31240 ∧ parR (fR 1306 1099511627776 1073741824 (limP C 24)).data.toList = some ⟨1306, 1099511627776, 1073741824, limP C 24⟩ := by
  have hc := lim_ck C
  have hi : ∀ p ∈ limP C 24, isInt p.num := fun p hp => (limP_pok C 24 p hp).num
  have e : fR 1306 1099511627776 1073741824 (limP C 24) = bs (lineL ⟨1306, 1099511627776, 1073741824, limP C 24⟩) := by unfold fR; rw [if_pos hc]
  have hf : fmtR ⟨1306, 1099511627776, 1073741824, limP C 24⟩ = some (lineL ⟨1306, 1099511627776, 1073741824, limP C 24⟩) := by unfold fmtR; rw [if_pos (show checkR ⟨1306, 1099511627776, 1073741824, limP C 24⟩ = 0 from hc)]
  rw [e, bs_data, bs_size]
  exact ⟨line_len hc hi, parR_fmtR hf hi⟩
theorem rune_text (k : Nat) (hk : k < 24) : Utf8.encode (97 + (k : Int)) = bs [chr k] := by
  have hv : Utf8.valid (97 + (k : Int)) = true := by
    simp [Utf8.valid]
    omega
  have hn : (97 + (k : Int)).toNat = 97 + k := by omega
  unfold Utf8.encode
  simp only [hv, if_true, hn]
  rw [if_pos (by omega)]
  rfl
theorem name_text (k : Nat) : (⟨#[97, 98, 99, 100, 101, 102, 103, 104, 105, 106, 107, 108, 109, 110, 111]⟩ : ByteArray) ++ bs [chr k] = bs (limN k) := by
  apply ByteArray.ext
  simp [bs, limN, ByteArray.data_append]
end Go.Proofs.YtiappccnjblcmaaDoor.rd
