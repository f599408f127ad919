/-
  The reference's Parse reads the same pairs.
-/
import Derived.Test.YtiappccnjblcmaaDoorVParse
import Derived.Test.YtiappccnjblcmaaDoorRUnq2
namespace Go.Proofs.YtiappccnjblcmaaDoor.vl
open Go.RowKit Go.Proofs.YtiappccnjblcmaaDoor.cm

/-- the bytes before k are no '=' -/
def NoEq (b : UInt8) : Bool := decide (b ≠ 61)

theorem cutE_at {s : ByteArray} {k : Nat} (h : SafeTo NoEq s k) (hk : k < s.size) (he : s[k] = 61) : cutE s.data.toList = some (s.data.toList.take k, s.data.toList.drop (k + 1)) := by
  have hl : k < s.data.toList.length := by rw [bytes_len]; exact hk
  have hd := List.drop_eq_getElem_cons hl
  rw [show s.data.toList[k]'hl = s[k] from rfl, he] at hd
  have hs : s.data.toList = s.data.toList.take k ++ 61 :: s.data.toList.drop (k + 1) := by rw [← hd, List.take_append_drop]
  have hc : ∀ c ∈ s.data.toList.take k, c ≠ 61 := by
    intro c hc
    obtain ⟨j, hj, e⟩ := List.getElem_of_mem hc
    have hj2 : j < k ∧ j < s.size := by rw [List.length_take, bytes_len] at hj; omega
    have := h j hj2.2 hj2.1
    rw [List.getElem_take] at e
    have e2 : s[j] = c := e
    rw [e2] at this
    simpa [NoEq] using this
  have := cutE_app (s.data.toList.take k) (s.data.toList.drop (k + 1)) hc
  rwa [← hs] at this
theorem cutE_no {s : ByteArray} (h : SafeTo NoEq s s.size) : cutE s.data.toList = none := by
  cases hc : cutE s.data.toList with
  | none => rfl
  | some q =>
    obtain ⟨nm, v⟩ := q
    have hs := (cutE_form hc).1
    have hm : (61 : UInt8) ∈ s.data.toList := by rw [hs]; simp
    obtain ⟨j, hj, e⟩ := List.getElem_of_mem hm
    rw [bytes_len] at hj
    have := h j hj hj
    have e2 : s[j] = 61 := e
    rw [e2] at this
    cases this

/-- the end: the pair is written again -/
theorem again {s : ByteArray} {nm v : List UInt8} (h : cutE s.data.toList = some (nm, v)) :
    parP s.data.toList = if fmtP (valP nm v) = some s.data.toList then some (valP nm v) else none := by unfold parP; rw [h]

/-- what the reference's Format answers of a pair, in terms of its text -/
theorem fS_P (nm : ByteArray) (k n : Int) (t : ByteArray) : (ckI nm k n t = 0 ∧ fmtP ⟨nm.data.toList, k, n, t.data.toList⟩ = some (fS nm k n t).data.toList) ∨ ((ckI nm k n t == 0) = false ∧ fmtP ⟨nm.data.toList, k, n, t.data.toList⟩ = none) := by
  rcases ckI_cases nm k n t with h | h
  · left
    refine ⟨h, ?_⟩
    have hc : checkP ⟨nm.data.toList, k, n, t.data.toList⟩ = 0 := h
    unfold fmtP
    rw [if_pos hc, fS_fine h]
    congr 1
    rw [ByteArray.data_append, ByteArray.data_append, Array.toList_append, Array.toList_append]
    show nm.data.toList ++ 61 :: _ = nm.data.toList ++ [61] ++ _
    rw [List.append_assoc]
    congr 1
    show 61 :: valL _ = 61 :: _
    congr 1
    have hw := ckI_ways (ck_name h) k n t
    rw [h] at hw
    unfold valL valB
    dsimp only
    by_cases k1 : k = 1
    · rw [if_pos k1, if_pos k1]; rfl
    · rw [if_neg k1, if_neg k1]
      by_cases k2 : k = 2
      · rw [if_pos k2, if_pos k2]
        have hl : t.size ≤ 640 := by cases hw <;> omega
        unfold quoteB safeB
        cases hs : t.data.toList.all isSafe
        · rw [if_neg (by simp), quoteO_hex (by rw [bytes_len]; exact hl) hs]; rfl
        · rw [if_pos rfl, quoteO_safe (by rw [bytes_len]; exact hl) hs]; rfl
      · rw [if_neg k2, if_neg k2]; rfl
  · right
    refine ⟨h, ?_⟩
    have hc : ¬ checkP ⟨nm.data.toList, k, n, t.data.toList⟩ = 0 := fun hc => by
      have : ckI nm k n t = 0 := hc
      rw [this] at h; cases h
    unfold fmtP
    rw [if_neg hc]

/-- the reference's last test: either the text comes back, or it is refused -/
theorem last_test {s : ByteArray} {nm v : List UInt8} (h : cutE s.data.toList = some (nm, v)) (NM T : ByteArray) (k n : Int) (hv : valP nm v = ⟨NM.data.toList, k, n, T.data.toList⟩) :
    (ckI NM k n T = 0 ∧ fS NM k n T = s ∧ parV s = .agg #[.string NM, .int .i64 k, .int .i64 n, .string T] ∧ parE s = 0) ∨
    (parV s = zV ∧ parE s = 21 ∧ ((ckI NM k n T == 0) = false ∨ (ckI NM k n T = 0 ∧ ((fS NM k n T).toList == s.toList) = false))) := by
  have ha := again h
  rw [hv] at ha
  rcases fS_P NM k n T with ⟨h1, h2⟩ | ⟨h1, h2⟩
  · rw [h2] at ha
    by_cases he : fS NM k n T = s
    · rw [if_pos (by rw [he])] at ha
      obtain ⟨a, b⟩ := par_some ha
      exact .inl ⟨h1, he, a, b⟩
    · have hne : ¬ (some (fS NM k n T).data.toList = some s.data.toList) := fun hc => he (ByteArray.ext (Array.toList_inj.1 (Option.some.inj hc)))
      rw [if_neg hne] at ha
      obtain ⟨a, b⟩ := par_none ha
      exact .inr ⟨a, b, .inr ⟨h1, by rw [beq_str]; simp [he]⟩⟩
  · rw [h2, if_neg (by simp)] at ha
    obtain ⟨a, b⟩ := par_none ha
    exact .inr ⟨a, b, .inl h1⟩

/-- the first block of the call, whatever is laid behind it -/
theorem box_keeps (w w' : World) (h : Below (w.heap.size + 1) (w.alloc (.cells #[.string ⟨#[]⟩, .int .i64 0, .int .i64 0, .string ⟨#[]⟩] 38)) w') : Box w' w.heap.size (.string ⟨#[]⟩) (.int .i64 0) (.int .i64 0) (.string ⟨#[]⟩) :=
  box_of ((h.block w.heap.size (by omega)).trans (box_new w _ _ _ _ _))
theorem below_keeps {w w' : World} (h : Below (w.heap.size + 1) (w.alloc (.cells #[.string ⟨#[]⟩, .int .i64 0, .int .i64 0, .string ⟨#[]⟩] 38)) w') : Below w.heap.size w w' := ((Below.refl _ _).alloc (Nat.le_refl _) _).trans (h.mono (by omega))

theorem Box.two {w : World} {B : Nat} {a b c d : Value} (h : Box w B a b c d) (y u : Value) : Box ((w.setCell ⟨B, 1, none⟩ y).setCell ⟨B, 3, none⟩ u) B a y c u := by
  obtain ⟨c0, c1, c2, c3, f0, f1, f2, f3⟩ := h
  constructor <;> simp [go_sem, c0, c1, c2, c3, f0, f1, f2, f3]

theorem rnB_num {v : ByteArray} (h : rnB v = true) : numI v.data.toList = some (readI v.data.toList) := by
  unfold numI; rw [if_pos (of_decide_eq_true h)]
theorem rnB_not {v : ByteArray} (h : rnB v = false) : numI v.data.toList = none := by
  unfold numI; rw [if_neg (of_decide_eq_false h)]

/-- sound pairs with one text are one pair -/
theorem fS_inj {n1 n2 t1 t2 : ByteArray} {k1 k2 m1 m2 : Int} (h1 : ckI n1 k1 m1 t1 = 0) (h2 : ckI n2 k2 m2 t2 = 0) (i1 : isInt m1) (i2 : isInt m2) (h : fS n1 k1 m1 t1 = fS n2 k2 m2 t2) : n1 = n2 ∧ k1 = k2 ∧ m1 = m2 ∧ t1 = t2 := by
  rcases fS_P n1 k1 m1 t1 with ⟨_, a1⟩ | ⟨a1, _⟩
  · rcases fS_P n2 k2 m2 t2 with ⟨_, a2⟩ | ⟨a2, _⟩
    · rw [← h] at a2
      have e1 := parP_fmtP a1 i1
      have e2 := parP_fmtP a2 i2
      rw [e1] at e2
      injection e2 with e2
      injection e2 with e3 e4 e5 e6
      exact ⟨ByteArray.ext (Array.toList_inj.1 e3), e4, e5, ByteArray.ext (Array.toList_inj.1 e6)⟩
    · rw [h2] at a2; cases a2
  · rw [h1] at a1; cases a1

theorem list_eq {a b : ByteArray} (h : a.toList = b.toList) : a = b := by
  have := beq_str a b
  rw [h] at this
  simpa using this

/-- two pairs that are not the same -/
def Differ (n1 n2 t1 t2 : ByteArray) (k1 k2 m1 m2 : Int) : Prop := ¬ (n1 = n2 ∧ k1 = k2 ∧ m1 = m2 ∧ t1 = t2)


/-- the text of a sound pair is read back, and its bytes are printable -/
theorem fS_back {nm t : ByteArray} {k n : Int} (h : ckI nm k n t = 0) (hn : isInt n) :
    parV (fS nm k n t) = .agg #[.string nm, .int .i64 k, .int .i64 n, .string t] ∧ parE (fS nm k n t) = 0 ∧ (fS nm k n t).size ≤ 100000 ∧ ∀ (j : Nat) (hj : j < (fS nm k n t).size), (32 : Int) < ((fS nm k n t)[j].toNat : Int) ∧ ((fS nm k n t)[j].toNat : Int) ≤ 126 := by
  rcases fS_P nm k n t with ⟨_, a1⟩ | ⟨a1, _⟩
  · have e1 := parP_fmtP a1 hn
    obtain ⟨p1, p2⟩ := par_some e1
    obtain ⟨b1, b2⟩ := fmtP_bytes a1 hn
    rw [bytes_len] at b1
    refine ⟨p1, p2, by omega, fun j hj => ?_⟩
    have hm : (fS nm k n t)[j] ∈ (fS nm k n t).data.toList := by
      have : (fS nm k n t).data.toList[j]'(by rw [bytes_len]; exact hj) = (fS nm k n t)[j] := rfl
      rw [← this]; exact List.getElem_mem _
    have := b2 _ hm
    omega
  · rw [h] at a1; cases a1
end Go.Proofs.YtiappccnjblcmaaDoor.vl
