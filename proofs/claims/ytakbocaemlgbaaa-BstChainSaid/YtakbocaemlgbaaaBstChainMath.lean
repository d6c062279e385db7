/-
  Plain mathematics of the statement BstChain: of three bytes and more a tree finds what a chain with no cut finds.
-/
import Derived.Test.YtakbocaemlgbaaaBstSpeaks
namespace Go.Proofs.Ytakbocaemlgbaaa.Bs
open Go.RowKit Go.Maps
open Mt
open Ch (bt bt_at bt_lt foundL foundL_none)
/-- Those of three bytes and more. -/
def far3 (l : List (Nat × Nat)) : List (Nat × Nat) := l.filter (fun x => decide (3 ≤ x.1))
theorem heads_mat {b : Nat → Nat} {p x most : Nat} (hm : 3 ≤ most) : heads b p x = true ↔ 3 ≤ mat b p x 0 most := by
  constructor
  · intro h
    obtain ⟨e0, e1, e2⟩ := heads_iff.1 h
    rcases mat_reach b p x most 0 3 (by omega) (fun j _ hj => by
      have : j = 0 ∨ j = 1 ∨ j = 2 := by omega
      rcases this with rfl | rfl | rfl
      · exact e0
      · exact e1
      · exact e2) with h | h
    · exact h
    · omega
  · intro h
    exact heads_iff.2 ⟨mat_same b p x most 0 0 (Nat.le_refl _) (by omega), mat_same b p x most 0 1 (by omega) (by omega), mat_same b p x most 0 2 (by omega) (by omega)⟩
theorem all_ref (b : Nat → Nat) (p most : Nat) (W cut : Int) (hm : 3 ≤ most) (hcut : (p : Int) < cut) :
    ∀ (x best best' seen : Nat), seen + x ≤ p → (best' = best ∧ 3 ≤ best ∨ best ≤ 2 ∧ best' = 0) → far3 (allL b p most W x best) = refL b p most true W cut x best' seen
  | 0, _, _, _, _, _ => rfl
  | x + 1, best, best', seen, hs, hb => by
    rw [allL, refL]
    by_cases hw : ((p - x : Nat) : Int) ≤ W
    · have hc2 : ((p - x : Nat) : Int) ≤ W ∧ (seen : Int) < cut := ⟨hw, by omega⟩
      rw [if_pos hw, if_pos hc2]
      by_cases hh : heads b p x = true
      · have h3 := (heads_mat hm).1 hh
        have hc3 : true = true ∧ heads b p x = true := ⟨rfl, hh⟩
        rw [if_pos hc3]
        by_cases hn : best < mat b p x 0 most
        · rw [if_pos hn, if_pos (by omega), ← all_ref b p most W cut hm hcut x _ _ (seen + 1) (by omega) (.inl ⟨rfl, h3⟩)]
          unfold far3
          rw [List.filter_cons_of_pos (by simpa using h3)]
        · rw [if_neg hn, if_neg (by omega)]
          exact all_ref b p most W cut hm hcut x _ _ (seen + 1) (by omega) hb
      · have h3 : ¬ 3 ≤ mat b p x 0 most := fun h => hh ((heads_mat hm).2 h)
        have hc3 : ¬ (true = true ∧ heads b p x = true) := fun h => hh h.2
        rw [if_neg hc3]
        by_cases hn : best < mat b p x 0 most
        · rw [if_pos hn, ← all_ref b p most W cut hm hcut x (mat b p x 0 most) best' seen (by omega) (.inr ⟨by omega, by omega⟩)]
          unfold far3
          rw [List.filter_cons_of_neg (by simpa using h3)]
        · rw [if_neg hn]
          exact all_ref b p most W cut hm hcut x _ _ seen (by omega) hb
    · have hc2 : ¬ (((p - x : Nat) : Int) ≤ W ∧ (seen : Int) < cut) := fun h => hw h.1
      rw [if_neg hw, if_neg hc2]
      rfl
theorem all_few (b : Nat → Nat) (p most : Nat) (W : Int) (hm : most ≤ 2) : ∀ (x best : Nat), far3 (allL b p most W x best) = []
  | 0, _ => rfl
  | x + 1, best => by
    have hle := mat_le b p x most 0
    rw [allL]
    split
    · split
      · unfold far3
        rw [List.filter_cons_of_neg (by simp; omega)]
        exact all_few b p most W hm x _
      · exact all_few b p most W hm x _
    · rfl
theorem bst_chain (s : ByteArray) (window cut : Int) (p : Nat) (hcut : (p : Int) < cut) : far3 (bstL s window p) = foundL s window cut p := by
  by_cases h : p + 3 ≤ s.size
  · unfold bstL foundL
    rw [decide_eq_true h]
    exact all_ref (bt s) p (lim s p) window cut (by unfold lim; omega) hcut p 1 0 0 (by omega) (.inr ⟨by omega, rfl⟩)
  · rw [foundL_none h]
    exact all_few _ _ _ _ (by unfold lim; omega) _ _
theorem allL_length (b : Nat → Nat) (p most : Nat) (W : Int) : ∀ (x best : Nat), (allL b p most W x best).length ≤ x
  | 0, _ => Nat.le_refl _
  | x + 1, best => by
    rw [allL]
    split
    · split
      · have := allL_length b p most W x (mat b p x 0 most)
        simp; omega
      · have := allL_length b p most W x best
        omega
    · simp
theorem bstL_length (s : ByteArray) (window : Int) (p : Nat) : (bstL s window p).length ≤ p := allL_length _ _ _ _ _ _
theorem far3_take {l : List (Nat × Nat)} {j : Nat} (h : j < l.length) : far3 (l.take (j + 1)) = if 3 ≤ (l[j]).1 then far3 (l.take j) ++ [((l[j]).1, (l[j]).2)] else far3 (l.take j) := by
  have e : l.take (j + 1) = l.take j ++ [l[j]] := by rw [List.take_append_getElem]
  rw [e]
  unfold far3
  rw [List.filter_append]
  by_cases h3 : 3 ≤ (l[j]).1
  · rw [if_pos h3, List.filter_cons_of_pos (by simpa using h3)]
    rfl
  · rw [if_neg h3, List.filter_cons_of_neg (by simpa using h3)]
    simp
theorem far3_length (l : List (Nat × Nat)) (j : Nat) : (far3 (l.take j)).length ≤ l.length := by
  unfold far3
  have h1 := List.length_filter_le (fun x : Nat × Nat => decide (3 ≤ x.1)) (l.take j)
  have h2 := List.length_take_le j l
  have h3 : (l.take j).length ≤ l.length := by rw [List.length_take]; omega
  omega
end Go.Proofs.Ytakbocaemlgbaaa.Bs
