/-
  Package context, mathematics: what is learnt has room.
-/
import Derived.Test.YteacmcckhjabmaaCtxMath
set_option linter.unusedVariables false
namespace Go.Proofs.Yteacmcckhjabmaa.Cx
open Fq
theorem hasB_mem (l : Tl) (s : Nat) : hasB l s = true ↔ s ∈ l.map (·.1) := by
  unfold hasB
  rw [decide_eq_true_iff]
  constructor
  · intro h
    have h1 := find_at l s h
    rw [← h1]
    unfold at'
    rw [List.getD_eq_getElem?_getD, List.getElem?_eq_getElem h]
    exact List.mem_map.2 ⟨_, List.getElem_mem h, rfl⟩
  · intro h
    by_cases hf : find l s < l.length
    · exact hf
    · exact absurd h (find_mem l s hf)
theorem addT_mem (l : Tl) (s t : Nat) : t ∈ (addT l s).map (·.1) ↔ t ∈ l.map (·.1) ∨ t = s := by
  unfold addT
  split
  · rename_i hf
    have hs : s ∈ l.map (·.1) := (hasB_mem l s).1 (decide_eq_true hf)
    have e : t ∈ l.map (·.1) ↔ t ∈ l.map (·.1) ∨ t = s := ⟨.inl, fun h => by
      rcases h with h | h
      · exact h
      · rw [h]; exact hs⟩
    split
    · rw [map_halve, map_more l _ hf]; exact e
    · rw [map_more l _ hf]; exact e
  · rw [List.map_append]
    simp
theorem hasB_add (l : Tl) (s t : Nat) : hasB (addT l s) t = (hasB l t || decide (t = s)) := by
  rw [Bool.eq_iff_iff, hasB_mem, addT_mem, Bool.or_eq_true, hasB_mem, decide_eq_true_iff]
namespace Rw
variable {r : Rw}
theorem addAt_K {s j i : Nat} {l : Tl} (hl : r.K i = some l) : (r.addAt s j).K i = some l ∨ (r.addAt s j).K i = some (addT l s) := by
  unfold addAt
  cases hj : r.pth[j]? with
  | none => exact .inl hl
  | some i' =>
    dsimp only
    cases hl' : r.K i' with
    | none => exact .inl hl
    | some l' =>
      dsimp only
      by_cases e : i = i'
      · subst e
        rw [hl] at hl'
        cases hl'
        rw [if_pos rfl]
        exact .inr rfl
      · rw [if_neg e]
        exact .inl hl
theorem hasK_add {s k j : Nat} (h : r.hasK s k = true) : (r.addAt s j).hasK s k = true := by
  unfold hasK at h ⊢
  rw [(addAt_parts r s j).1]
  cases hk : r.pth[k]? with
  | none => rw [hk] at h; cases h
  | some i =>
    rw [hk] at h
    dsimp only at h ⊢
    cases hl : r.K i with
    | none => rw [hl] at h; cases h
    | some l =>
      rw [hl] at h
      dsimp only at h
      rcases addAt_K (s := s) (j := j) hl with e | e
      · rw [e]; exact h
      · rw [e]
        dsimp only
        rw [hasB_add, h]
        rfl
theorem hasK_addN {s k a : Nat} (h : r.hasK s k = true) : ∀ n, (r.addN s a n).hasK s k = true
  | 0 => h
  | n + 1 => hasK_add (hasK_addN h n)
/-- One sign more is there at most where it wasn't. -/
theorem addAt_used (h : r.Ok) (s : Nat) {k : Nat} (hk : k < r.pth.length) : (r.addAt s k).used = r.used + if r.hasK s k then 0 else 1 := by
  obtain ⟨i, l, h1, h2⟩ := h.at hk
  rw [addAt_at h1 h2, hasK_at h1 h2]
theorem Ok.addN (h : r.Ok) {s a : Nat} (hs : s < 256) : ∀ n, a + n ≤ r.pth.length → r.used + r.lacks s a n ≤ r.cells → (r.addN s a n).Ok ∧ (r.addN s a n).used ≤ r.used + r.lacks s a n
  | 0, _, _ => ⟨h, by show r.used ≤ r.used + 0; omega⟩
  | n + 1, h1, h2 => by
    have hl : r.lacks s a (n + 1) = r.lacks s a n + if r.hasK s (a + n) then 0 else 1 := rfl
    obtain ⟨k1, k2⟩ := Ok.addN h (a := a) hs n (by omega) (by rw [hl] at h2; omega)
    obtain ⟨p1, _, _, p4, _, _⟩ := addN_parts r s a n
    have hk : a + n < (r.addN s a n).pth.length := by rw [p1]; omega
    have hle : (if (r.addN s a n).hasK s (a + n) then 0 else 1) ≤ if r.hasK s (a + n) then 0 else 1 := by
      by_cases e : r.hasK s (a + n) = true
      · rw [hasK_addN e n, e]; exact Nat.le_refl _
      · rw [if_neg e]
        split <;> omega
    have hu : (r.addN s a n).used + (if (r.addN s a n).hasK s (a + n) then 0 else 1) ≤ (r.addN s a n).cells := by rw [p4]; omega
    exact ⟨k1.addAt hs (a + n) hu, by
      show ((r.addN s a n).addAt s (a + n)).used ≤ _
      rw [addAt_used k1 s hk]
      omega⟩
theorem lacks_mono (r : Rw) (s a : Nat) {n k : Nat} (h : n ≤ k) : r.lacks s a n ≤ r.lacks s a k := by
  induction k with
  | zero => have : n = 0 := by omega
            subst this; exact Nat.le_refl _
  | succ k ih =>
    by_cases e : n = k + 1
    · subst e; exact Nat.le_refl _
    · have := ih (by omega)
      show _ ≤ r.lacks s a k + _
      omega
theorem addN_room (h : r.Ok) {s a n N : Nat} (hs : s < 256) (hn : n < N) (hN : a + N ≤ r.pth.length) (hu : r.used + r.lacks s a N ≤ r.cells) : (r.addN s a n).Ok ∧ (r.addN s a n).used + (if (r.addN s a n).hasK s (a + n) then 0 else 1) ≤ (r.addN s a n).cells := by
  have h1 := lacks_mono r s a (n := n + 1) (k := N) hn
  have hl : r.lacks s a (n + 1) = r.lacks s a n + if r.hasK s (a + n) then 0 else 1 := rfl
  obtain ⟨k1, k2⟩ := Ok.addN h (a := a) hs n (by omega) (by omega)
  obtain ⟨p1, _, _, p4, _, _⟩ := addN_parts r s a n
  have hle : (if (r.addN s a n).hasK s (a + n) then 0 else 1) ≤ if r.hasK s (a + n) then 0 else 1 := by
    by_cases e : r.hasK s (a + n) = true
    · rw [hasK_addN e n, e]; exact Nat.le_refl _
    · rw [if_neg e]
      split <;> omega
  exact ⟨k1, by rw [p4]; omega⟩
theorem grow_hasK (h : r.Ok) {s k : Nat} (hk : k < r.pth.length) : r.grow.hasK s k = r.hasK s k := by
  obtain ⟨i, l, h1, h2⟩ := h.at hk
  have hi := (h.tab i l h2).2.1
  rw [hasK_at h1 h2]
  refine hasK_at (i := i) ?_ ?_
  · show (r.pth ++ [r.used + 1])[k]? = some i
    rw [List.getElem?_append_left hk]
    exact h1
  · show (if i = r.used + 1 then some [] else r.K i) = some l
    rw [if_neg (by omega)]
    exact h2
theorem growN_hasK (h : r.Ok) {s k : Nat} (hk : k < r.pth.length) : ∀ n, r.pth.length + n ≤ r.hist.length + 1 → r.used + n ≤ r.cells → (r.growN n).hasK s k = r.hasK s k
  | 0, _, _ => rfl
  | n + 1, h1, h2 => by
    obtain ⟨p1, p2, p3, p4, _⟩ := growN_parts r n
    show (r.growN n).grow.hasK s k = _
    rw [grow_hasK (h.growN n (by omega) (by omega)) (by omega), growN_hasK h hk n (by omega) (by omega)]
theorem lacks_more (q r : Rw) (s a n1 : Nat) (h : ∀ k, k < a + n1 → q.hasK s k = r.hasK s k) : ∀ n2, q.lacks s a (n1 + n2) ≤ r.lacks s a n1 + n2
  | 0 => by
    have : ∀ n, n ≤ n1 → q.lacks s a n = r.lacks s a n := by
      intro n
      induction n with
      | zero => intro _; rfl
      | succ n ih =>
        intro hn
        show q.lacks s a n + (if q.hasK s (a + n) then 0 else 1) = r.lacks s a n + (if r.hasK s (a + n) then 0 else 1)
        rw [ih (by omega), h (a + n) (by omega)]
    rw [Nat.add_zero, this n1 (Nat.le_refl _)]
    omega
  | n2 + 1 => by
    have := lacks_more q r s a n1 h n2
    show q.lacks s a (n1 + n2) + (if q.hasK s (a + (n1 + n2)) then 0 else 1) ≤ _
    split <;> omega
/-- There is room for all that is learnt. -/
theorem learn_room (h : r.Ok) {s a : Nat} (ha : a ≤ r.pth.length) (hr : r.used + r.needs s a ≤ r.cells) :
    r.used + (r.hist.length + 1 - r.pth.length) ≤ r.cells ∧ (r.growN (r.hist.length + 1 - r.pth.length)).used + (r.growN (r.hist.length + 1 - r.pth.length)).lacks s a ((r.growN (r.hist.length + 1 - r.pth.length)).pth.length - a) ≤ (r.growN (r.hist.length + 1 - r.pth.length)).cells := by
  have hlen := h.len
  unfold needs at hr
  have h1 : r.used + (r.hist.length + 1 - r.pth.length) ≤ r.cells := by omega
  refine ⟨h1, ?_⟩
  obtain ⟨n, hn⟩ : ∃ n, n = r.hist.length + 1 - r.pth.length := ⟨_, rfl⟩
  rw [← hn] at hr h1 ⊢
  obtain ⟨p1, p2, p3, p4, _⟩ := growN_parts r n
  have := lacks_more (r.growN n) r s a (r.pth.length - a) (fun k hk => growN_hasK h (by omega) n (by omega) h1) n
  rw [p1, p3, p4, show r.pth.length + n - a = r.pth.length - a + n by omega]
  omega
theorem start_le (r : Rw) (k : Int) : r.start k ≤ r.pth.length := by
  unfold start
  omega
end Rw
end Go.Proofs.Yteacmcckhjabmaa.Cx
