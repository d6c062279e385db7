/-
  Plain mathematics of layer 5: what was put in a table is got of it.
-/
import Derived.Test.YteacmcckhjabmaaFreqParts
import Derived.Test.YteacmcckhjabmaaBase
namespace Go.Proofs.Yteacmcckhjabmaa.Fq
open Rc (Enc Dec Ahead Follows Fine ahead_part follows_part ahead_self)
theorem sign_of_part {N : Nat → Bool} {s wh b : Nat} : ∀ (l : List (Nat × Nat)) (st a n : Nat), Tab b l → partOf N s l st = some (a, n) → a ≤ wh → wh < a + n → signOf N wh l st = some (s, a, n)
  | [], st, a, n, _, h, _, _ => by simp [partOf] at h
  | x :: l, st, a, n, ht, h, h1, h2 => by
    have htl : Tab b l := fun y hy => ht y (List.mem_cons_of_mem _ hy)
    unfold partOf at h
    unfold signOf
    by_cases hx : N x.1
    · rw [if_pos hx] at h ⊢
      exact sign_of_part l st a n htl h h1 h2
    · rw [if_neg hx] at h ⊢
      by_cases hs : x.1 = s
      · rw [if_pos hs] at h
        simp only [Option.some.injEq, Prod.mk.injEq] at h
        obtain ⟨rfl, rfl⟩ := h
        rw [if_pos h2, hs]
      · rw [if_neg hs] at h
        have := (part_bound N s l (st + x.2) a n htl h).1
        rw [if_neg (by omega)]
        exact sign_of_part l (st + x.2) a n htl h h1 h2
theorem sign_none {N : Nat → Bool} {wh : Nat} : ∀ (l : List (Nat × Nat)) (st : Nat), st + total (allow N l) ≤ wh → signOf N wh l st = none
  | [], st, _ => rfl
  | x :: l, st, h => by
    unfold signOf
    rw [allow_cons] at h
    by_cases hx : N x.1
    · rw [if_pos hx] at h ⊢
      exact sign_none l st h
    · rw [if_neg hx] at h ⊢
      simp only [total] at h
      rw [if_neg (by omega)]
      exact sign_none l (st + x.2) (by omega)
/-- What was put in a table is got of it. -/
theorem getD_back {N : Nat → Bool} {s b F T : Nat} {l : List (Nat × Nat)} {e : Enc} {d : Dec} {more : List UInt8} (hfi : Fine e) (ht : Tab b l) (hal : allOf N l ≤ 65536) (hf : Follows d e F T more) (h : Ahead (putE e l N s).1 F T) :
    (getD d l N).2 = ((if (putE e l N s).2 then s else 0), (putE e l N s).2) ∧ Follows (getD d l N).1 (putE e l N s).1 F T more := by
  have hno : 1 ≤ noneOf N l := by unfold noneOf; omega
  have hae : allOf N l = total (allow N l) + noneOf N l := rfl
  unfold putE at h ⊢
  cases hp : partOf N s l 0 with
  | none =>
    rw [hp] at h
    simp only at h
    obtain ⟨h1, h2, h3⟩ := follows_part hfi hno (by omega) hal hf h
    have hs := sign_none (N := N) (wh := d.whereIn (allOf N l)) l 0 (by omega)
    unfold getD
    rw [hs]
    exact ⟨rfl, h3⟩
  | some r =>
    obtain ⟨a, n⟩ := r
    rw [hp] at h
    simp only at h
    have hb := part_bound N s l 0 a n ht hp
    obtain ⟨h1, h2, h3⟩ := follows_part hfi hb.2.1 (by omega) hal hf h
    have hs := sign_of_part l 0 a n ht hp h1 h2
    unfold getD
    rw [hs]
    exact ⟨rfl, h3⟩
end Go.Proofs.Yteacmcckhjabmaa.Fq
