/-
  Package context, mathematics: what is learnt keeps what always holds.
-/
import Derived.Test.YteacmcckhjabmaaCtxHas
set_option linter.unusedVariables false
namespace Go.Proofs.Yteacmcckhjabmaa.Cx
open Fq
namespace Rw
variable {r : Rw}
theorem findL_ok {f : Nat → Nat → Option Nat} {K : Nat → Option Tl} (hf : ∀ x y i, f x y = some i → (K i).isSome = true) (h : List Nat) : ∀ (n : Nat) (p : List Nat), (∀ i ∈ p, (K i).isSome = true) → (∀ i ∈ findL f h n p, (K i).isSome = true) ∧ (findL f h n p).length ≤ p.length + n
  | 0, p, hp => ⟨hp, Nat.le_refl _⟩
  | n + 1, p, hp => by
    unfold findL
    split
    · exact ⟨hp, by omega⟩
    · rename_i i hi
      obtain ⟨h1, h2⟩ := findL_ok hf h n (p ++ [i]) (fun j hj => by
        rcases List.mem_append.1 hj with e | e
        · exact hp j e
        · simp at e; subst e; exact hf _ _ _ hi)
      refine ⟨h1, ?_⟩
      rw [List.length_append] at h2
      simp at h2
      omega
theorem Ok.refind (h : r.Ok) : r.refind.Ok := by
  obtain ⟨h1, h2⟩ := findL_ok h.f r.hist r.hist.length (r.pth.take 1) (fun i hi => h.pth i (List.mem_of_mem_take hi))
  exact ⟨h.order, h.cells, h.used, h.hist, by
    show (findL r.f r.hist r.hist.length (r.pth.take 1)).length ≤ r.hist.length + 1
    have : (r.pth.take 1).length ≤ 1 := List.length_take_le _ _
    omega, h1, h.tab, h.f⟩
theorem Ok.writes (h : r.Ok) {s : Nat} (hs : s < 256) : (r.write s).Ok := by
  have h1 := h.hist.1
  have h2 := h.len
  refine ⟨h.order, h.cells, h.used, ⟨?_, ?_⟩, ?_, h.pth, h.tab, h.f⟩
  · show (if r.order < r.hist.length + 1 then (r.hist ++ [s]).drop 1 else r.hist ++ [s]).length ≤ r.order
    split <;> simp <;> omega
  · intro x hx
    have hx2 : x ∈ (if r.order < r.hist.length + 1 then (r.hist ++ [s]).drop 1 else r.hist ++ [s]) := hx
    have : x ∈ r.hist ++ [s] := by
      split at hx2
      · exact List.mem_of_mem_drop hx2
      · exact hx2
    rcases List.mem_append.1 this with e | e
    · exact h.hist.2 x e
    · simp at e; omega
  · show r.pth.length ≤ (if r.order < r.hist.length + 1 then (r.hist ++ [s]).drop 1 else r.hist ++ [s]).length + 1
    split <;> simp <;> omega
theorem learn1_ok (h : r.Ok) {s a : Nat} (hs : s < 256) (ha : a ≤ r.pth.length) (hr : r.used + r.needs s a ≤ r.cells) : (r.learn1 s a).Ok := by
  obtain ⟨r1, r2⟩ := learn_room h ha hr
  have hlen := h.len
  have hg := h.growN (r.hist.length + 1 - r.pth.length) (by omega) r1
  obtain ⟨p1, p2, p3, p4, _⟩ := growN_parts r (r.hist.length + 1 - r.pth.length)
  unfold learn1
  generalize r.growN (r.hist.length + 1 - r.pth.length) = g at *
  exact (((hg.addN (a := a) hs _ (by omega) r2).1).writes hs).refind
theorem learn_ok (h : r.Ok) {s : Nat} (hs : s < 256) (k : Int) : (r.learn s k).Ok := by
  unfold learn
  by_cases hf : r.full s (r.start k) = true
  · rw [if_pos hf]
    exact learn1_ok (forget_ok h) hs (Nat.zero_le _) (by have := h.cells.1; show 0 + (2 * (0 + 1 - 0) + 0) ≤ r.cells; omega)
  · rw [if_neg hf]
    unfold full at hf
    rw [decide_eq_true_iff] at hf
    exact learn1_ok h hs (start_le r k) (by omega)
end Rw
end Go.Proofs.Yteacmcckhjabmaa.Cx
