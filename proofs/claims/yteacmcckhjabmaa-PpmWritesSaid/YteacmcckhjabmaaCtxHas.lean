/-
  Package context, mathematics: what was learnt last, from none on, stands in the table of no bytes.
-/
import Derived.Test.YteacmcckhjabmaaCtxSums
set_option linter.unusedVariables false
namespace Go.Proofs.Yteacmcckhjabmaa.Cx
open Fq
namespace Rw
variable {r : Rw}
theorem findL_keep (f : Nat → Nat → Option Nat) (h : List Nat) : ∀ (n : Nat) (p : List Nat) (k : Nat), k < p.length → (findL f h n p)[k]? = p[k]?
  | 0, _, _, _ => rfl
  | n + 1, p, k, hk => by
    unfold findL
    split
    · rfl
    · rw [findL_keep f h n _ k (by simp; omega), List.getElem?_append_left hk]
theorem findL_len (f : Nat → Nat → Option Nat) (h : List Nat) : ∀ (n : Nat) (p : List Nat), p.length ≤ (findL f h n p).length
  | 0, _ => Nat.le_refl _
  | n + 1, p => by
    unfold findL
    split
    · exact Nat.le_refl _
    · rename_i i _
      have := findL_len f h n (p ++ [i])
      rw [List.length_append] at this
      simp at this
      omega
theorem refind_at (h : 0 < r.pth.length) : r.refind.pth[0]? = r.pth[0]? ∧ 0 < r.refind.pth.length := by
  have hl : (r.pth.take 1).length = 1 := by rw [List.length_take]; omega
  refine ⟨?_, ?_⟩
  · show (findL r.f r.hist r.hist.length (r.pth.take 1))[0]? = _
    rw [findL_keep _ _ _ _ _ (by omega), List.getElem?_take]
    simp
  · show 0 < (findL r.f r.hist r.hist.length (r.pth.take 1)).length
    have := findL_len r.f r.hist r.hist.length (r.pth.take 1)
    omega
theorem refind_has (h : 0 < r.pth.length) (s : Nat) : r.refind.hasK s 0 = r.hasK s 0 := by
  unfold hasK
  rw [(refind_at h).1]
  rfl
theorem addAt_has0 (h : r.Ok) (s : Nat) {k : Nat} (hk : k < r.pth.length) : (r.addAt s k).hasK s k = true := by
  obtain ⟨i, l, h1, h2⟩ := h.at hk
  rw [addAt_at h1 h2]
  have e : hasK { r with used := r.used + (if hasB l s then 0 else 1), K := fun j => if j = i then some (addT l s) else r.K j } s k = hasB (addT l s) s := hasK_at (i := i) (l := addT l s) h1 (by dsimp only; rw [if_pos rfl])
  rw [e, hasB_add]
  simp
theorem addN_has (h : r.Ok) (s : Nat) (hl : 0 < r.pth.length) : ∀ n, (r.addN s 0 (n + 1)).hasK s 0 = true
  | 0 => addAt_has0 h s hl
  | n + 1 => hasK_add (addN_has h s hl n)
theorem learn1_has (h : r.Ok) {s : Nat} (hr : r.used + r.needs s 0 ≤ r.cells) : (r.learn1 s 0).hasK s 0 = true ∧ 0 < (r.learn1 s 0).pth.length := by
  obtain ⟨r1, _⟩ := learn_room h (Nat.zero_le _) hr
  have hlen := h.len
  have hg := h.growN (r.hist.length + 1 - r.pth.length) (by omega) r1
  obtain ⟨p1, p2, p3, p4, _⟩ := growN_parts r (r.hist.length + 1 - r.pth.length)
  unfold learn1
  generalize r.growN (r.hist.length + 1 - r.pth.length) = g at *
  have hgl : 0 < g.pth.length := by omega
  have hp : ((g.addN s 0 (g.pth.length - 0)).write s).pth = g.pth := (addN_parts g s 0 (g.pth.length - 0)).1
  have h0 : 0 < ((g.addN s 0 (g.pth.length - 0)).write s).pth.length := by rw [hp]; exact hgl
  refine ⟨?_, (refind_at h0).2⟩
  rw [refind_has h0]
  show (g.addN s 0 (g.pth.length - 0)).hasK s 0 = true
  obtain ⟨q, hq⟩ : ∃ q, g.pth.length - 0 = q + 1 := ⟨g.pth.length - 1, by omega⟩
  rw [hq]
  exact addN_has hg s hgl q
theorem forget_ok (h : r.Ok) : r.forget.Ok :=
  ⟨h.order, h.cells, Nat.zero_le _, ⟨Nat.zero_le _, fun x hx => by cases hx⟩, Nat.zero_le _, (fun i hi => by cases hi), (fun i l hi => by cases hi), (fun x y i hi => by cases hi)⟩
theorem learn_has (h : r.Ok) (s : Nat) : (r.learn s (-1)).hasK s 0 = true ∧ 0 < (r.learn s (-1)).pth.length := by
  have ha : r.start (-1) = 0 := by unfold start; omega
  unfold learn
  rw [ha]
  by_cases hf : r.full s 0 = true
  · rw [if_pos hf]
    exact learn1_has (forget_ok h) (by have := h.cells.1; show 0 + (2 * (0 + 1 - 0) + 0) ≤ r.cells; omega)
  · rw [if_neg hf]
    unfold full at hf
    rw [decide_eq_true_iff] at hf
    exact learn1_has h (by omega)
end Rw
end Go.Proofs.Yteacmcckhjabmaa.Cx
