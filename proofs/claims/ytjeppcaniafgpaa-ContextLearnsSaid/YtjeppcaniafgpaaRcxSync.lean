/-
  Contexts, mathematics: a sign is added, table by table, in the program's contexts and in the document's.
-/
import Derived.Test.YtjeppcaniafgpaaRcxNode
set_option linter.unusedVariables false
set_option linter.unusedSimpArgs false
namespace Go.Proofs.Ytjeppcaniafgpaa.Rx
open Fq
open Cx (Tl TOk Rw)
/-- Under way: g: what there was when all new tables were made, p: how many there had been. -/
structure Syn (r : Rw) (q : Rd) (nd : List UInt8 → Option Nat) (p m : Nat) : Prop where
  nod : Nd r q.hist nd
  T : ∀ t, q.T t = ne ((nd t).bind r.K)
  e1 : ∀ i, r.K i = some [] → ∃ k : Nat, r.pth[k]? = some i
  e2 : ∀ (k i : Nat), r.pth[k]? = some i → (r.K i = some [] ↔ (p ≤ k ∧ m ≤ k))
  u : r.used = q.sum + (r.pth.length - max p m)
  order : r.order = q.order
  len : r.pth.length = r.hist.length + 1
section
variable {r : Rw} {q : Rd} {nd : List UInt8 → Option Nat} {p m : Nat}
theorem addT_ne (l : Tl) (s : Nat) : addT l s ≠ [] := add_ne l s
theorem addT_len (l : Tl) (s : Nat) : (addT l s).length = l.length + if hasB l s then 0 else 1 := by
  unfold addT hasB
  by_cases h : find l s < l.length
  · rw [if_pos h, decide_eq_true h]
    split
    · simp [halve, more]
    · simp [more]
  · rw [if_neg h, decide_eq_false h]
    simp
theorem Syn.step (S : Syn r q nd p m) (hm : m < r.pth.length) (s : Nat) : Syn (r.addAt s m) (q.addAt s m) nd p (m + 1) := by
  have hle := S.nod.hle
  have hlen := S.len
  have hpm := S.nod.pth m hm
  obtain ⟨i, hi⟩ : ∃ i, r.pth[m]? = some i := ⟨_, List.getElem?_eq_getElem hm⟩
  rw [hi] at hpm
  obtain ⟨l, hl⟩ := S.nod.K _ _ hpm
  have hadd := Rw.addAt_at (s := s) hi hl
  have hK : ∀ j, (r.addAt s m).K j = if j = i then some (addT l s) else r.K j := fun j => by rw [hadd]
  have hP : (r.addAt s m).pth = r.pth := by rw [hadd]
  have hH : (r.addAt s m).hist = r.hist := by rw [hadd]
  have hF : (r.addAt s m).f = r.f := by rw [hadd]
  have hO : (r.addAt s m).order = r.order := by rw [hadd]
  have hU : (r.addAt s m).used = r.used + (if hasB l s then 0 else 1) := by rw [hadd]
  have hTm : q.T (lastK q.hist m) = ne (some l) := by rw [S.T, hpm]; show ne (r.K i) = _; rw [hl]
  have hhl : r.hist.length ≤ r.order := by rw [S.nod.hlen]; exact Nat.min_le_left _ _
  have hat : q.at' m = ne (some l) := by
    unfold Rd.at'
    rw [if_pos ⟨by rw [← S.order]; omega, by omega⟩, hTm]
  have hgd : (q.at' m).getD [] = l := by rw [hat, ne_getD]; rfl
  have hT' : ∀ t, (q.addAt s m).T t = if t = lastK q.hist m then some (addT l s) else q.T t := fun t => by
    show setT q.T (lastK q.hist m) (addT ((q.at' m).getD []) s) t = _
    rw [hgd]
    rfl
  have hsum : (q.addAt s m).sum = q.sum + (1 + (addT l s).length) - wtT (ne (some l)) := by
    show q.sum + (1 + (addT ((q.at' m).getD []) s).length) - wtT (q.T (lastK q.hist m)) = _
    rw [hgd, hTm]
  refine ⟨⟨S.nod.inj, S.nod.suf, by rw [hF]; exact S.nod.f, by rw [hF]; exact S.nod.dom, fun t j ht => ?_, fun j k hj => ?_, by rw [hH]; exact S.nod.hist, by rw [hH, hO]; exact S.nod.hlen, by rw [hP]; exact S.nod.pth⟩, fun t => ?_, fun j hj => ?_, fun k j hk => ?_, ?_, hO.trans S.order, by rw [hP, hH]; exact S.len⟩
  · rw [hK]
    split
    · exact ⟨_, rfl⟩
    · exact S.nod.K t j ht
  · rw [hK] at hj
    by_cases e : j = i
    · exact ⟨_, by rw [e]; exact hpm⟩
    · rw [if_neg e] at hj
      exact S.nod.all j k hj
  · rw [hT']
    by_cases e : t = lastK q.hist m
    · rw [if_pos e, e, hpm]
      show _ = ne ((r.addAt s m).K i)
      rw [hK, if_pos rfl, ne_cons (addT_ne l s)]
    · rw [if_neg e, S.T]
      cases ht : nd t with
      | none => rfl
      | some j =>
        show ne (r.K j) = ne ((r.addAt s m).K j)
        rw [hK, if_neg (fun e2 => e (S.nod.inj _ _ _ (by rw [ht, e2]) hpm))]
  · rw [hK] at hj
    by_cases e : j = i
    · rw [if_pos e] at hj
      exact absurd (Option.some.inj hj) (addT_ne l s)
    · rw [if_neg e] at hj
      rw [hP]
      exact S.e1 j hj
  · rw [hP] at hk
    rw [hK]
    have hkl := (List.getElem?_eq_some_iff.1 hk).1
    by_cases e : j = i
    · rw [if_pos e]
      subst e
      have h1 := S.nod.pth k hkl
      rw [hk] at h1
      have h2 := lastK_inj q.hist (by omega) (by omega) (S.nod.inj _ _ _ h1 hpm)
      exact ⟨fun e3 => absurd (Option.some.inj e3) (addT_ne l s), fun e3 => by omega⟩
    · rw [if_neg e, S.e2 k j hk]
      have hkm : k ≠ m := fun e3 => by
        subst e3
        rw [hi] at hk
        exact e (Option.some.inj hk).symm
      omega
  · rw [hU, hsum, hP]
    have hu := S.u
    have h2 := S.e2 m i hi
    rw [hl] at h2
    by_cases e : l = []
    · subst e
      have h3 := h2.1 rfl
      have hal := addT_len [] s
      have hb : hasB [] s = false := by simp [hasB, find]
      rw [hb] at hal ⊢
      simp at hal
      rw [show wtT (ne (some [])) = 0 from rfl, hal]
      simp
      omega
    · have h3 : ¬ (p ≤ m ∧ m ≤ m) := fun e3 => e (Option.some.inj (h2.2 e3))
      rw [ne_cons e, addT_len]
      show _ = q.sum + (1 + (l.length + _)) - (1 + l.length) + _
      omega
theorem Syn.steps (S : Syn r q nd p m) (s : Nat) : ∀ n, m + n ≤ r.pth.length → Syn (r.addN s m n) (q.addN s m n) nd p (m + n)
  | 0, _ => S
  | n + 1, h => by
    have h1 := Syn.steps S s n (by omega)
    have hp := (Rw.addN_parts r s m n).1
    exact h1.step (by rw [hp]; omega) s
theorem Syn.no (S : Syn r q nd p m) (hm : r.pth.length ≤ m) : ∀ i, r.K i ≠ some [] := by
  intro i hi
  obtain ⟨k, hk⟩ := S.e1 i hi
  have := (List.getElem?_eq_some_iff.1 hk).1
  have := (S.e2 k i hk).1 hi
  omega
end
end Go.Proofs.Ytjeppcaniafgpaa.Rx
