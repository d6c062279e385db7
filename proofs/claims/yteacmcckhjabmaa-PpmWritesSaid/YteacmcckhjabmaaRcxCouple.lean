/-
  Contexts, mathematics: the program's steps from cell to cell are the document's texts: each table's text, and what making new tables leaves of that.
  Contexts, mathematics: a sign is added, table by table, in the program's contexts and in the document's.
  Contexts, mathematics: the program's contexts and the document's are the same: what is told of them, and what is learnt.
-/
import Derived.Test.YteacmcckhjabmaaRcxLearns
import Derived.Test.YteacmcckhjabmaaCtxOk
import Derived.Test.YteacmcckhjabmaaCtxSpeaks
section
set_option linter.unusedVariables false
set_option linter.unusedSimpArgs false
namespace Go.Proofs.Yteacmcckhjabmaa.Rx
open Fq
open Cx (Tl TOk Rw)
theorem lastK_len (h : List UInt8) {k : Nat} (hk : k ≤ h.length) : (lastK h k).length = k := by unfold lastK; rw [List.length_drop]; omega
theorem lastK_inj (h : List UInt8) {k j : Nat} (hk : k ≤ h.length) (hj : j ≤ h.length) (e : lastK h k = lastK h j) : k = j := by
  have := congrArg List.length e
  rwa [lastK_len h hk, lastK_len h hj] at this
theorem lastK_cons (h : List UInt8) {k : Nat} (h1 : 1 ≤ k) (hk : k ≤ h.length) : lastK h k = h[h.length - k]'(by omega) :: lastK h (k - 1) := by
  unfold lastK
  rw [List.drop_eq_getElem_cons (by omega)]
  congr 2
  omega
theorem lastK_zero (h : List UInt8) : lastK h 0 = [] := by unfold lastK; simp
/-- The program's cells by the texts of their tables. -/
structure Nd (r : Rw) (h : List UInt8) (nd : List UInt8 → Option Nat) : Prop where
  inj : ∀ t t' i, nd t = some i → nd t' = some i → t = t'
  suf : ∀ y t, nd t = none → nd (y :: t) = none
  f : ∀ t i (y : UInt8), nd t = some i → r.f i y.toNat = nd (y :: t)
  dom : ∀ x y i, r.f x y = some i → ∃ t, nd t = some x
  K : ∀ t i, nd t = some i → ∃ l, r.K i = some l
  all : ∀ i l, r.K i = some l → ∃ t, nd t = some i
  hist : r.hist = (lastK h r.hist.length).map (·.toNat)
  hlen : r.hist.length = min r.order h.length
  pth : ∀ k, k < r.pth.length → nd (lastK h k) = r.pth[k]?
section
variable {r : Rw} {h : List UInt8} {nd : List UInt8 → Option Nat}
theorem Nd.hle (H : Nd r h nd) : r.hist.length ≤ h.length := by rw [H.hlen]; exact Nat.min_le_right _ _
theorem Nd.histAt (H : Nd r h nd) {k : Nat} (h1 : 1 ≤ k) (hk : k ≤ r.hist.length) : r.hist.getD (r.hist.length - k) 0 = (h[h.length - k]'(by have := H.hle; omega)).toNat := by
  have hle := H.hle
  have e : r.hist[r.hist.length - k]? = ((lastK h r.hist.length).map (·.toNat))[r.hist.length - k]? := congrArg (·[r.hist.length - k]?) H.hist
  rw [List.getD_eq_getElem?_getD, e, List.getElem?_map]
  unfold lastK
  rw [List.getElem?_drop, show h.length - r.hist.length + (r.hist.length - k) = h.length - k by omega, List.getElem?_eq_getElem (by omega)]
  rfl
theorem Nd.fresh (H : Nd r h nd) (ok : r.Ok) (t : List UInt8) : nd t ≠ some (r.used + 1) := by
  intro e
  obtain ⟨l, hl⟩ := H.K t _ e
  have := (ok.tab _ _ hl).2.1
  omega
def upN (nd : List UInt8 → Option Nat) (t : List UInt8) (i : Nat) : List UInt8 → Option Nat := fun x => if x = t then some i else nd x
theorem grow_f (r : Rw) (x y : Nat) : r.grow.f x y = if r.pth.length ≠ 0 ∧ x = r.pth.getD (r.pth.length - 1) 0 ∧ y = r.hist.getD (r.hist.length - r.pth.length) 0 then some (r.used + 1) else r.f x y := by
  unfold Rw.grow
  by_cases hp : r.pth.length = 0
  · simp only [if_pos hp]
    rw [if_neg (fun e => e.1 hp)]
  · simp only [if_neg hp]
    by_cases e : x = r.pth.getD (r.pth.length - 1) 0 ∧ y = r.hist.getD (r.hist.length - r.pth.length) 0
    · rw [if_pos e, if_pos ⟨hp, e⟩]
    · rw [if_neg e, if_neg (fun g => e g.2)]
theorem Nd.grow (H : Nd r h nd) (ok : r.Ok) (hp : r.pth.length ≤ r.hist.length) (hn : nd (lastK h r.pth.length) = none) : Nd r.grow h (upN nd (lastK h r.pth.length) (r.used + 1)) := by
  have hle := H.hle
  have hlp := lastK_len h (k := r.pth.length) (by omega)
  have hpath : ∀ k, k < r.pth.length → nd (lastK h k) = some (r.pth.getD k 0) := by
    intro k hk
    rw [H.pth k hk, List.getD_eq_getElem?_getD, List.getElem?_eq_getElem hk]
    rfl
  have hne : ∀ k, k ≤ h.length → k ≠ r.pth.length → lastK h k ≠ lastK h r.pth.length := fun k hk hkp e => hkp (lastK_inj h hk (by omega) e)
  have hold : ∀ t i, nd t = some i → upN nd (lastK h r.pth.length) (r.used + 1) t = some i := by
    intro t i ht
    unfold upN
    rw [if_neg (fun e => by rw [e, hn] at ht; cases ht)]
    exact ht
  have hself : upN nd (lastK h r.pth.length) (r.used + 1) (lastK h r.pth.length) = some (r.used + 1) := by unfold upN; rw [if_pos rfl]
  have hcase : ∀ t i, upN nd (lastK h r.pth.length) (r.used + 1) t = some i → (t = lastK h r.pth.length ∧ i = r.used + 1) ∨ (t ≠ lastK h r.pth.length ∧ nd t = some i) := by
    intro t i ht
    unfold upN at ht
    by_cases e : t = lastK h r.pth.length
    · rw [if_pos e] at ht
      cases ht
      exact .inl ⟨e, rfl⟩
    · rw [if_neg e] at ht
      exact .inr ⟨e, ht⟩
  have hKgrow : ∀ j, r.grow.K j = if j = r.used + 1 then some [] else r.K j := fun j => rfl
  refine ⟨?_, ?_, ?_, ?_, ?_, ?_, H.hist, H.hlen, ?_⟩
  · intro t t' i h1 h2
    rcases hcase t i h1 with ⟨e1, e2⟩ | ⟨e1, e2⟩ <;> rcases hcase t' i h2 with ⟨g1, g2⟩ | ⟨g1, g2⟩
    · rw [e1, g1]
    · rw [e2] at g2; exact absurd g2 (H.fresh ok t')
    · rw [g2] at e2; exact absurd e2 (H.fresh ok t)
    · exact H.inj t t' i e2 g2
  · intro y t ht
    have h1 : nd t = none := by
      cases hx : nd t with
      | none => rfl
      | some i => rw [hold t i hx] at ht; cases ht
    unfold upN
    by_cases e : y :: t = lastK h r.pth.length
    · exfalso
      have hl : r.pth.length = t.length + 1 := by rw [← hlp, ← e]; rfl
      have e2 := lastK_cons h (k := r.pth.length) (by omega) (by omega)
      rw [← e] at e2
      have e3 : t = lastK h (r.pth.length - 1) := (List.cons.inj e2).2
      rw [e3, hpath _ (by omega)] at h1
      cases h1
    · rw [if_neg e]
      exact H.suf y t h1
  · intro t i y ht
    rw [grow_f]
    rcases hcase t i ht with ⟨e1, e2⟩ | ⟨e1, e2⟩
    · subst e2
      rw [if_neg]
      · have h2 : r.f (r.used + 1) y.toNat = none := by
          cases hx : r.f (r.used + 1) y.toNat with
          | none => rfl
          | some q =>
            obtain ⟨t', ht'⟩ := H.dom _ _ _ hx
            exact absurd ht' (H.fresh ok t')
        rw [h2]
        unfold upN
        rw [if_neg (fun e => by have := congrArg List.length e; rw [e1] at this; simp at this), e1]
        exact (H.suf y _ hn).symm
      · rintro ⟨g1, g2, _⟩
        have := hpath (r.pth.length - 1) (by omega)
        rw [← g2] at this
        exact H.fresh ok _ this
    · have hiff : (r.pth.length ≠ 0 ∧ i = r.pth.getD (r.pth.length - 1) 0 ∧ y.toNat = r.hist.getD (r.hist.length - r.pth.length) 0) ↔ y :: t = lastK h r.pth.length := by
        constructor
        · rintro ⟨g1, g2, g3⟩
          have e3 := hpath (r.pth.length - 1) (by omega)
          rw [← g2] at e3
          have e4 := H.inj _ _ _ e2 e3
          rw [H.histAt (by omega) hp] at g3
          rw [lastK_cons h (by omega) (by omega), ← e4]
          congr 1
          exact UInt8.toNat_inj.1 g3
        · intro e
          have hl : r.pth.length = t.length + 1 := by rw [← hlp, ← e]; rfl
          have e5 := lastK_cons h (k := r.pth.length) (by omega) (by omega)
          rw [← e] at e5
          obtain ⟨e6, e7⟩ := List.cons.inj e5
          have e8 := hpath (r.pth.length - 1) (by omega)
          rw [← e7, e2] at e8
          refine ⟨by omega, by injection e8, ?_⟩
          rw [H.histAt (by omega) hp, e6]
      unfold upN
      by_cases e : y :: t = lastK h r.pth.length
      · rw [if_pos e, if_pos (hiff.2 e)]
      · rw [if_neg e, if_neg (fun g => e (hiff.1 g))]
        exact H.f t i y e2
  · intro x y i hx
    rw [grow_f] at hx
    by_cases e : r.pth.length ≠ 0 ∧ x = r.pth.getD (r.pth.length - 1) 0 ∧ y = r.hist.getD (r.hist.length - r.pth.length) 0
    · have e3 := hpath (r.pth.length - 1) (by omega)
      rw [← e.2.1] at e3
      exact ⟨_, hold _ _ e3⟩
    · rw [if_neg e] at hx
      obtain ⟨t, ht⟩ := H.dom x y i hx
      exact ⟨t, hold t x ht⟩
  · intro t i ht
    rw [hKgrow]
    rcases hcase t i ht with ⟨_, e2⟩ | ⟨_, e2⟩
    · rw [if_pos e2]; exact ⟨_, rfl⟩
    · rw [if_neg (fun e => by rw [e] at e2; exact H.fresh ok t e2)]
      exact H.K t i e2
  · intro i l hi
    rw [hKgrow] at hi
    by_cases e : i = r.used + 1
    · exact ⟨_, by rw [e]; exact hself⟩
    · rw [if_neg e] at hi
      obtain ⟨t, ht⟩ := H.all i l hi
      exact ⟨t, hold t i ht⟩
  · intro k hk
    have hk2 : k < r.pth.length + 1 := by
      have : r.grow.pth.length = r.pth.length + 1 := by show (r.pth ++ [_]).length = _; simp
      omega
    show _ = (r.pth ++ [r.used + 1])[k]?
    by_cases e : k = r.pth.length
    · subst e
      rw [hself, List.getElem?_append_right (Nat.le_refl _)]
      simp
    · rw [List.getElem?_append_left (by omega)]
      unfold upN
      rw [if_neg (hne k (by omega) e)]
      exact H.pth k (by omega)
/-- Without those that have no sign. -/
def ne : Option Tl → Option Tl
  | some [] => none
  | x => x
theorem ne_cons {l : Tl} (h : l ≠ []) : ne (some l) = some l := by
  cases l with
  | nil => exact absurd rfl h
  | cons x l => rfl
theorem ne_getD (x : Option Tl) : (ne x).getD [] = x.getD [] := by
  cases x with
  | none => rfl
  | some l => cases l <;> rfl
/-- What making all new tables leaves. -/
theorem Nd.growN (H : Nd r h nd) (ok : r.Ok) (hn : r.pth.length ≤ r.hist.length → nd (lastK h r.pth.length) = none) (h0 : ∀ i, r.K i ≠ some []) : ∀ n, r.pth.length + n ≤ r.hist.length + 1 → r.used + n ≤ r.cells →
    ∃ nd', Nd (r.growN n) h nd' ∧ (∀ t, ne ((nd' t).bind (r.growN n).K) = (nd t).bind r.K) ∧ (∀ i, (r.growN n).K i = some [] → ∃ k : Nat, (r.growN n).pth[k]? = some i) ∧ (∀ (k i : Nat), (r.growN n).pth[k]? = some i → ((r.growN n).K i = some [] ↔ r.pth.length ≤ k)) ∧
      (r.pth.length + n ≤ r.hist.length → nd' (lastK h (r.pth.length + n)) = none)
  | 0, _, _ => by
    refine ⟨nd, H, fun t => ?_, fun i hi => absurd hi (h0 i), fun k i hk => ?_, fun e => hn e⟩
    · show ne ((nd t).bind r.K) = (nd t).bind r.K
      cases ht : nd t with
      | none => rfl
      | some i =>
        obtain ⟨l, hl⟩ := H.K t i ht
        show ne (r.K i) = r.K i
        rw [hl, ne_cons (fun e => h0 i (by rw [hl, e]))]
    · exact ⟨fun e => absurd e (h0 i), fun e => by have := (List.getElem?_eq_some_iff.1 (show r.pth[k]? = some i from hk)).1; omega⟩
  | n + 1, h1, h2 => by
    obtain ⟨nd', H', hT, hE1, hE2, hN⟩ := Nd.growN H ok hn h0 n (by omega) (by omega)
    obtain ⟨p1, p2, p3, p4, p5, p6⟩ := Rw.growN_parts r n
    have ok' := ok.growN n (by omega) (by omega)
    have hN' := hN (by omega)
    rw [← p3] at hN'
    have HG := H'.grow ok' (by rw [p2]; omega) hN'
    have hK : ∀ j, (r.growN (n + 1)).K j = if j = (r.growN n).used + 1 then some [] else (r.growN n).K j := fun j => rfl
    have hpt : (r.growN (n + 1)).pth = (r.growN n).pth ++ [(r.growN n).used + 1] := rfl
    have hf := H'.fresh ok'
    have hpf : ∀ (k i : Nat), (r.growN n).pth[k]? = some i → i ≠ (r.growN n).used + 1 := by
      intro k i hk e
      have hkl := (List.getElem?_eq_some_iff.1 hk).1
      have := H'.pth k hkl
      rw [hk, e] at this
      exact hf _ this
    refine ⟨_, HG, fun t => ?_, fun i hi => ?_, fun k i hk => ?_, fun e => ?_⟩
    · show ne ((upN nd' (lastK h (r.growN n).pth.length) ((r.growN n).used + 1) t).bind (r.growN (n + 1)).K) = _
      rw [← hT t]
      unfold upN
      by_cases e : t = lastK h (r.growN n).pth.length
      · rw [if_pos e, e, hN']
        show ne ((r.growN (n + 1)).K ((r.growN n).used + 1)) = none
        rw [hK, if_pos rfl]
        rfl
      · rw [if_neg e]
        cases ht : nd' t with
        | none => rfl
        | some i =>
          show ne ((r.growN (n + 1)).K i) = ne ((r.growN n).K i)
          rw [hK, if_neg (fun e => hf t (by rw [ht, e]))]
    · rw [hK] at hi
      by_cases e : i = (r.growN n).used + 1
      · exact ⟨(r.growN n).pth.length, by rw [hpt, List.getElem?_append_right (Nat.le_refl _), e]; simp⟩
      · rw [if_neg e] at hi
        obtain ⟨k, hk⟩ := hE1 i hi
        exact ⟨k, by rw [hpt, List.getElem?_append_left (List.getElem?_eq_some_iff.1 hk).1]; exact hk⟩
    · rw [hpt] at hk
      rw [hK]
      by_cases e : k < (r.growN n).pth.length
      · rw [List.getElem?_append_left e] at hk
        rw [if_neg (hpf k i hk)]
        exact hE2 k i hk
      · rw [List.getElem?_append_right (by omega)] at hk
        have hki : k - (r.growN n).pth.length = 0 := by
          cases hq : k - (r.growN n).pth.length with
          | zero => rfl
          | succ m => rw [hq] at hk; simp at hk
        rw [hki] at hk
        simp at hk
        rw [if_pos hk.symm]
        exact ⟨fun _ => by omega, fun _ => rfl⟩
    · rw [show r.pth.length + (n + 1) = (r.growN n).pth.length + 1 by omega]
      have hle := H'.hle
      have hlt : (r.growN n).pth.length + 1 ≤ (r.growN n).hist.length := by rw [p2]; omega
      show upN nd' _ _ _ = none
      unfold upN
      rw [if_neg (fun e => by have := lastK_inj h (by omega) (by omega) e; omega), lastK_cons h (by omega) (by omega)]
      exact H'.suf _ _ hN'
end
end Go.Proofs.Yteacmcckhjabmaa.Rx
end
section
set_option linter.unusedVariables false
set_option linter.unusedSimpArgs false
namespace Go.Proofs.Yteacmcckhjabmaa.Rx
open Fq
open Cx (Tl TOk Rw)
/-- Under way: g: what there was when all new tables were made, p: how many there had been. -/
structure Syn (r : Rw) (q : Rd) (nd : List UInt8 → Option Nat) (p m : Nat) : Prop where
  nod : Nd r q.hist nd
  T : ∀ t, q.T t = ne ((nd t).bind r.K)
  e1 : ∀ i, r.K i = some [] → ∃ k : Nat, r.pth[k]? = some i
  e2 : ∀ (k i : Nat), r.pth[k]? = some i → (r.K i = some [] ↔ (p ≤ k ∧ m ≤ k))
  u : r.used = q.sum + (r.pth.length - max p m)
  order : r.order = q.order
  len : r.pth.length = r.hist.length + 1
section
variable {r : Rw} {q : Rd} {nd : List UInt8 → Option Nat} {p m : Nat}
theorem addT_ne (l : Tl) (s : Nat) : addT l s ≠ [] := add_ne l s
theorem addT_len (l : Tl) (s : Nat) : (addT l s).length = l.length + if hasB l s then 0 else 1 := by
  unfold addT hasB
  by_cases h : find l s < l.length
  · rw [if_pos h, decide_eq_true h]
    split
    · simp [halve, more]
    · simp [more]
  · rw [if_neg h, decide_eq_false h]
    simp
theorem Syn.step (S : Syn r q nd p m) (hm : m < r.pth.length) (s : Nat) : Syn (r.addAt s m) (q.addAt s m) nd p (m + 1) := by
  have hle := S.nod.hle
  have hlen := S.len
  have hpm := S.nod.pth m hm
  obtain ⟨i, hi⟩ : ∃ i, r.pth[m]? = some i := ⟨_, List.getElem?_eq_getElem hm⟩
  rw [hi] at hpm
  obtain ⟨l, hl⟩ := S.nod.K _ _ hpm
  have hadd := Rw.addAt_at (s := s) hi hl
  have hK : ∀ j, (r.addAt s m).K j = if j = i then some (addT l s) else r.K j := fun j => by rw [hadd]
  have hP : (r.addAt s m).pth = r.pth := by rw [hadd]
  have hH : (r.addAt s m).hist = r.hist := by rw [hadd]
  have hF : (r.addAt s m).f = r.f := by rw [hadd]
  have hO : (r.addAt s m).order = r.order := by rw [hadd]
  have hU : (r.addAt s m).used = r.used + (if hasB l s then 0 else 1) := by rw [hadd]
  have hTm : q.T (lastK q.hist m) = ne (some l) := by rw [S.T, hpm]; show ne (r.K i) = _; rw [hl]
  have hhl : r.hist.length ≤ r.order := by rw [S.nod.hlen]; exact Nat.min_le_left _ _
  have hat : q.at' m = ne (some l) := by
    unfold Rd.at'
    rw [if_pos ⟨by rw [← S.order]; omega, by omega⟩, hTm]
  have hgd : (q.at' m).getD [] = l := by rw [hat, ne_getD]; rfl
  have hT' : ∀ t, (q.addAt s m).T t = if t = lastK q.hist m then some (addT l s) else q.T t := fun t => by
    show setT q.T (lastK q.hist m) (addT ((q.at' m).getD []) s) t = _
    rw [hgd]
    rfl
  have hsum : (q.addAt s m).sum = q.sum + (1 + (addT l s).length) - wtT (ne (some l)) := by
    show q.sum + (1 + (addT ((q.at' m).getD []) s).length) - wtT (q.T (lastK q.hist m)) = _
    rw [hgd, hTm]
  refine ⟨⟨S.nod.inj, S.nod.suf, by rw [hF]; exact S.nod.f, by rw [hF]; exact S.nod.dom, fun t j ht => ?_, fun j k hj => ?_, by rw [hH]; exact S.nod.hist, by rw [hH, hO]; exact S.nod.hlen, by rw [hP]; exact S.nod.pth⟩, fun t => ?_, fun j hj => ?_, fun k j hk => ?_, ?_, hO.trans S.order, by rw [hP, hH]; exact S.len⟩
  · rw [hK]
    split
    · exact ⟨_, rfl⟩
    · exact S.nod.K t j ht
  · rw [hK] at hj
    by_cases e : j = i
    · exact ⟨_, by rw [e]; exact hpm⟩
    · rw [if_neg e] at hj
      exact S.nod.all j k hj
  · rw [hT']
    by_cases e : t = lastK q.hist m
    · rw [if_pos e, e, hpm]
      show _ = ne ((r.addAt s m).K i)
      rw [hK, if_pos rfl, ne_cons (addT_ne l s)]
    · rw [if_neg e, S.T]
      cases ht : nd t with
      | none => rfl
      | some j =>
        show ne (r.K j) = ne ((r.addAt s m).K j)
        rw [hK, if_neg (fun e2 => e (S.nod.inj _ _ _ (by rw [ht, e2]) hpm))]
  · rw [hK] at hj
    by_cases e : j = i
    · rw [if_pos e] at hj
      exact absurd (Option.some.inj hj) (addT_ne l s)
    · rw [if_neg e] at hj
      rw [hP]
      exact S.e1 j hj
  · rw [hP] at hk
    rw [hK]
    have hkl := (List.getElem?_eq_some_iff.1 hk).1
    by_cases e : j = i
    · rw [if_pos e]
      subst e
      have h1 := S.nod.pth k hkl
      rw [hk] at h1
      have h2 := lastK_inj q.hist (by omega) (by omega) (S.nod.inj _ _ _ h1 hpm)
      exact ⟨fun e3 => absurd (Option.some.inj e3) (addT_ne l s), fun e3 => by omega⟩
    · rw [if_neg e, S.e2 k j hk]
      have hkm : k ≠ m := fun e3 => by
        subst e3
        rw [hi] at hk
        exact e (Option.some.inj hk).symm
      omega
  · rw [hU, hsum, hP]
    have hu := S.u
    have h2 := S.e2 m i hi
    rw [hl] at h2
    by_cases e : l = []
    · subst e
      have h3 := h2.1 rfl
      have hal := addT_len [] s
      have hb : hasB [] s = false := by simp [hasB, find]
      rw [hb] at hal ⊢
      simp at hal
      rw [show wtT (ne (some [])) = 0 from rfl, hal]
      simp
      omega
    · have h3 : ¬ (p ≤ m ∧ m ≤ m) := fun e3 => e (Option.some.inj (h2.2 e3))
      rw [ne_cons e, addT_len]
      show _ = q.sum + (1 + (l.length + _)) - (1 + l.length) + _
      omega
theorem Syn.steps (S : Syn r q nd p m) (s : Nat) : ∀ n, m + n ≤ r.pth.length → Syn (r.addN s m n) (q.addN s m n) nd p (m + n)
  | 0, _ => S
  | n + 1, h => by
    have h1 := Syn.steps S s n (by omega)
    have hp := (Rw.addN_parts r s m n).1
    exact h1.step (by rw [hp]; omega) s
theorem Syn.no (S : Syn r q nd p m) (hm : r.pth.length ≤ m) : ∀ i, r.K i ≠ some [] := by
  intro i hi
  obtain ⟨k, hk⟩ := S.e1 i hi
  have := (List.getElem?_eq_some_iff.1 hk).1
  have := (S.e2 k i hk).1 hi
  omega
end
end Go.Proofs.Yteacmcckhjabmaa.Rx
end
section
set_option linter.unusedVariables false
set_option linter.unusedSimpArgs false
namespace Go.Proofs.Yteacmcckhjabmaa.Rx
open Fq
open Cx (Tl TOk Rw)
structure Cp (r : Rw) (q : Rd) : Prop where
  ok : r.Ok
  ex : ∃ nd, Nd r q.hist nd ∧ (∀ t, q.T t = (nd t).bind r.K) ∧ (r.pth.length ≤ r.hist.length → nd (lastK q.hist r.pth.length) = none)
  ne0 : ∀ i, r.K i ≠ some []
  u : r.used = q.sum
  order : r.order = q.order
  cells : r.cells = q.cells
  rs : r.rs = q.rs
theorem find_chain {f : Nat → Nat → Option Nat} {nd : List UInt8 → Option Nat} {h : List UInt8} {hist : List Nat} (hf : ∀ t i (y : UInt8), nd t = some i → f i y.toNat = nd (y :: t)) (hle : hist.length ≤ h.length)
    (hh : ∀ k (h1 : 1 ≤ k) (h2 : k ≤ hist.length), hist.getD (hist.length - k) 0 = (h[h.length - k]'(by omega)).toNat) :
    ∀ (n : Nat) (p : List Nat), 1 ≤ p.length → p.length + n = hist.length + 1 → (∀ k : Nat, k < p.length → nd (lastK h k) = p[k]?) →
      (∀ k : Nat, k < (Rw.findL f hist n p).length → nd (lastK h k) = (Rw.findL f hist n p)[k]?) ∧ ((Rw.findL f hist n p).length ≤ hist.length → nd (lastK h (Rw.findL f hist n p).length) = none)
  | 0, p, _, h2, hc => ⟨hc, fun e => by exfalso; have e2 : p.length ≤ hist.length := e; omega⟩
  | n + 1, p, h1, h2, hc => by
    have key : f (p.getD (p.length - 1) 0) (hist.getD (hist.length - p.length) 0) = nd (lastK h p.length) := by
      rw [hh p.length h1 (by omega), lastK_cons h h1 (by omega)]
      refine hf _ _ _ ?_
      rw [hc (p.length - 1) (by omega), List.getD_eq_getElem?_getD, List.getElem?_eq_getElem (by omega)]
      rfl
    unfold Rw.findL
    split
    · rename_i hn
      rw [key] at hn
      exact ⟨hc, fun _ => hn⟩
    · rename_i i hi
      rw [key] at hi
      refine find_chain hf hle hh n (p ++ [i]) (by simp) (by simp; omega) (fun k hk => ?_)
      by_cases e : k < p.length
      · rw [List.getElem?_append_left e]
        exact hc k e
      · have : k = p.length := by simp at hk; omega
        subst this
        rw [hi, List.getElem?_append_right (Nat.le_refl _)]
        simp
section
variable {r : Rw} {q : Rd} {nd : List UInt8 → Option Nat} {p m : Nat}
theorem hist_more {H : List Nat} {h : List UInt8} {s : Nat} (hs : s < 256) (hH : H = (lastK h H.length).map (·.toNat)) (hle : H.length ≤ h.length) : H ++ [s] = ((h ++ [UInt8.ofNat s]).drop (h.length - H.length)).map (·.toNat) := by
  rw [List.drop_append_of_le_length (by omega), List.map_append]
  have e : (UInt8.ofNat s).toNat = s := by simp; omega
  simp only [List.map_cons, List.map_nil, e]
  congr 1
theorem Syn.close (S : Syn r q nd p m) (hm : r.pth.length ≤ m) {s : Nat} (hs : s < 256) (ok : (r.write s).refind.Ok) (hc : r.cells = q.cells) (hr : r.rs = q.rs) : Cp (r.write s).refind (q.wr s) := by
  have hno := S.no hm
  have hle := S.nod.hle
  have hlen := S.len
  have hmin := S.nod.hlen
  have hmore := hist_more hs S.nod.hist hle
  have hW : (r.write s).hist = if r.order < r.hist.length + 1 then (r.hist ++ [s]).drop 1 else r.hist ++ [s] := rfl
  have hl' : (r.write s).hist.length = min r.order (q.hist.length + 1) := by
    rw [hW]
    split <;> simp <;> omega
  have hHist : (r.write s).hist = (lastK (q.hist ++ [UInt8.ofNat s]) (r.write s).hist.length).map (·.toNat) := by
    unfold lastK
    rw [hl', hW, hmore]
    by_cases e : r.order < r.hist.length + 1
    · rw [if_pos e, ← List.map_drop, List.drop_drop]
      congr 2
      simp
      omega
    · rw [if_neg e]
      congr 2
      simp
      omega
  have hN0 : Nd { (r.write s) with pth := [] } (q.hist ++ [UInt8.ofNat s]) nd := ⟨S.nod.inj, S.nod.suf, S.nod.f, S.nod.dom, S.nod.K, S.nod.all, hHist, by
    show (r.write s).hist.length = min r.order (q.hist ++ [UInt8.ofNat s]).length
    rw [hl']; simp, fun k hk => by cases hk⟩
  have hp0 : nd [] = r.pth[0]? := by
    have := S.nod.pth 0 (by omega)
    rwa [lastK_zero] at this
  obtain ⟨c1, c2⟩ := find_chain (f := r.f) (nd := nd) (h := q.hist ++ [UInt8.ofNat s]) (hist := (r.write s).hist) S.nod.f hN0.hle (fun k h1 h2 => hN0.histAt h1 h2) (r.write s).hist.length (r.pth.take 1) (by rw [List.length_take]; omega) (by rw [List.length_take]; omega) (fun k hk => by
    have : k = 0 := by rw [List.length_take] at hk; omega
    subst this
    rw [lastK_zero, hp0, List.getElem?_take]
    simp)
  refine ⟨ok, ⟨nd, ⟨S.nod.inj, S.nod.suf, S.nod.f, S.nod.dom, S.nod.K, S.nod.all, hHist, hN0.hlen, c1⟩, fun t => ?_, c2⟩, hno, ?_, S.order, hc, hr⟩
  · show q.T t = (nd t).bind r.K
    rw [S.T]
    cases ht : nd t with
    | none => rfl
    | some i =>
      obtain ⟨l, hl⟩ := S.nod.K t i ht
      show ne (r.K i) = r.K i
      rw [hl, ne_cons (fun e => hno i (by rw [hl, e]))]
  · show r.used = q.sum
    have := S.u
    omega
theorem Cp.learn1 (C : Cp r q) {s a : Nat} (hs : s < 256) (ha : a ≤ r.pth.length) (hr : r.used + r.needs s a ≤ r.cells) : Cp (r.learn1 s a) (q.learn1 s a) := by
  obtain ⟨nd, hN, hT, hmx⟩ := C.ex
  have hlen := C.ok.len
  have ok1 := Rw.learn1_ok C.ok hs ha hr
  obtain ⟨r1, r2⟩ := Rw.learn_room C.ok ha hr
  obtain ⟨nd', G, g1, g2, g3, _⟩ := hN.growN C.ok hmx C.ne0 (r.hist.length + 1 - r.pth.length) (by omega) r1
  obtain ⟨p1, p2, p3, p4, p5, p6⟩ := Rw.growN_parts r (r.hist.length + 1 - r.pth.length)
  have hroom : q.room a = r.hist.length + 1 - a := by
    unfold Rd.room
    rw [hN.hlen, C.order]
  unfold Rw.learn1 at ok1 ⊢
  unfold Rd.learn1
  rw [hroom]
  generalize r.growN (r.hist.length + 1 - r.pth.length) = g at *
  have hgl : g.pth.length = r.hist.length + 1 := by omega
  have S : Syn g q nd' r.pth.length a := ⟨G, fun t => by rw [g1, hT], g2, fun k i hk => by rw [g3 k i hk]; omega, by rw [p1, C.u]; have := C.u; omega, by rw [p5]; exact C.order, by rw [hgl, p2]⟩
  have S2 := S.steps s (r.hist.length + 1 - a) (by omega)
  rw [hgl] at ok1 ⊢
  obtain ⟨a1, a2, a3, a4, a5, a6⟩ := Rw.addN_parts g s a (r.hist.length + 1 - a)
  obtain ⟨b1, b2, b3, b4, b5⟩ := Rd.addN_parts q s a (r.hist.length + 1 - a)
  refine S2.close (by rw [a1]; omega) hs ok1 ?_ ?_
  · rw [a4, p4, b2]; exact C.cells
  · rw [a6, p6, b3]; exact C.rs
theorem Cp.forget (C : Cp r q) : Cp r.forget q.forget :=
  ⟨Rw.forget_ok C.ok, ⟨fun _ => none, ⟨(fun _ _ _ h => by cases h), (fun _ _ _ => rfl), (fun _ _ _ h => by cases h), (fun _ _ _ h => by cases h), (fun _ _ h => by cases h), (fun _ _ h => by cases h), rfl, by show 0 = min _ 0; simp, fun k hk => by cases hk⟩, fun _ => rfl, fun _ => rfl⟩, (fun i h => by cases h), rfl, C.order, C.cells, by show r.rs + 1 = q.rs + 1; rw [C.rs]⟩
theorem Nd.none_up (H : Nd r q.hist nd) {p : Nat} (hp : nd (lastK q.hist p) = none) : ∀ n, p + n ≤ q.hist.length → nd (lastK q.hist (p + n)) = none
  | 0, _ => hp
  | n + 1, h => by
    have h1 := Nd.none_up H hp n (by omega)
    rw [lastK_cons q.hist (by omega) h]
    exact H.suf _ _ h1
theorem Cp.at (C : Cp r q) (k : Nat) : q.at' k = (r.pth[k]?).bind r.K := by
  obtain ⟨nd, hN, hT, hmx⟩ := C.ex
  have hlen := C.ok.len
  have hmin := hN.hlen
  have ho := C.order
  unfold Rd.at'
  by_cases h : k ≤ q.order ∧ k ≤ q.hist.length
  · rw [if_pos h, hT]
    by_cases hk : k < r.pth.length
    · rw [hN.pth k hk]
    · have h2 := hmx (by omega)
      have h3 := hN.none_up h2 (k - r.pth.length) (by omega)
      rw [show r.pth.length + (k - r.pth.length) = k by omega] at h3
      rw [h3, List.getElem?_eq_none (by omega)]
      try rfl
  · rw [if_neg h, List.getElem?_eq_none (by omega)]
    try rfl
theorem Cp.isSome (C : Cp r q) (k : Nat) : (q.at' k).isSome = decide (k < r.pth.length) := by
  rw [C.at]
  by_cases hk : k < r.pth.length
  · obtain ⟨i, l, h1, h2⟩ := C.ok.at hk
    rw [h1, decide_eq_true hk]
    show (r.K i).isSome = true
    rw [h2]
    rfl
  · rw [List.getElem?_eq_none (by omega), decide_eq_false hk]
    rfl
theorem Cp.long (C : Cp r q) : q.long = (r.pth.length : Int) - 1 := by
  obtain ⟨nd, hN, _, _⟩ := C.ex
  have key : ∀ j : Nat, q.longN j = ((min r.pth.length j : Nat) : Int) - 1 := by
    intro j
    induction j with
    | zero => simp [Rd.longN]
    | succ j ih =>
      unfold Rd.longN
      rw [C.isSome, ih]
      by_cases h : j < r.pth.length
      · rw [decide_eq_true h, if_pos rfl]; omega
      · rw [decide_eq_false h, if_neg (by simp)]; omega
  have hlen := C.ok.len
  have hmin := hN.hlen
  have ho := C.order
  unfold Rd.long
  rw [key]
  omega
theorem Cp.needs (C : Cp r q) (s a : Nat) (ha : a ≤ r.pth.length) : q.needs s a (q.room a) = r.needs s a := by
  obtain ⟨nd, hN, _, _⟩ := C.ex
  have key : ∀ n, q.needs s a n = r.lacks s a (min n (r.pth.length - a)) + 2 * (n - (r.pth.length - a)) := by
    intro n
    induction n with
    | zero => simp [Rd.needs, Rw.lacks]
    | succ n ih =>
      rw [Rd.needs, ih]
      unfold Rd.need1
      rw [C.at]
      by_cases h : a + n < r.pth.length
      · obtain ⟨i, l, h1, h2⟩ := C.ok.at h
        rw [h1]
        show _ + (match r.K i with
          | none => 2
          | some l => if hasB l s = true then 0 else 1) = _
        rw [h2, show min n (r.pth.length - a) = n by omega, show min (n + 1) (r.pth.length - a) = n + 1 by omega, show n - (r.pth.length - a) = 0 by omega, show n + 1 - (r.pth.length - a) = 0 by omega]
        rw [Rw.lacks, Rw.hasK_at h1 h2]
        rfl
      · rw [List.getElem?_eq_none (by omega)]
        show _ + 2 = _
        rw [show min n (r.pth.length - a) = r.pth.length - a by omega, show min (n + 1) (r.pth.length - a) = r.pth.length - a by omega]
        omega
  have hlen := C.ok.len
  have hroom : q.room a = r.hist.length + 1 - a := by
    unfold Rd.room
    rw [hN.hlen, C.order]
  rw [key, hroom]
  unfold Rw.needs
  rw [show min (r.hist.length + 1 - a) (r.pth.length - a) = r.pth.length - a by omega]
  omega
theorem Cp.new (o n : Int) : Cp (Cx.Rw.new o n) (rdNew o n) :=
  ⟨Cx.Rw.new_ok o n, ⟨fun _ => none, ⟨(fun _ _ _ h => by cases h), (fun _ _ _ => rfl), (fun _ _ _ h => by cases h), (fun _ _ _ h => by cases h), (fun _ _ h => by cases h), (fun _ _ h => by cases h), rfl, by show 0 = min _ 0; simp, fun k hk => by cases hk⟩, fun _ => rfl, fun _ => rfl⟩, (fun i h => by cases h), rfl, rfl, rfl, rfl⟩
theorem Cp.learn (C : Cp r q) {s : Nat} (hs : s < 256) {f : Int} (hf : f ≤ (r.pth.length : Int) - 1) : Cp (r.learn s f) (q.learn s f) := by
  have hst : r.start f = (max f 0).toNat := by
    unfold Rw.start
    omega
  have hle := Rw.start_le r f
  have hn := C.needs s (r.start f) hle
  unfold Rw.learn Rd.learn
  rw [← hst]
  have hfu : q.full s (r.start f) = r.full s (r.start f) := by
    unfold Rd.full Rw.full
    rw [hn, C.cells, C.u]
  rw [hfu]
  by_cases h : r.full s (r.start f) = true
  · rw [if_pos h, if_pos h]
    exact C.forget.learn1 hs (Nat.zero_le _) (by have := C.ok.cells.1; show 0 + (2 * (0 + 1 - 0) + 0) ≤ r.cells; omega)
  · rw [if_neg h, if_neg h]
    refine C.learn1 hs hle ?_
    unfold Rw.full at h
    rw [decide_eq_true_iff] at h
    omega
end
end Go.Proofs.Yteacmcckhjabmaa.Rx
end
