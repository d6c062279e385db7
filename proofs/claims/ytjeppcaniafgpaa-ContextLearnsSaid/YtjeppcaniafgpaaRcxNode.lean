/-
  Contexts, mathematics: the program's steps from cell to cell are the document's texts: each table's text, and what making new tables leaves of that.
-/
import Derived.Test.YtjeppcaniafgpaaRcxMath
import Derived.Test.YtjeppcaniafgpaaCtxOk
set_option linter.unusedVariables false
set_option linter.unusedSimpArgs false
namespace Go.Proofs.Ytjeppcaniafgpaa.Rx
open Fq
open Cx (Tl TOk Rw)
theorem lastK_len (h : List UInt8) {k : Nat} (hk : k ≤ h.length) : (lastK h k).length = k := by unfold lastK; rw [List.length_drop]; omega
theorem lastK_inj (h : List UInt8) {k j : Nat} (hk : k ≤ h.length) (hj : j ≤ h.length) (e : lastK h k = lastK h j) : k = j := by
  have := congrArg List.length e
  rwa [lastK_len h hk, lastK_len h hj] at this
theorem lastK_cons (h : List UInt8) {k : Nat} (h1 : 1 ≤ k) (hk : k ≤ h.length) : lastK h k = h[h.length - k]'(by omega) :: lastK h (k - 1) := by
  unfold lastK
  rw [List.drop_eq_getElem_cons (by omega)]
  congr 2
  omega
theorem lastK_zero (h : List UInt8) : lastK h 0 = [] := by unfold lastK; simp
/-- The program's cells by the texts of their tables. -/
structure Nd (r : Rw) (h : List UInt8) (nd : List UInt8 → Option Nat) : Prop where
  inj : ∀ t t' i, nd t = some i → nd t' = some i → t = t'
  suf : ∀ y t, nd t = none → nd (y :: t) = none
  f : ∀ t i (y : UInt8), nd t = some i → r.f i y.toNat = nd (y :: t)
  dom : ∀ x y i, r.f x y = some i → ∃ t, nd t = some x
  K : ∀ t i, nd t = some i → ∃ l, r.K i = some l
  all : ∀ i l, r.K i = some l → ∃ t, nd t = some i
  hist : r.hist = (lastK h r.hist.length).map (·.toNat)
  hlen : r.hist.length = min r.order h.length
  pth : ∀ k, k < r.pth.length → nd (lastK h k) = r.pth[k]?
section
variable {r : Rw} {h : List UInt8} {nd : List UInt8 → Option Nat}
theorem Nd.hle (H : Nd r h nd) : r.hist.length ≤ h.length := by rw [H.hlen]; exact Nat.min_le_right _ _
theorem Nd.histAt (H : Nd r h nd) {k : Nat} (h1 : 1 ≤ k) (hk : k ≤ r.hist.length) : r.hist.getD (r.hist.length - k) 0 = (h[h.length - k]'(by have := H.hle; omega)).toNat := by
  have hle := H.hle
  have e : r.hist[r.hist.length - k]? = ((lastK h r.hist.length).map (·.toNat))[r.hist.length - k]? := congrArg (·[r.hist.length - k]?) H.hist
  rw [List.getD_eq_getElem?_getD, e, List.getElem?_map]
  unfold lastK
  rw [List.getElem?_drop, show h.length - r.hist.length + (r.hist.length - k) = h.length - k by omega, List.getElem?_eq_getElem (by omega)]
  rfl
theorem Nd.fresh (H : Nd r h nd) (ok : r.Ok) (t : List UInt8) : nd t ≠ some (r.used + 1) := by
  intro e
  obtain ⟨l, hl⟩ := H.K t _ e
  have := (ok.tab _ _ hl).2.1
  omega
def upN (nd : List UInt8 → Option Nat) (t : List UInt8) (i : Nat) : List UInt8 → Option Nat := fun x => if x = t then some i else nd x
theorem grow_f (r : Rw) (x y : Nat) : r.grow.f x y = if r.pth.length ≠ 0 ∧ x = r.pth.getD (r.pth.length - 1) 0 ∧ y = r.hist.getD (r.hist.length - r.pth.length) 0 then some (r.used + 1) else r.f x y := by
  unfold Rw.grow
  by_cases hp : r.pth.length = 0
  · simp only [if_pos hp]
    rw [if_neg (fun e => e.1 hp)]
  · simp only [if_neg hp]
    by_cases e : x = r.pth.getD (r.pth.length - 1) 0 ∧ y = r.hist.getD (r.hist.length - r.pth.length) 0
    · rw [if_pos e, if_pos ⟨hp, e⟩]
    · rw [if_neg e, if_neg (fun g => e g.2)]
theorem Nd.grow (H : Nd r h nd) (ok : r.Ok) (hp : r.pth.length ≤ r.hist.length) (hn : nd (lastK h r.pth.length) = none) : Nd r.grow h (upN nd (lastK h r.pth.length) (r.used + 1)) := by
  have hle := H.hle
  have hlp := lastK_len h (k := r.pth.length) (by omega)
  have hpath : ∀ k, k < r.pth.length → nd (lastK h k) = some (r.pth.getD k 0) := by
    intro k hk
    rw [H.pth k hk, List.getD_eq_getElem?_getD, List.getElem?_eq_getElem hk]
    rfl
  have hne : ∀ k, k ≤ h.length → k ≠ r.pth.length → lastK h k ≠ lastK h r.pth.length := fun k hk hkp e => hkp (lastK_inj h hk (by omega) e)
  have hold : ∀ t i, nd t = some i → upN nd (lastK h r.pth.length) (r.used + 1) t = some i := by
    intro t i ht
    unfold upN
    rw [if_neg (fun e => by rw [e, hn] at ht; cases ht)]
    exact ht
  have hself : upN nd (lastK h r.pth.length) (r.used + 1) (lastK h r.pth.length) = some (r.used + 1) := by unfold upN; rw [if_pos rfl]
  have hcase : ∀ t i, upN nd (lastK h r.pth.length) (r.used + 1) t = some i → (t = lastK h r.pth.length ∧ i = r.used + 1) ∨ (t ≠ lastK h r.pth.length ∧ nd t = some i) := by
    intro t i ht
    unfold upN at ht
    by_cases e : t = lastK h r.pth.length
    · rw [if_pos e] at ht
      cases ht
      exact .inl ⟨e, rfl⟩
    · rw [if_neg e] at ht
      exact .inr ⟨e, ht⟩
  have hKgrow : ∀ j, r.grow.K j = if j = r.used + 1 then some [] else r.K j := fun j => rfl
  refine ⟨?_, ?_, ?_, ?_, ?_, ?_, H.hist, H.hlen, ?_⟩
  · intro t t' i h1 h2
    rcases hcase t i h1 with ⟨e1, e2⟩ | ⟨e1, e2⟩ <;> rcases hcase t' i h2 with ⟨g1, g2⟩ | ⟨g1, g2⟩
    · rw [e1, g1]
    · rw [e2] at g2; exact absurd g2 (H.fresh ok t')
    · rw [g2] at e2; exact absurd e2 (H.fresh ok t)
    · exact H.inj t t' i e2 g2
  · intro y t ht
    have h1 : nd t = none := by
      cases hx : nd t with
      | none => rfl
      | some i => rw [hold t i hx] at ht; cases ht
    unfold upN
    by_cases e : y :: t = lastK h r.pth.length
    · exfalso
      have hl : r.pth.length = t.length + 1 := by rw [← hlp, ← e]; rfl
      have e2 := lastK_cons h (k := r.pth.length) (by omega) (by omega)
      rw [← e] at e2
      have e3 : t = lastK h (r.pth.length - 1) := (List.cons.inj e2).2
      rw [e3, hpath _ (by omega)] at h1
      cases h1
    · rw [if_neg e]
      exact H.suf y t h1
  · intro t i y ht
    rw [grow_f]
    rcases hcase t i ht with ⟨e1, e2⟩ | ⟨e1, e2⟩
    · subst e2
      rw [if_neg]
      · have h2 : r.f (r.used + 1) y.toNat = none := by
          cases hx : r.f (r.used + 1) y.toNat with
          | none => rfl
          | some q =>
            obtain ⟨t', ht'⟩ := H.dom _ _ _ hx
            exact absurd ht' (H.fresh ok t')
        rw [h2]
        unfold upN
        rw [if_neg (fun e => by have := congrArg List.length e; rw [e1] at this; simp at this), e1]
        exact (H.suf y _ hn).symm
      · rintro ⟨g1, g2, _⟩
        have := hpath (r.pth.length - 1) (by omega)
        rw [← g2] at this
        exact H.fresh ok _ this
    · have hiff : (r.pth.length ≠ 0 ∧ i = r.pth.getD (r.pth.length - 1) 0 ∧ y.toNat = r.hist.getD (r.hist.length - r.pth.length) 0) ↔ y :: t = lastK h r.pth.length := by
        constructor
        · rintro ⟨g1, g2, g3⟩
          have e3 := hpath (r.pth.length - 1) (by omega)
          rw [← g2] at e3
          have e4 := H.inj _ _ _ e2 e3
          rw [H.histAt (by omega) hp] at g3
          rw [lastK_cons h (by omega) (by omega), ← e4]
          congr 1
          exact UInt8.toNat_inj.1 g3
        · intro e
          have hl : r.pth.length = t.length + 1 := by rw [← hlp, ← e]; rfl
          have e5 := lastK_cons h (k := r.pth.length) (by omega) (by omega)
          rw [← e] at e5
          obtain ⟨e6, e7⟩ := List.cons.inj e5
          have e8 := hpath (r.pth.length - 1) (by omega)
          rw [← e7, e2] at e8
          refine ⟨by omega, by injection e8, ?_⟩
          rw [H.histAt (by omega) hp, e6]
      unfold upN
      by_cases e : y :: t = lastK h r.pth.length
      · rw [if_pos e, if_pos (hiff.2 e)]
      · rw [if_neg e, if_neg (fun g => e (hiff.1 g))]
        exact H.f t i y e2
  · intro x y i hx
    rw [grow_f] at hx
    by_cases e : r.pth.length ≠ 0 ∧ x = r.pth.getD (r.pth.length - 1) 0 ∧ y = r.hist.getD (r.hist.length - r.pth.length) 0
    · have e3 := hpath (r.pth.length - 1) (by omega)
      rw [← e.2.1] at e3
      exact ⟨_, hold _ _ e3⟩
    · rw [if_neg e] at hx
      obtain ⟨t, ht⟩ := H.dom x y i hx
      exact ⟨t, hold t x ht⟩
  · intro t i ht
    rw [hKgrow]
    rcases hcase t i ht with ⟨_, e2⟩ | ⟨_, e2⟩
    · rw [if_pos e2]; exact ⟨_, rfl⟩
    · rw [if_neg (fun e => by rw [e] at e2; exact H.fresh ok t e2)]
      exact H.K t i e2
  · intro i l hi
    rw [hKgrow] at hi
    by_cases e : i = r.used + 1
    · exact ⟨_, by rw [e]; exact hself⟩
    · rw [if_neg e] at hi
      obtain ⟨t, ht⟩ := H.all i l hi
      exact ⟨t, hold t i ht⟩
  · intro k hk
    have hk2 : k < r.pth.length + 1 := by
      have : r.grow.pth.length = r.pth.length + 1 := by show (r.pth ++ [_]).length = _; simp
      omega
    show _ = (r.pth ++ [r.used + 1])[k]?
    by_cases e : k = r.pth.length
    · subst e
      rw [hself, List.getElem?_append_right (Nat.le_refl _)]
      simp
    · rw [List.getElem?_append_left (by omega)]
      unfold upN
      rw [if_neg (hne k (by omega) e)]
      exact H.pth k (by omega)
/-- Without those that have no sign. -/
def ne : Option Tl → Option Tl
  | some [] => none
  | x => x
theorem ne_cons {l : Tl} (h : l ≠ []) : ne (some l) = some l := by
  cases l with
  | nil => exact absurd rfl h
  | cons x l => rfl
theorem ne_getD (x : Option Tl) : (ne x).getD [] = x.getD [] := by
  cases x with
  | none => rfl
  | some l => cases l <;> rfl
/-- What making all new tables leaves. -/
theorem Nd.growN (H : Nd r h nd) (ok : r.Ok) (hn : r.pth.length ≤ r.hist.length → nd (lastK h r.pth.length) = none) (h0 : ∀ i, r.K i ≠ some []) : ∀ n, r.pth.length + n ≤ r.hist.length + 1 → r.used + n ≤ r.cells →
    ∃ nd', Nd (r.growN n) h nd' ∧ (∀ t, ne ((nd' t).bind (r.growN n).K) = (nd t).bind r.K) ∧ (∀ i, (r.growN n).K i = some [] → ∃ k : Nat, (r.growN n).pth[k]? = some i) ∧ (∀ (k i : Nat), (r.growN n).pth[k]? = some i → ((r.growN n).K i = some [] ↔ r.pth.length ≤ k)) ∧
      (r.pth.length + n ≤ r.hist.length → nd' (lastK h (r.pth.length + n)) = none)
  | 0, _, _ => by
    refine ⟨nd, H, fun t => ?_, fun i hi => absurd hi (h0 i), fun k i hk => ?_, fun e => hn e⟩
    · show ne ((nd t).bind r.K) = (nd t).bind r.K
      cases ht : nd t with
      | none => rfl
      | some i =>
        obtain ⟨l, hl⟩ := H.K t i ht
        show ne (r.K i) = r.K i
        rw [hl, ne_cons (fun e => h0 i (by rw [hl, e]))]
    · exact ⟨fun e => absurd e (h0 i), fun e => by have := (List.getElem?_eq_some_iff.1 (show r.pth[k]? = some i from hk)).1; omega⟩
  | n + 1, h1, h2 => by
    obtain ⟨nd', H', hT, hE1, hE2, hN⟩ := Nd.growN H ok hn h0 n (by omega) (by omega)
    obtain ⟨p1, p2, p3, p4, p5, p6⟩ := Rw.growN_parts r n
    have ok' := ok.growN n (by omega) (by omega)
    have hN' := hN (by omega)
    rw [← p3] at hN'
    have HG := H'.grow ok' (by rw [p2]; omega) hN'
    have hK : ∀ j, (r.growN (n + 1)).K j = if j = (r.growN n).used + 1 then some [] else (r.growN n).K j := fun j => rfl
    have hpt : (r.growN (n + 1)).pth = (r.growN n).pth ++ [(r.growN n).used + 1] := rfl
    have hf := H'.fresh ok'
    have hpf : ∀ (k i : Nat), (r.growN n).pth[k]? = some i → i ≠ (r.growN n).used + 1 := by
      intro k i hk e
      have hkl := (List.getElem?_eq_some_iff.1 hk).1
      have := H'.pth k hkl
      rw [hk, e] at this
      exact hf _ this
    refine ⟨_, HG, fun t => ?_, fun i hi => ?_, fun k i hk => ?_, fun e => ?_⟩
    · show ne ((upN nd' (lastK h (r.growN n).pth.length) ((r.growN n).used + 1) t).bind (r.growN (n + 1)).K) = _
      rw [← hT t]
      unfold upN
      by_cases e : t = lastK h (r.growN n).pth.length
      · rw [if_pos e, e, hN']
        show ne ((r.growN (n + 1)).K ((r.growN n).used + 1)) = none
        rw [hK, if_pos rfl]
        rfl
      · rw [if_neg e]
        cases ht : nd' t with
        | none => rfl
        | some i =>
          show ne ((r.growN (n + 1)).K i) = ne ((r.growN n).K i)
          rw [hK, if_neg (fun e => hf t (by rw [ht, e]))]
    · rw [hK] at hi
      by_cases e : i = (r.growN n).used + 1
      · exact ⟨(r.growN n).pth.length, by rw [hpt, List.getElem?_append_right (Nat.le_refl _), e]; simp⟩
      · rw [if_neg e] at hi
        obtain ⟨k, hk⟩ := hE1 i hi
        exact ⟨k, by rw [hpt, List.getElem?_append_left (List.getElem?_eq_some_iff.1 hk).1]; exact hk⟩
    · rw [hpt] at hk
      rw [hK]
      by_cases e : k < (r.growN n).pth.length
      · rw [List.getElem?_append_left e] at hk
        rw [if_neg (hpf k i hk)]
        exact hE2 k i hk
      · rw [List.getElem?_append_right (by omega)] at hk
        have hki : k - (r.growN n).pth.length = 0 := by
          cases hq : k - (r.growN n).pth.length with
          | zero => rfl
          | succ m => rw [hq] at hk; simp at hk
        rw [hki] at hk
        simp at hk
        rw [if_pos hk.symm]
        exact ⟨fun _ => by omega, fun _ => rfl⟩
    · rw [show r.pth.length + (n + 1) = (r.growN n).pth.length + 1 by omega]
      have hle := H'.hle
      have hlt : (r.growN n).pth.length + 1 ≤ (r.growN n).hist.length := by rw [p2]; omega
      show upN nd' _ _ _ = none
      unfold upN
      rw [if_neg (fun e => by have := lastK_inj h (by omega) (by omega) e; omega), lastK_cons h (by omega) (by omega)]
      exact H'.suf _ _ hN'
end
end Go.Proofs.Ytjeppcaniafgpaa.Rx
