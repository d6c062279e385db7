/-
  A law for a region that draws its order: its first n operations only read, and all later ones wait for all of them. Then these n are walked in the text's order, and what is left goes on from there ('wpAny').
-/
import Derived.StillTail
import Derived.StillTactics
namespace Go.Proofs.Ythdjnbhdgacmgaa.Tail
open Go
variable {P : Program} {ops : Array Oper} {md : Region.Mode} {w : World}
/-- Each operation behind the n-th waits for one from the n-th on. -/
def laterB (md : Region.Mode) (ops : Array Oper) (n : Nat) : Bool :=
  (List.range ops.size).all fun t => decide (t ≤ n) || (List.range t).any fun u => decide (n ≤ u) && Region.waitsFor md ops t u
/-- The first ones can be taken in the text's order. -/
def headB (md : Region.Mode) (ops : Array Oper) : Nat → Nat → Array Bool → Bool
  | 0, _, _ => true
  | f + 1, k, s => (Region.ready md ops s).contains k && Region.free md ops s k && headB md ops f (k + 1) (s.setIfInBounds k true)
/-- What is marked behind the first ones. -/
def marked : Nat → Nat → Array Bool → Array Bool
  | 0, _, s => s
  | f + 1, k, s => marked f (k + 1) (s.setIfInBounds k true)
/-- All that the law asks of a region's text. -/
def tailB (ops : Array Oper) (n : Nat) : Bool :=
  Region.noSelect ops && decide (n < ops.size) && Region.sinkB .any ops n && laterB .any ops n && headB .any ops n 0 (Array.replicate ops.size false)
theorem not_ready {s : Array Bool} {t u : Nat} (h : Region.waitsFor md ops t u = true) (hu : s.getD u true = false) : t ∉ Region.ready md ops s := fun hr => by
  obtain ⟨_, ot, hot, hall⟩ := mem_ready.1 hr
  obtain ⟨o, ho, e, he, hb, hon⟩ := Region.waitsFor_spec h
  cases Option.some.inj (ho.symm.trans hot)
  have h2 := hall e he hb
  rw [hon, getD_both hu] at h2
  cases h2
/-- As long as one of the first ones is left, the n-th is not ready. -/
theorem gate {n : Nat} {s : Array Bool} (hs : Region.sinkB md ops n = true) (hn : n < ops.size) (inv : HeadInv md ops n s) : ∀ (d i : Nat), n ≤ i + d → i < n → s.getD i true = false → n ∉ Region.ready md ops s := by
  intro d
  induction d with
  | zero => intro i h1 h2; omega
  | succ d ih =>
    intro i h1 h2 hun
    obtain ⟨j, hj, hw⟩ := List.any_eq_true.1 (List.all_eq_true.1 hs i (List.mem_range.2 h2))
    simp only [Bool.and_eq_true, decide_eq_true_eq] at hw
    have hjn := List.mem_range.1 hj
    rcases Nat.lt_or_ge j n with hlt | hge
    · refine ih j (by omega) hlt (getD_in (by rw [inv.size]; omega) ?_)
      cases hl : s.getD j false with
      | false => rfl
      | true =>
        obtain ⟨oj, hoj, e, he, hb, hon⟩ := Region.waitsFor_spec hw.2
        have h3 := inv.closed j oj hoj hl e he hb
        rw [hon, getD_both hun] at h3
        cases h3
    · have hjn : j = n := by omega
      subst hjn
      exact not_ready hw.2 hun
theorem only_head {n : Nat} {s : Array Bool} (hs : Region.sinkB md ops n = true) (hl : laterB md ops n = true) (hn : n < ops.size) (inv : HeadInv md ops n s) {i : Nat} (hi : i < n) (hun : s.getD i true = false) : ∀ t ∈ Region.ready md ops s, t < n := by
  intro t ht
  rcases Nat.lt_or_ge t n with h | h
  · exact h
  · exfalso
    rcases Nat.eq_or_lt_of_le h with rfl | hgt
    · exact gate hs hn inv n i (by omega) hi hun ht
    · have hts : t < ops.size := by
        obtain ⟨_, ot, hot, _⟩ := mem_ready.1 ht
        exact (Array.getElem?_eq_some_iff.1 hot).1
      have h1 := List.all_eq_true.1 hl t (List.mem_range.2 hts)
      simp only [Bool.or_eq_true, decide_eq_true_eq] at h1
      rcases h1 with h1 | h1
      · omega
      · obtain ⟨u, hu, hw⟩ := List.any_eq_true.1 h1
        simp only [Bool.and_eq_true, decide_eq_true_eq] at hw
        have := List.mem_range.1 hu
        exact not_ready hw.2 (inv.tail u hw.1 (by omega)) ht
/-- One of the first ones is taken ahead of the others. -/
theorem one_first {n i : Nat} {oi : Oper} {v : Value} {L : Array Bool → Act → Prop} (hi : ops[i]? = some oi) (hsel : Region.noSelect ops = true)
    (only : ∀ s, HeadInv md ops n s → s.getD i true = false → ∀ t ∈ Region.ready md ops s, t < n) (hin : i < n)
    (hend : ∀ s a, L s a → ∀ t ∈ Region.ready md ops s, n ≤ t) :
    ∀ (f : Nat) (s : Array Bool) (a : Act), HeadInv md ops n s →
      (∀ j oj, ops[j]? = some oj → j ≠ i → s.getD j true = false → (∀ e ∈ oj.after, Region.binds md e = true → e.on ≠ i) → oi.apart ops oj = true) →
      i ∈ Region.ready md ops s → YieldsAt P ops w oi v a →
      wpAnyL P md ops w n L f (s.setIfInBounds i true) (a.put oi.dst v) → wpAnyL P md ops w n L (f + 1) s a := by
  intro f
  induction f with
  | zero =>
    intro s a inv _ hr hy H
    refine ⟨List.ne_nil_of_mem hr, fun j hj => ⟨only s inv (mem_ready.1 hr).1 j hj, ?_⟩⟩
    by_cases hji : j = i
    · subst hji; exact hy.stOp hi H
    · exact absurd (hend _ _ H j (ready_mono hj hji)) (Nat.not_le_of_lt (only s inv (mem_ready.1 hr).1 j hj))
  | succ f ih =>
    intro s a inv hfree hr hy H
    have hun := (mem_ready.1 hr).1
    refine ⟨List.ne_nil_of_mem hr, fun j hj => ⟨only s inv hun j hj, ?_⟩⟩
    by_cases hji : j = i
    · subst hji; exact hy.stOp hi H
    · obtain ⟨hjun, oj, hoj, hall⟩ := mem_ready.1 hj
      have hap : oi.apart ops oj = true := hfree j oj hoj hji hjun fun e he hb hon => by
        have h1 := hall e he hb
        rw [hon, getD_both hun] at h1
        cases h1
      have h2 := stOp_put hoj hap (fun cs b => Region.noSelect_spec hsel i oi cs b hi) (fun cs b => Region.noSelect_spec hsel j oj cs b hoj) hy (H.2 j (ready_mono hj hji)).2
      refine stOp_mono (fun a' h3 => ih _ a' (inv.set hj (only s inv hun j hj)) (fun k ok hk hki hkun => hfree k ok hk hki ?_) (ready_mono hr (Ne.symm hji)) h3.1 ?_) h2
      · by_cases hjk : j = k
        · subst hjk; exact hjun
        · rwa [getD_set_ne true hjk] at hkun
      · rw [Array.setIfInBounds_comm _ _ hji]
        exact h3.2
theorem marked_true : ∀ (f k : Nat) (s : Array Bool) (i : Nat), s.getD i true = true → (marked f k s).getD i true = true
  | 0, _, _, _, h => h
  | f + 1, k, s, i, h => marked_true f (k + 1) _ i (by
      by_cases hki : k = i
      · subst hki
        rcases Nat.lt_or_ge k s.size with h1 | h1
        · simp [h1]
        · simp
      · rwa [getD_set_ne true hki])
theorem marked_head : ∀ (f k : Nat) (s : Array Bool) (i : Nat), k ≤ i → i < k + f → (marked f k s).getD i true = true
  | 0, k, _, i, h1, h2 => by omega
  | f + 1, k, s, i, h1, h2 => by
    rcases Nat.eq_or_lt_of_le h1 with rfl | h
    · refine marked_true f (k + 1) _ k ?_
      rcases Nat.lt_or_ge k s.size with h3 | h3
      · simp [h3]
      · simp
    · exact marked_head f (k + 1) _ i h (by omega)
theorem head_walk {n : Nat} {Z : Array Bool} {Lq : Act → Prop} (hsel : Region.noSelect ops = true) (hs : Region.sinkB md ops n = true) (hl : laterB md ops n = true) (hn : n < ops.size)
    (hZ : ∀ i, i < n → Z.getD i true = true) :
    ∀ (l : List Oper) (k : Nat) (s : Array Bool) (a : Act), (∀ j, j < l.length → l[j]? = ops[k + j]?) → k + l.length = n → HeadInv md ops n s → marked l.length k s = Z →
    headB md ops l.length k s = true → wpStill P ops w Lq l a → wpAnyL P md ops w n (fun s' a' => s' = Z ∧ Lq a') l.length s a
  | [], _, _, _, _, _, _, hm, _, h => ⟨hm, h⟩
  | o :: l, k, s, a, hj, hk, inv, hm, hB, h => by
    have h0 : ops[k]? = some o := by simpa using (hj 0 (by simp)).symm
    simp only [List.length_cons] at hk hj
    simp only [List.length_cons, headB, Bool.and_eq_true] at hB
    obtain ⟨⟨hr, hf⟩, hB⟩ := hB
    have hr : k ∈ Region.ready md ops s := by simpa using hr
    have hst : stOp P ops w k (wpStill P ops w Lq l) a := by unfold stOp; simp only [h0]; exact h
    obtain ⟨v, hy, hK⟩ := yieldsAt_of_stOp h0 hst
    refine one_first h0 hsel (fun s' inv' hun => only_head hs hl hn inv' (by omega) hun) (by omega) (fun s' a' hL t ht => ?_) l.length s a inv (Region.free_spec h0 hf) hr hy
      (head_walk hsel hs hl hn hZ l (k + 1) _ _ (fun j hj' => by have := hj (j + 1) (by omega); simpa [Nat.add_assoc, Nat.add_comm 1 j] using this) (by omega) (inv.set hr (by omega)) hm hB hK)
    rcases Nat.lt_or_ge t n with h1 | h1
    · exfalso
      have h2 := (mem_ready.1 ht).1
      rw [hL.1, hZ t h1] at h2
      cases h2
    · exact h1
theorem region_tail {id : Nat} {Q : Exit → Act → World → Prop} {a : Act} {w : World} {l : List Oper} (n g : Nat) (Z : Array Bool) (hm : P.follows .mixedOrders = true) (hB : tailB l.toArray n = true) (hg : l.toArray.size = n + g)
    (hZ : marked n 0 (Array.replicate l.toArray.size false) = Z)
    (h : wpStill P l.toArray w.drew (fun a' => wpAny P .any l.toArray Q g Z a' w.drew) (l.take n) a) : (Code.region id l.toArray true).wp P Q a w := by
  simp only [tailB, Bool.and_eq_true, decide_eq_true_eq] at hB
  obtain ⟨⟨⟨⟨hsel, hn⟩, hs⟩, hl⟩, hh⟩ := hB
  have htl : (l.take n).length = n := by
    have : n < l.length := by simpa using hn
    simp; omega
  have inv0 : HeadInv .any l.toArray n (Array.replicate l.toArray.size false) :=
    ⟨by simp, fun j oj _ h1 => (by rw [getD_replicate_false] at h1; cases h1), fun t _ ht => getD_in (by simpa using ht) (getD_replicate_false _ _)⟩
  have H := head_walk (P := P) (w := w.drew) (md := .any) (Z := Z) (Lq := fun a' => wpAny P .any l.toArray Q g Z a' w.drew) hsel hs hl hn (fun i hi => by rw [← hZ]; exact marked_head n 0 _ i (Nat.zero_le _) (by omega)) (l.take n) 0 _ a (fun j hj => by
    have hj' : j < n := by rw [htl] at hj; exact hj
    simp [hj']) (by simpa using htl) inv0 (by rw [htl]; exact hZ) (by rw [htl]; exact hh) h
  refine wp_region_any hm ?_
  have H2 := wpAny_of_head (Q' := Q) (g := g) (fun s a' (hL : s = Z ∧ wpAny P .any l.toArray Q g Z a' w.drew) => by rw [hL.1]; exact hL.2) _ _ _ H
  rw [htl, ← hg] at H2
  exact H2
end Go.Proofs.Ythdjnbhdgacmgaa.Tail
