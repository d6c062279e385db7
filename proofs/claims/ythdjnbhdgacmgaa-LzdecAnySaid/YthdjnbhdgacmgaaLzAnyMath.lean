/-
  Layer 11's statement LzdecAny, plain mathematics: what is told tells a text of just so many bytes.
-/
import Derived.Test.YthdjnbhdgacmgaaLzEnd
set_option linter.unusedVariables false
namespace Go.Proofs.Ythdjnbhdgacmgaa.Lz
open Go.RowKit
open Rc Mo
open Pk (Rp Pt applyL applyL_more fit_some)
theorem apply_tell {n M : Int} {m : Ms} {p : Pt} {y : Int × Int × Rp} (h : fitM n m p = some y) (hn : n ≤ M) (hM : 0 ≤ M) (hr : m.r.pos) (k : List Pt) : applyL M.toNat (p :: k) m.l m.r = applyL M.toNat k (m.tell p y).l (m.tell p y).r := by
  obtain ⟨d, n', s⟩ := y
  obtain ⟨h1, h2⟩ := fitM_some h
  obtain ⟨_, h4⟩ := fit_some h1 hr
  have ht : p.tell M.toNat m.l d n' = some (m.tell p (d, n', s)).l := by
    simp only at h2
    rcases h4 with ⟨hk, rfl⟩ | ⟨hk, h5, h6, h7, _⟩
    · unfold Pk.Pt.tell
      rw [if_pos hk, if_pos (by omega)]
      simp only [Ms.tell, if_pos hk]
    · unfold Pk.Pt.tell
      rw [if_neg hk, if_pos (by omega)]
      simp only [Ms.tell, if_neg hk]
  rw [applyL_more h1 ht]
  rfl
theorem decR_tells {n most M : Int} (hn : most ≤ M) (hM : 0 ≤ M) : ∀ (f : Nat) (m : Ms) (d : Ds) (acc : List Pt) (m' : Ms) (acc' : List Pt), m.r.pos → (m.l.length : Int) ≤ max most 0 → acc.length ≤ m.l.length → (∀ k, applyL M.toNat (acc ++ k) [] ⟨1, 1, 1, 1⟩ = applyL M.toNat k m.l m.r) → decR n most f m d acc = some (m', acc') →
    applyL M.toNat acc' [] ⟨1, 1, 1, 1⟩ = (m'.l, 0) ∧ (m'.l.length : Int) ≤ max most 0 ∧ acc'.length ≤ m'.l.length ∧ (n < 0 ∨ n ≤ (m'.l.length : Int))
  | 0, _, _, _, _, _, _, _, _, _, h => by simp [decR] at h
  | f + 1, m, d, acc, m', acc', hr, hl, ha, ht, h => by
    have hend : ∀ m2, m2 = m → applyL M.toNat acc [] ⟨1, 1, 1, 1⟩ = (m2.l, 0) := fun m2 e => by
      have := ht []
      rw [List.append_nil] at this
      rw [this, applyL, e]
    by_cases hc : lacksB n m = true ∧ d.d.bad = false
    · obtain ⟨g, hg⟩ : ∃ g, g = got most m (d.codeP m).pt := ⟨_, rfl⟩
      obtain ⟨p, e, k, m2⟩ := g
      have hg := hg.symm
      cases k with
      | false => rw [decR_no hc hg] at h; cases h
      | true =>
        cases e with
        | true =>
          rw [decR_end hc hg] at h
          split at h
          · rename_i hh
            simp only [Option.some.injEq, Prod.mk.injEq] at h
            obtain ⟨rfl, rfl⟩ := h
            have hm : m2 = m := by
              unfold got at hg
              split at hg
              · simp only [Prod.mk.injEq] at hg; exact hg.2.2.2.symm
              · split at hg <;> simp at hg
            subst hm
            exact ⟨hend _ rfl, hl, ha, .inl hh.1⟩
          · cases h
        | false =>
          rw [decR_more hc hg] at h
          obtain ⟨y, hy, rfl, _⟩ := got_more hg hr
          obtain ⟨g1, g2, g3⟩ := tell_grows hy hr
          refine decR_tells hn hM f _ _ _ _ _ g3 (by omega) (by simp; omega) (fun k => ?_) h
          rw [List.append_assoc, ht]
          exact apply_tell hy hn hM hr k
    · rw [decR_stop hc] at h
      split at h
      · rename_i ho
        simp only [Option.some.injEq, Prod.mk.injEq] at h
        obtain ⟨rfl, rfl⟩ := h
        refine ⟨hend _ rfl, hl, ha, ?_⟩
        have hb : d.d.bad = false := by unfold over at ho; simp at ho; exact ho.2
        have hlk : lacksB n m = false := by
          cases hx : lacksB n m with
          | false => rfl
          | true => exact absurd ⟨hx, hb⟩ hc
        unfold lacksB at hlk
        simp at hlk
        exact .inr (by omega)
      · cases h
/-- What is read tells a text of just so many bytes. -/
theorem read_tells {lc lp pb : Nat} {s : ByteArray} {n most : Int} {m : Ms} {acc : List Pt} (h0 : 0 ≤ most) (hn : n ≤ most) (h : readR lc lp pb s n most = some (m, acc)) :
    applyL most.toNat acc [] ⟨1, 1, 1, 1⟩ = (m.l, 0) ∧ (m.l.length : Int) ≤ most ∧ acc.length ≤ m.l.length ∧ (n < 0 ∨ (m.l.length : Int) = n) := by
  unfold readR at h
  have hmo : mostOf n most ≤ most := by unfold mostOf; split <;> omega
  obtain ⟨h1, h2, h3, h4⟩ := decR_tells hmo h0 _ _ _ _ _ _ (by unfold mNew Pk.Rp.pos; simp) (by show ((0 : Nat) : Int) ≤ _; omega) (Nat.le_refl _) (fun k => rfl) h
  refine ⟨h1, by omega, h3, ?_⟩
  rcases h4 with h4 | h4
  · exact .inl h4
  · by_cases hz : n < 0
    · exact .inl hz
    · right
      have e : mostOf n most = n := by unfold mostOf; rw [if_neg hz]
      rw [e] at h2
      omega
end Go.Proofs.Ythdjnbhdgacmgaa.Lz
