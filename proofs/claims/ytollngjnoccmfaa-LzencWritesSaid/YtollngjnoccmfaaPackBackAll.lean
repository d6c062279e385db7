/-
  The reference of layer 6: contract of Back, by what fits.
-/
import Derived.Test.YtollngjnoccmfaaPackBackX
import Derived.Test.YtollngjnoccmfaaPackBackY
namespace Go.Proofs.Ytollngjnoccmfaa.Pk
open Go.RowKit
def BackFit (w : World) (f : Option (Int × Int × Rp)) (x : Ending) (w' : World) : Prop := ∃ d n s, BackTo w d n s f.isSome x w' ∧ ∀ y, f = some y → y = (d, n, s)
theorem back_none {w : World} {P : Program} {fn : FuncId} {args : Array Value} {d n : Int} {s : Rp} {f : Option (Int × Int × Rp)} (hf : f = none) (h : Calls P fn args w (BackTo w d n s false)) : Calls P fn args w (BackFit w f) := by
  subst hf
  exact h.mono fun x w' hx => ⟨d, n, s, hx, fun y hy => by cases hy⟩
theorem back_some {w : World} {P : Program} {fn : FuncId} {args : Array Value} {d n : Int} {s : Rp} {f : Option (Int × Int × Rp)} (hf : f = some (d, n, s)) (h : Calls P fn args w (BackTo w d n s true)) : Calls P fn args w (BackFit w f) := by
  subst hf
  exact h.mono fun x w' hx => ⟨d, n, s, hx, fun y hy => by cases hy; rfl⟩
theorem fit_match_no {d n hv : Int} {r : Rp} (hp : (⟨2, d, n, 0⟩ : Pt).plain = true) (h : ¬ (1 ≤ d ∧ d ≤ min hv 1048576 ∧ lenB n = true)) : (⟨2, d, n, 0⟩ : Pt).fit hv r = none := by
  unfold Pt.fit
  rw [hp, if_neg (by simp)]
  simp only
  rw [if_neg (by omega), if_pos trivial, if_neg h]
theorem fit_rep_no {d n hv : Int} {r : Rp} (hp : (⟨3, d, n, 0⟩ : Pt).plain = true) (h : ¬ ((0 ≤ d ∧ d < 4) ∧ r.at d ≤ hv ∧ lenB n = true)) : (⟨3, d, n, 0⟩ : Pt).fit hv r = none := by
  unfold Pt.fit
  rw [hp, if_neg (by simp)]
  simp only
  rw [if_neg (by omega), if_neg (by omega), if_pos trivial, if_neg h]
theorem back_fit (p : Pt) (hv : Int) (r : Rp) (w : World) (hk : p.k ≠ 1) :
    Calls Try.prog 47 #[.agg #[.int .i64 p.k, .int .i64 p.d, .int .i64 p.n, .int .u8 (p.b : Int)], .int .i64 hv, .agg #[.int .i64 r.a, .int .i64 r.b, .int .i64 r.c, .int .i64 r.d]] w (BackFit w (p.fit hv r)) := by
  obtain ⟨k, d, n, b⟩ := p
  obtain ⟨r0, r1, r2, r3⟩ := r
  simp only at hk ⊢
  by_cases hb : b = 0
  · subst hb
    have b0 : (((0 : Nat) : Int) != 0) = false := by decide
    by_cases h2 : k = 2
    · subst h2
      have hp : (⟨2, d, n, 0⟩ : Pt).plain = true := by simp [Pt.plain]
      by_cases c1 : 1 ≤ d
      · by_cases c2 : d ≤ hv
        · by_cases c3 : d ≤ 1048576
          · by_cases c4 : 2 ≤ n
            · by_cases c5 : n ≤ 273
              · refine back_some ?_ (back_match5 d n 0 hv r0 r1 r2 r3 w b0 (by simpa using c1) (by simpa using c2) (by simpa using c3) (by simpa using c4) (by simpa using c5))
                have hc : 1 ≤ d ∧ d ≤ min hv 1048576 ∧ lenB n = true := ⟨c1, by omega, by unfold lenB; simp; omega⟩
                unfold Pt.fit
                rw [hp, if_neg (by simp)]
                simp only
                rw [if_neg (by omega), if_pos trivial, if_pos hc]
                rfl
              · exact back_none (fit_match_no hp (by unfold lenB; simp; omega)) (back_match4 d n 0 hv r0 r1 r2 r3 w b0 (by simpa using c1) (by simpa using c2) (by simpa using c3) (by simpa using c4) (by simpa using c5))
            · exact back_none (fit_match_no hp (by unfold lenB; simp; omega)) (back_match3 d n 0 hv r0 r1 r2 r3 w b0 (by simpa using c1) (by simpa using c2) (by simpa using c3) (by simpa using c4))
          · exact back_none (fit_match_no hp (by omega)) (back_match2 d n 0 hv r0 r1 r2 r3 w b0 (by simpa using c1) (by simpa using c2) (by simpa using c3))
        · exact back_none (fit_match_no hp (by omega)) (back_match1 d n 0 hv r0 r1 r2 r3 w b0 (by simpa using c1) (by simpa using c2))
      · exact back_none (fit_match_no hp (by omega)) (back_match0 d n 0 hv r0 r1 r2 r3 w b0 (by simpa using c1))
    · by_cases h3 : k = 3
      · subst h3
        have hp : (⟨3, d, n, 0⟩ : Pt).plain = true := by simp [Pt.plain]
        by_cases e0 : d < 0
        · exact back_none (fit_rep_no hp (by omega)) (back_low d n 0 hv r0 r1 r2 r3 w b0 (by simpa using e0))
        · by_cases e4 : 3 < d
          · exact back_none (fit_rep_no hp (by omega)) (back_high d n 0 hv r0 r1 r2 r3 w b0 (by simpa using e0) (by simpa using e4))
          · by_cases c1 : (⟨r0, r1, r2, r3⟩ : Rp).at d ≤ hv
            · by_cases c2 : 2 ≤ n
              · by_cases c3 : n ≤ 273
                · refine back_some ?_ (back_rep3 d n 0 hv r0 r1 r2 r3 w b0 (by omega) (by omega) _ rfl _ rfl (by simpa using c1) (by simpa using c2) (by simpa using c3))
                  have hc : (0 ≤ d ∧ d < 4) ∧ (⟨r0, r1, r2, r3⟩ : Rp).at d ≤ hv ∧ lenB n = true := ⟨by omega, c1, by unfold lenB; simp; omega⟩
                  unfold Pt.fit
                  rw [hp, if_neg (by simp)]
                  simp only
                  rw [if_neg (by omega), if_neg (by omega), if_pos trivial, if_pos hc]
                · exact back_none (fit_rep_no hp (by unfold lenB; simp; omega)) (back_rep2 d n 0 hv r0 r1 r2 r3 w b0 (by omega) (by omega) _ rfl _ rfl (by simpa using c1) (by simpa using c2) (by simpa using c3))
              · exact back_none (fit_rep_no hp (by unfold lenB; simp; omega)) (back_rep1 d n 0 hv r0 r1 r2 r3 w b0 (by omega) (by omega) _ rfl _ rfl (by simpa using c1) (by simpa using c2))
            · exact back_none (fit_rep_no hp (by omega)) (back_rep0 d n 0 hv r0 r1 r2 r3 w b0 (by omega) (by omega) _ rfl _ rfl (by simpa using c1))
      · by_cases h4 : k = 4
        · subst h4
          by_cases c1 : r0 ≤ hv
          · by_cases c2 : d = 0
            · by_cases c3 : n = 0
              · subst c2
                subst c3
                exact back_some (by simp [Pt.fit, Pt.plain, c1]) (back_short3 0 0 0 hv r0 r1 r2 r3 w b0 (by simpa using c1) (by simp) (by simp))
              · exact back_none (by simp [Pt.fit, Pt.plain, c3]) (back_short2 d n 0 hv r0 r1 r2 r3 w b0 (by simpa using c1) (by simpa using c2) (by simpa using c3))
            · exact back_none (by simp [Pt.fit, Pt.plain, c2]) (back_short1 d n 0 hv r0 r1 r2 r3 w b0 (by simpa using c1) (by simpa using c2))
          · refine back_none ?_ (back_short0 d n 0 hv r0 r1 r2 r3 w b0 (by simpa using c1))
            simp [Pt.fit, Pt.plain]
            omega
        · exact back_none (by simp [Pt.fit, Pt.plain, hk, h2, h3, h4]) (back_kind k d n 0 hv r0 r1 r2 r3 w b0 (by simpa using h2) (by simpa using h3) (by simpa using h4))
  · refine back_none ?_ (back_b k d n b hv r0 r1 r2 r3 w (by simp; omega))
    have hp : (⟨k, d, n, b⟩ : Pt).plain = false := by
      simp only [Pt.plain, hk, if_false]
      split
      · simp [hb]
      · split <;> simp [hb]
    unfold Pt.fit
    rw [hp]
    rfl
end Go.Proofs.Ytollngjnoccmfaa.Pk
