/-
  Plain mathematics of layer 7: what is found rises.
-/
import Derived.Test.YthdjnbhdgacmgaaChainNext
namespace Go.Proofs.Ythdjnbhdgacmgaa.Ch
open Mt
theorem foundL_rising (s : ByteArray) (window cut : Int) (p : Nat) : Rising (bt s) p (min (s.size - p) 273) window 2 0 (foundL s window cut p) := by
  by_cases h : p + 3 ≤ s.size
  · unfold foundL
    rw [decide_eq_true h]
    have := refL_rising (bt s) p (min (s.size - p) 273) true window cut (by omega) p 0 0 (Nat.le_refl _)
    rw [Nat.sub_self] at this
    exact this
  · rw [foundL_none h]
    trivial
theorem foundL_cut (s : ByteArray) (window cut : Int) (p : Nat) : (foundL s window cut p).length ≤ cut.toNat := by
  unfold foundL
  have := refL_cut (bt s) p (min (s.size - p) 273) (decide (p + 3 ≤ s.size)) window cut p 0 0
  simpa using this
theorem Rising.at : ∀ {b : Nat → Nat} {p most : Nat} {window : Int} {n0 d0 : Nat} {l : List (Nat × Nat)}, Rising b p most window n0 d0 l → ∀ i (h : i < l.length),
    n0 < l[i].1 ∧ l[i].1 ≤ most ∧ d0 < l[i].2 ∧ l[i].2 ≤ p ∧ (l[i].2 : Int) ≤ window ∧ (∀ j, j < l[i].1 → b (p + j) = b (p + j - l[i].2)) ∧ ∀ (h0 : 0 < i), l[i - 1].1 < l[i].1 ∧ l[i - 1].2 < l[i].2
  | _, _, _, _, _, _, [], _, i, h => by simp at h
  | _, _, _, _, _, _, x :: l, ⟨h1, h2, h3, h4, h5, h6, _⟩, 0, _ => ⟨h1, h2, h3, h4, h5, h6, fun h0 => by omega⟩
  | _, _, _, _, _, _, x :: l, ⟨h1, h2, h3, h4, h5, h6, h7⟩, i + 1, h => by
    have hi : i < l.length := by simpa using h
    obtain ⟨g1, g2, g3, g4, g5, g6, g7⟩ := Rising.at h7 i hi
    refine ⟨?_, g2, ?_, g4, g5, g6, fun _ => ?_⟩
    · show _ < l[i].1; omega
    · show _ < l[i].2; omega
    · cases i with
      | zero => exact ⟨g1, g3⟩
      | succ i => exact g7 (by omega)
end Go.Proofs.Ythdjnbhdgacmgaa.Ch
