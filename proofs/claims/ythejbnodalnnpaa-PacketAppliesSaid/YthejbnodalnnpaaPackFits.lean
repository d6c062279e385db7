/-
  Package packet: the contract of Fits.
-/
import Derived.Test.YthejbnodalnnpaaPackFitsA
import Derived.Test.YthejbnodalnnpaaPackFitsB
import Derived.Test.YthejbnodalnnpaaPackFitsC
import Derived.Deep.RegionWith
import Derived.Deep.RegionHeld3
namespace Go.Proofs.Ythejbnodalnnpaa.Pk
open Go.RowKit
theorem plain_kind {p : Pt} (h : p.plain = true) : p.k = 1 ∨ p.k = 2 ∨ p.k = 3 ∨ p.k = 4 := by
  unfold Pt.plain at h
  split at h
  · left; assumption
  · split at h
    · omega
    · split at h
      · omega
      · cases h
theorem fits_any (p : Pt) (hv : Int) (r : Rp) (w : World) :
    Calls Try.prog 71 #[p.val, .int .i64 hv, r.val] w fun x w' => x = .returned (fitVal r (p.fit hv r)) ∧ Below w.heap.size w w' := by
  obtain ⟨k, d, n, b⟩ := p
  obtain ⟨r0, r1, r2, r3⟩ := r
  cases hpl : (⟨k, d, n, b⟩ : Pt).plain with
  | false =>
    rw [show (⟨k, d, n, b⟩ : Pt).fit hv ⟨r0, r1, r2, r3⟩ = none by unfold Pt.fit; rw [if_pos hpl]]
    exact fits_bad k d n b hv r0 r1 r2 r3 w hpl
  | true =>
    rcases plain_kind hpl with h | h | h | h
    · simp only at h
      subst h
      rw [show (⟨1, d, n, b⟩ : Pt).fit hv ⟨r0, r1, r2, r3⟩ = some (0, 1, ⟨r0, r1, r2, r3⟩) by unfold Pt.fit; rw [if_neg (by rw [hpl]; simp)]; rfl]
      exact fits_lit d n b hv r0 r1 r2 r3 w hpl
    · simp only at h
      subst h
      have e : (⟨2, d, n, b⟩ : Pt).fit hv ⟨r0, r1, r2, r3⟩ = if 1 ≤ d ∧ d ≤ min hv 1048576 ∧ lenB n = true then some (d, n, (⟨r0, r1, r2, r3⟩ : Rp).push d) else none := by unfold Pt.fit; rw [if_neg (by rw [hpl]; simp)]; rfl
      rw [e]
      by_cases c1 : 1 ≤ d
      · by_cases c2 : d ≤ min hv 1048576
        · cases c3 : lenB n with
          | false => rw [if_neg (by simp)]; exact fits_match_len d n b hv r0 r1 r2 r3 w hpl c1 (by omega) (by omega) c3
          | true => rw [if_pos ⟨c1, c2, rfl⟩]; exact fits_match d n b hv r0 r1 r2 r3 w hpl c1 (by omega) (by omega) c3
        · rw [if_neg (by omega)]; exact fits_match_far2 d n b hv r0 r1 r2 r3 w hpl c1 c2
      · rw [if_neg (by omega)]; exact fits_match_far1 d n b hv r0 r1 r2 r3 w hpl c1
    · simp only at h
      subst h
      have e : (⟨3, d, n, b⟩ : Pt).fit hv ⟨r0, r1, r2, r3⟩ = if (0 ≤ d ∧ d < 4) ∧ (⟨r0, r1, r2, r3⟩ : Rp).at d ≤ hv ∧ lenB n = true then some ((⟨r0, r1, r2, r3⟩ : Rp).at d, n, (⟨r0, r1, r2, r3⟩ : Rp).front d) else none := by unfold Pt.fit; rw [if_neg (by rw [hpl]; simp)]; rfl
      rw [e]
      by_cases c1 : 0 ≤ d ∧ d < 4
      · rcases (show d = 0 ∨ d = 1 ∨ d = 2 ∨ d = 3 by omega) with rfl | rfl | rfl | rfl
        · by_cases c2 : r0 ≤ hv
          · cases c3 : lenB n with
            | false => rw [if_neg (by simp)]; exact fits_rep_len0 n b hv r0 r1 r2 r3 w hpl c2 c3
            | true => rw [if_pos ⟨c1, c2, rfl⟩]; exact fits_rep0 n b hv r0 r1 r2 r3 w hpl c2 c3
          · rw [if_neg (fun h => c2 h.2.1)]; exact fits_rep_far0 n b hv r0 r1 r2 r3 w hpl c2
        · by_cases c2 : r1 ≤ hv
          · cases c3 : lenB n with
            | false => rw [if_neg (by simp)]; exact fits_rep_len1 n b hv r0 r1 r2 r3 w hpl c2 c3
            | true => rw [if_pos ⟨c1, c2, rfl⟩]; exact fits_rep1 n b hv r0 r1 r2 r3 w hpl c2 c3
          · rw [if_neg (fun h => c2 h.2.1)]; exact fits_rep_far1 n b hv r0 r1 r2 r3 w hpl c2
        · by_cases c2 : r2 ≤ hv
          · cases c3 : lenB n with
            | false => rw [if_neg (by simp)]; exact fits_rep_len2 n b hv r0 r1 r2 r3 w hpl c2 c3
            | true => rw [if_pos ⟨c1, c2, rfl⟩]; exact fits_rep2 n b hv r0 r1 r2 r3 w hpl c2 c3
          · rw [if_neg (fun h => c2 h.2.1)]; exact fits_rep_far2 n b hv r0 r1 r2 r3 w hpl c2
        · by_cases c2 : r3 ≤ hv
          · cases c3 : lenB n with
            | false => rw [if_neg (by simp)]; exact fits_rep_len3 n b hv r0 r1 r2 r3 w hpl c2 c3
            | true => rw [if_pos ⟨c1, c2, rfl⟩]; exact fits_rep3 n b hv r0 r1 r2 r3 w hpl c2 c3
          · rw [if_neg (fun h => c2 h.2.1)]; exact fits_rep_far3 n b hv r0 r1 r2 r3 w hpl c2
      · rw [if_neg (fun h => c1 h.1)]; exact fits_rep_out d n b hv r0 r1 r2 r3 w hpl c1
    · simp only at h
      subst h
      have e : (⟨4, d, n, b⟩ : Pt).fit hv ⟨r0, r1, r2, r3⟩ = if r0 ≤ hv then some (r0, 1, ⟨r0, r1, r2, r3⟩) else none := by unfold Pt.fit; rw [if_neg (by rw [hpl]; simp)]; rfl
      rw [e]
      by_cases c1 : r0 ≤ hv
      · rw [if_pos c1]; exact fits_short d n b hv r0 r1 r2 r3 w hpl c1
      · rw [if_neg c1]; exact fits_short_far d n b hv r0 r1 r2 r3 w hpl c1
end Go.Proofs.Ythejbnodalnnpaa.Pk
