/-
  Package packet: Repeat of two packets (those of the statements' first lines).
-/
import Derived.Test.YthdjnbhdgacmgaaPackRepeat
import Derived.Test.YthdjnbhdgacmgaaPackRepsWalk
namespace Go.Proofs.Ythdjnbhdgacmgaa.Pk
open Go.RowKit
theorem repL_pp : repL pp 0 ⟨1, 1, 1, 1⟩ ⟨1, 1, 1, 1⟩ = [⟨1, 0, 0, 97⟩, ⟨3, 0, 3, 0⟩] := by kernel_rfl
theorem repeat_pp : Rep1 := fun W X h => by
  have hh : ∀ i (hi : i < pp.length), IsPt W X (0 + i * 4) pp[i] := by
    rcases h with h | ⟨b, off, e, h⟩
    · simp [pp] at h
    · simp only [Option.some.injEq, Addr.mk.injEq, and_true] at e
      obtain ⟨rfl, rfl⟩ := e
      exact h
  refine (show Calls Try.prog 49 #[.slice (some ⟨X, 0, none⟩) 2 2] W _ from repeat_more hh (by decide) (by decide) 2).mono fun x w' ⟨Z, hx, hb, hz, ho⟩ => ⟨Z, hx, hb, hz, ?_⟩
  rw [repL_pp] at ho
  obtain ⟨arr, g1, g2, g3⟩ := ho
  obtain ⟨q0, q1, q2, q3⟩ := g3 1 (by decide)
  refine ⟨?_, ?_, ?_, ?_⟩
  · simp only [World.cell?, g1]; exact q0
  · simp only [World.cell?, g1]; exact q1
  · simp only [World.cell?, g1]; exact q2
  · simp only [World.cell?, g1]; exact q3
end Go.Proofs.Ythdjnbhdgacmgaa.Pk
