/-
  Opening arguments: an array of four integers.
-/
import Derived.Test.YthejbnodalnnpaaRows
import Derived.Test.YthejbnodalnnpaaOpen
import Derived.OpenShut
import Derived.ChangeAt
import Derived.WalkKit
import Derived.ProofKit
namespace Go.Proofs.Ythejbnodalnnpaa.Pk
open Go.ChangeShapes Go.WideShapes Go.ChangeAt Go.RowKit
theorem laidOut4 : laidOutB Try.prog = true := by kernel_rfl
theorem cells4 : Try.prog.cellsOf 77 = 4 := by kernel_rfl
theorem cells1 : Try.prog.cellsOf 3 = 1 := by kernel_rfl
theorem open_four_gen {P : Program} {t e : TypeId} (hu : P.underlying t = some (.array 4 e)) (he : P.underlying e = some (.int .i64)) (c4 : P.cellsOf t = 4) (c1 : P.cellsOf e = 1)
    {H : Type} {enc : TypeId × Value → H} {w W : World} {base b0 : Nat} {spare : Nat → Bool} {held : Bool} {v : Value} {d : DataW H} {p : List MemPlace} {r : Reach}
    (hk : Value.okWide P W r b0 t v) (h : DataW.Trod enc P w base spare held t v d p) : ∃ a b c e : Int, v = .agg #[.int .i64 a, .int .i64 b, .int .i64 c, .int .i64 e] := by
  simp only [Value.okWide, hu] at hk
  obtain ⟨cs, rfl, h2, _⟩ := hk
  obtain ⟨fuel, hf⟩ := h
  obtain ⟨xs, m, _, ex, hlen, hl, hel⟩ := DataW.trod_array hu hf
  obtain ⟨l⟩ := cs
  rw [c4] at hlen
  match l, hlen with
  | [a, b, c, f], _ =>
    match xs, hl with
    | [x0, x1, x2, x3], _ =>
      have k0 := hel 0 (by omega); have k1 := hel 1 (by omega); have k2 := hel 2 (by omega); have k3 := hel 3 (by omega)
      rw [c1] at k0 k1 k2 k3
      obtain ⟨z0, a0, _, _⟩ := DataW.trod_int he k0
      obtain ⟨z1, a1, _, _⟩ := DataW.trod_int he k1
      obtain ⟨z2, a2, _, _⟩ := DataW.trod_int he k2
      obtain ⟨z3, a3, _, _⟩ := DataW.trod_int he k3
      refine ⟨z0, z1, z2, z3, ?_⟩
      simp [Value.cells] at a0 a1 a2 a3
      simp [a0, a1, a2, a3]
end Go.Proofs.Ythejbnodalnnpaa.Pk
