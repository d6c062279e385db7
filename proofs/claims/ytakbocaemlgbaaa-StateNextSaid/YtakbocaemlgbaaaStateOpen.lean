/-
  Opening arguments: a list of ints, read as data, is what the walks are told of it.
-/
import Derived.Test.YtakbocaemlgbaaaStateWalk
import Derived.Test.YtakbocaemlgbaaaRows
import Derived.Test.YtakbocaemlgbaaaOpen
import Derived.OpenShut
import Derived.ChangeAt
import Derived.WalkKit
import Derived.ProofKit
namespace Go.Proofs.Ytakbocaemlgbaaa.St
open Go.ChangeShapes Go.WideShapes Go.ChangeAt Go.RowKit
theorem laidOut4 : laidOutB Try.prog = true := by kernel_rfl
theorem open_ints {H : Type} {enc : TypeId × Value → H} {w : World} {base : Nat} {spare : Nat → Bool} {held : Bool} {a : Option Addr} {len cap : Nat} {d : DataW H} {p : List MemPlace}
    (h : DataW.Trod enc Try.prog w base spare held 39 (.slice a len cap) d p) : len ≤ maxLen ∧ IsInts w a len := by
  obtain ⟨fuel, hf⟩ := h
  rcases Go.Deep.open_slice1 Try.underlying39 (by kernel_rfl) hf with ⟨hcs, _⟩ | ⟨x, l, c, m, n, V, D, Pl, hcs, _, hl, hm, hmm, _, hi⟩
  · simp [Value.cells] at hcs
    obtain ⟨rfl, rfl, rfl⟩ := hcs
    exact ⟨by unfold maxLen; omega, .inl rfl⟩
  · simp [Value.cells] at hcs
    obtain ⟨rfl, rfl, rfl⟩ := hcs
    refine ⟨Nat.le_trans hl hm, ?_⟩
    by_cases h0 : len = 0
    · exact .inl h0
    · obtain ⟨b, off, spot⟩ := x
      have hlm : len ≤ m := by rw [hmm]; split <;> omega
      have hspot : spot = none := by
        obtain ⟨h1, h2⟩ := hi 0 (by omega)
        simpa [Addr.add] using World.cell?_spot h1
      subst hspot
      have key : ∀ i, i < len → ∃ x : Int, w.cell? ⟨b, off + i, none⟩ = some (.int .i64 x) := by
        intro i hlt
        obtain ⟨h1, h2⟩ := hi i (by omega)
        obtain ⟨n0, e0, _, e1⟩ := DataW.trod_int Try.underlying3 h2
        simp only [List.cons.injEq, and_true] at e0
        rw [addr_add, e0] at h1
        exact ⟨n0, h1⟩
      obtain ⟨x, hc⟩ := key 0 (by omega)
      exact .inr ⟨b, off, rfl, World.block_lt_of_cell? _ _ hc, key⟩
end Go.Proofs.Ytakbocaemlgbaaa.St
