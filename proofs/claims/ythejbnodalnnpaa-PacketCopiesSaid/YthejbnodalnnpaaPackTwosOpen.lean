/-
  Opening arguments: a list of arrays of two that came in, read as data, is what the walks are told of it.
-/
import Derived.Test.YthejbnodalnnpaaPackCopiesWalk
import Derived.Test.YthejbnodalnnpaaRows
import Derived.Test.YthejbnodalnnpaaOpen
import Derived.OpenShut
import Derived.ChangeArms
namespace Go.Proofs.Ythejbnodalnnpaa.Pk
open Go.ChangeShapes Go.WideShapes Go.ChangeAt Go.RowKit
theorem laidOut : laidOutB Try.prog = true := by kernel_rfl
theorem cells2 : Try.prog.cellsOf 87 = 2 := by kernel_rfl
theorem cells16 : Try.prog.cellsOf 86 = 1 := by kernel_rfl
/-- The cells of an array that is read. -/
theorem arr_cell {P : Program} {H : Type} {enc : TypeId × Value → H} {w : World} {base : Nat} {spare : Nat → Bool} {held : Bool} {t e : TypeId} {N : Nat} {k : IntKind} {a : Addr} {fuel : Nat} {cs : List Value} {x : DataW H × List MemPlace} (hu : P.underlying t = some (.array N e)) (he : P.underlying e = some (.int k)) (cN : P.cellsOf t = N) (c1 : P.cellsOf e = 1)
    (hc : w.cells? base a (P.cellsOf t) = some cs) (ht : DataW.trod enc P w base spare held fuel t cs = some x) (j : Nat) (hj : j < N) : ∃ n, w.cell? (a.add j) = some (.int k n) ∧ (Lit.int k n).wf = true := by
  obtain ⟨_, hl, hcell⟩ := World.cells?_some hc
  obtain ⟨xs, m, _, _, hlen, hxl, hel⟩ := DataW.trod_array hu ht
  have h := hel j hj
  have hjc : j < cs.length := by omega
  rw [c1, Nat.mul_one, List.drop_eq_getElem_cons hjc, List.take_succ_cons, List.take_zero, List.getElem?_eq_getElem (by omega)] at h
  obtain ⟨n, h3, _, h4⟩ := DataW.trod_int he h
  simp only [List.cons.injEq, and_true] at h3
  exact ⟨n, by rw [hcell j (by omega), List.getElem?_eq_getElem hjc, h3], h4⟩
theorem open_twos {H : Type} {enc : TypeId × Value → H} {w : World} {base : Nat} {spare : Nat → Bool} {held : Bool} {a : Option Addr} {len cap : Nat} {d : DataW H} {p : List MemPlace}
    (h : DataW.Trod enc Try.prog w base spare held 85 (.slice a len cap) d p) : IsTwos w a len := by
  obtain ⟨fuel, hf⟩ := h
  rcases Go.Deep.open_slice Try.underlying85 hf with ⟨hcs, _⟩ | ⟨x, l, c, m, n, D, Pl, hcs, _, hl, hm, hmm, _, hi⟩
  · simp [Value.cells] at hcs
    obtain ⟨rfl, rfl, rfl⟩ := hcs
    exact ⟨by unfold maxLen; omega, .inl rfl⟩
  · simp [Value.cells] at hcs
    obtain ⟨rfl, rfl, rfl⟩ := hcs
    refine ⟨Nat.le_trans hl hm, ?_⟩
    by_cases h0 : len = 0
    · exact .inl h0
    · obtain ⟨b, off, spot⟩ := x
      have hlm : len ≤ m := by rw [hmm]; split <;> omega
      have hspot : spot = none := by
        obtain ⟨cs, h1, h2⟩ := hi 0 (by omega)
        obtain ⟨n0, hn0, _⟩ := arr_cell Try.underlying87 Try.underlying86 cells2 cells16 h1 h2 0 (by omega)
        simpa [Addr.add] using World.cell?_spot hn0
      subst hspot
      have key : ∀ i, i < len → ∃ x y : Nat, w.cell? ⟨b, off + i * 2, none⟩ = some (.int .u16 (x : Int)) ∧ w.cell? ⟨b, off + i * 2 + 1, none⟩ = some (.int .u16 (y : Int)) ∧ x < 65536 ∧ y < 65536 := by
        intro i hlt
        obtain ⟨cs, h1, h2⟩ := hi i (by omega)
        obtain ⟨n0, hn0, e0⟩ := arr_cell Try.underlying87 Try.underlying86 cells2 cells16 h1 h2 0 (by omega)
        obtain ⟨n1, hn1, e1⟩ := arr_cell Try.underlying87 Try.underlying86 cells2 cells16 h1 h2 1 (by omega)
        rw [cells2, addr_add, addr_add] at hn0 hn1
        have b0 := wf_u16 e0
        have b1 := wf_u16 e1
        obtain ⟨x0, rfl⟩ := Int.eq_ofNat_of_zero_le b0.1
        obtain ⟨x1, rfl⟩ := Int.eq_ofNat_of_zero_le b1.1
        exact ⟨x0, x1, hn0, hn1, by omega, by omega⟩
      obtain ⟨x, y, hc, _⟩ := key 0 (by omega)
      exact .inr ⟨b, off, rfl, World.block_lt_of_cell? _ _ hc, key⟩
end Go.Proofs.Ythejbnodalnnpaa.Pk
