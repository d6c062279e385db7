/-
  Opening arguments: a list of packets that came in, read as data, is what the walks are told of it.
-/
import Derived.Test.YthejbnodalnnpaaPackAppliesWalk
import Derived.Test.YthejbnodalnnpaaRows
import Derived.Test.YthejbnodalnnpaaOpen
import Derived.OpenShut
import Derived.ChangeArms
namespace Go.Proofs.Ythejbnodalnnpaa.Pk
open Go.ChangeShapes Go.WideShapes Go.ChangeAt Go.RowKit
theorem laidOut : laidOutB Try.prog = true := by kernel_rfl
theorem cellsLp : Try.prog.cellsOf 131 = 4 := by kernel_rfl
theorem open_pts {H : Type} {enc : TypeId × Value → H} {w : World} {base : Nat} {spare : Nat → Bool} {held : Bool} {a : Option Addr} {len cap : Nat} {d : DataW H} {p : List MemPlace}
    (h : DataW.Trod enc Try.prog w base spare held 60 (.slice a len cap) d p) : ∃ ps : List Pt, ps.length = min len 60 ∧ IsPts w a ps ∧ (∀ q ∈ ps, q.b < 256) ∧ len ≤ maxLen := by
  obtain ⟨fuel, hf⟩ := h
  rcases Go.Deep.open_slice Try.underlying60 hf with ⟨hcs, _⟩ | ⟨x, l, c, m, n, D, Pl, hcs, _, hl, hm, hmm, _, hi⟩
  · simp [Value.cells] at hcs
    obtain ⟨rfl, rfl, rfl⟩ := hcs
    exact ⟨[], by simp, .inl rfl, by simp, by unfold maxLen; omega⟩
  · simp [Value.cells] at hcs
    obtain ⟨rfl, rfl, rfl⟩ := hcs
    by_cases h0 : len = 0
    · subst h0
      exact ⟨[], by simp, .inl rfl, by simp, by unfold maxLen; omega⟩
    · obtain ⟨b, off, spot⟩ := x
      have hlm : len ≤ m := by rw [hmm]; split <;> omega
      have hspot : spot = none := by
        obtain ⟨cs, h1, h2⟩ := hi 0 (by omega)
        obtain ⟨n0, hn0, _⟩ := int_cell Try.underlying131 (by kernel_rfl) h1 h2 cellsLp 0 _ rfl .i64 Try.underlying3
        simpa [Addr.add] using World.cell?_spot hn0
      subst hspot
      have key : ∀ i, i < len → ∃ q, IsPt w b (off + i * 4) q := by
        intro i hlt
        obtain ⟨cs, h1, h2⟩ := hi i (by omega)
        obtain ⟨n0, hn0, e0⟩ := int_cell Try.underlying131 (by kernel_rfl) h1 h2 cellsLp 0 _ rfl .i64 Try.underlying3
        obtain ⟨n1, hn1, e1⟩ := int_cell Try.underlying131 (by kernel_rfl) h1 h2 cellsLp 1 _ rfl .i64 Try.underlying3
        obtain ⟨n2, hn2, e2⟩ := int_cell Try.underlying131 (by kernel_rfl) h1 h2 cellsLp 2 _ rfl .i64 Try.underlying3
        obtain ⟨n3, hn3, e3⟩ := int_cell Try.underlying131 (by kernel_rfl) h1 h2 cellsLp 3 _ rfl .u8 Try.underlying5
        rw [cellsLp, addr_add, addr_add] at hn0 hn1 hn2 hn3
        have b3 := wf_u8 e3
        obtain ⟨x3, rfl⟩ := Int.eq_ofNat_of_zero_le b3.1
        exact ⟨⟨n0, n1, n2, x3⟩, hn0, hn1, hn2, hn3, by show x3 < 256; omega⟩
      obtain ⟨ps, e1, e2⟩ := pts_of key (min len 60) (by omega)
      refine ⟨ps, e1, e2, ?_, Nat.le_trans hl hm⟩
      rcases e2 with e2 | ⟨_, _, _, e2⟩
      · rw [e2]; simp
      · intro q hq
        obtain ⟨i, hi', rfl⟩ := List.getElem_of_mem hq
        exact (e2 i hi').2.2.2.2
end Go.Proofs.Ythejbnodalnnpaa.Pk
