/-
  Opening arguments: a list of steps that came in, read as data, is what the walks are told of it.
-/
import Derived.Test.YtocoehjggkkoeaaRcLaws
import Derived.Test.YtocoehjggkkoeaaRows
import Derived.Test.YtocoehjggkkoeaaOpen
import Derived.OpenShut
namespace Go.Proofs.Ytocoehjggkkoeaa.Rc
open Go.ChangeShapes Go.WideShapes Go.ChangeAt Go.RowKit
theorem laidOut : laidOutB Try.prog = true := by kernel_rfl
theorem cellsStep : Try.prog.cellsOf 36 = 5 := by kernel_rfl
theorem open_steps {H : Type} {enc : TypeId × Value → H} {w : World} {base : Nat} {spare : Nat → Bool} {held : Bool} {a : Option Addr} {len cap : Nat} {d : DataW H} {p : List MemPlace}
    (h : DataW.Trod enc Try.prog w base spare held 22 (.slice a len cap) d p) : IsSteps w a len := by
  obtain ⟨fuel, hf⟩ := h
  rcases Go.Deep.open_slice Try.underlying22 hf with ⟨hcs, _⟩ | ⟨x, l, c, m, n, D, Pl, hcs, _, hl, hm, hmm, _, hi⟩
  · simp [Value.cells] at hcs
    obtain ⟨rfl, rfl, rfl⟩ := hcs
    exact ⟨by unfold maxLen; omega, .inl rfl⟩
  · simp [Value.cells] at hcs
    obtain ⟨rfl, rfl, rfl⟩ := hcs
    refine ⟨Nat.le_trans hl hm, ?_⟩
    by_cases h0 : len = 0
    · exact .inl h0
    · obtain ⟨b, off, spot⟩ := x
      have hlm : len ≤ m := by rw [hmm]; split <;> omega
      have hspot : spot = none := by
        obtain ⟨cs, h1, h2⟩ := hi 0 (by omega)
        obtain ⟨n0, hn0, _⟩ := int_cell Try.underlying36 (by kernel_rfl) h1 h2 cellsStep 0 _ rfl .u8 Try.underlying5
        simpa [Addr.add] using World.cell?_spot hn0
      subst hspot
      have key : ∀ i, i < len → ∃ x : St, IsStep w b (off + i * 5) x := by
        intro i hlt
        obtain ⟨cs, h1, h2⟩ := hi i (by omega)
        obtain ⟨n0, hn0, e0⟩ := int_cell Try.underlying36 (by kernel_rfl) h1 h2 cellsStep 0 _ rfl .u8 Try.underlying5
        obtain ⟨n1, hn1, e1⟩ := int_cell Try.underlying36 (by kernel_rfl) h1 h2 cellsStep 1 _ rfl .u8 Try.underlying5
        obtain ⟨n2, hn2, e2⟩ := int_cell Try.underlying36 (by kernel_rfl) h1 h2 cellsStep 2 _ rfl .u32 Try.underlying34
        obtain ⟨n3, hn3, e3⟩ := int_cell Try.underlying36 (by kernel_rfl) h1 h2 cellsStep 3 _ rfl .u8 Try.underlying5
        obtain ⟨n4, hn4, e4⟩ := int_cell Try.underlying36 (by kernel_rfl) h1 h2 cellsStep 4 _ rfl .u16 Try.underlying31
        rw [cellsStep, addr_add, addr_add] at hn0 hn1 hn2 hn3 hn4
        have b0 := wf_u8 e0
        have b1 := wf_u8 e1
        have b2 := wf_u32 e2
        have b3 := wf_u8 e3
        have b4 := wf_u16 e4
        obtain ⟨x0, rfl⟩ := Int.eq_ofNat_of_zero_le b0.1
        obtain ⟨x1, rfl⟩ := Int.eq_ofNat_of_zero_le b1.1
        obtain ⟨x2, rfl⟩ := Int.eq_ofNat_of_zero_le b2.1
        obtain ⟨x3, rfl⟩ := Int.eq_ofNat_of_zero_le b3.1
        obtain ⟨x4, rfl⟩ := Int.eq_ofNat_of_zero_le b4.1
        exact ⟨⟨x0, x1, x2, x3, x4⟩, hn0, hn1, hn2, hn3, hn4, by show x0 < 256; omega, by show x1 < 256; omega, by show x2 < 4294967296; omega, by show x3 < 256; omega, by show x4 < 65536; omega⟩
      obtain ⟨x, hc, _⟩ := key 0 (by omega)
      exact .inr ⟨b, off, rfl, World.block_lt_of_cell? _ _ hc, key⟩
end Go.Proofs.Ytocoehjggkkoeaa.Rc
