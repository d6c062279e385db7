/-
  Opening arguments: a list of asks that came in, read as data, is what the walks are told of it.
-/
import Derived.Test.YthejbnodalnnpaaFreqLock
import Derived.Test.YthejbnodalnnpaaRows
import Derived.Test.YthejbnodalnnpaaOpen
import Derived.OpenShut
import Derived.ChangeArms
namespace Go.Proofs.Ythejbnodalnnpaa
open Go.ChangeShapes Go.WideShapes Go.Deep
section
variable {H : Type} {enc : TypeId × Value → H} {P : Program} {w : World} {base : Nat} {spare : Nat → Bool} {held : Bool}
/-- A field that is a text, and one that is a bool. -/
theorem text_cell {e : TypeId} {fs : Array Field} {a : Addr} {fuel : Nat} {cs : List Value} {x : DataW H × List MemPlace} (he : P.underlying e = some (.struct fs)) (hone : oneCellFields P fs = true)
    (hc : w.cells? base a (P.cellsOf e) = some cs) (ht : DataW.trod enc P w base spare held fuel e cs = some x) (hC : P.cellsOf e = fs.size) (j : Nat) (f : Field) (hj : fs[j]? = some f) (hk : P.underlying f.type = some .string) :
    ∃ s : ByteArray, w.cell? (a.add j) = some (.string s) ∧ s.size ≤ maxLen := by
  obtain ⟨v, y, m, h1, h2⟩ := field_cell he hone hc ht hC j f hj
  obtain ⟨s, h3, _, h4⟩ := DataW.trod_string hk h2
  simp only [List.cons.injEq, and_true] at h3
  exact ⟨s, by rw [h1, h3], h4⟩
theorem bool_cell {e : TypeId} {fs : Array Field} {a : Addr} {fuel : Nat} {cs : List Value} {x : DataW H × List MemPlace} (he : P.underlying e = some (.struct fs)) (hone : oneCellFields P fs = true)
    (hc : w.cells? base a (P.cellsOf e) = some cs) (ht : DataW.trod enc P w base spare held fuel e cs = some x) (hC : P.cellsOf e = fs.size) (j : Nat) (f : Field) (hj : fs[j]? = some f) (hk : P.underlying f.type = some .bool) :
    ∃ b : Bool, w.cell? (a.add j) = some (.bool b) := by
  obtain ⟨v, y, m, h1, h2⟩ := field_cell he hone hc ht hC j f hj
  obtain ⟨b, h3, _⟩ := DataW.trod_bool hk h2
  simp only [List.cons.injEq, and_true] at h3
  exact ⟨b, by rw [h1, h3]⟩
end
end Go.Proofs.Ythejbnodalnnpaa
namespace Go.Proofs.Ythejbnodalnnpaa.Fq
open Go.ChangeShapes Go.WideShapes Go.ChangeAt Go.RowKit
theorem laidOut : laidOutB Try.prog = true := by kernel_rfl
theorem cellsAsk : Try.prog.cellsOf 39 = 3 := by kernel_rfl
theorem open_asks {H : Type} {enc : TypeId × Value → H} {w : World} {base : Nat} {spare : Nat → Bool} {held : Bool} {a : Option Addr} {len cap : Nat} {d : DataW H} {p : List MemPlace}
    (h : DataW.Trod enc Try.prog w base spare held 22 (.slice a len cap) d p) : IsAsks w a len := by
  obtain ⟨fuel, hf⟩ := h
  rcases Go.Deep.open_slice Try.underlying22 hf with ⟨hcs, _⟩ | ⟨x, l, c, m, n, D, Pl, hcs, _, hl, hm, hmm, _, hi⟩
  · simp [Value.cells] at hcs
    obtain ⟨rfl, rfl, rfl⟩ := hcs
    exact ⟨by unfold maxLen; omega, .inl rfl⟩
  · simp [Value.cells] at hcs
    obtain ⟨rfl, rfl, rfl⟩ := hcs
    refine ⟨Nat.le_trans hl hm, ?_⟩
    by_cases h0 : len = 0
    · exact .inl h0
    · obtain ⟨b, off, spot⟩ := x
      have hlm : len ≤ m := by rw [hmm]; split <;> omega
      have hspot : spot = none := by
        obtain ⟨cs, h1, h2⟩ := hi 0 (by omega)
        obtain ⟨n0, hn0, _⟩ := int_cell Try.underlying39 (by kernel_rfl) h1 h2 cellsAsk 0 _ rfl .u8 Try.underlying5
        simpa [Addr.add] using World.cell?_spot hn0
      subst hspot
      have key : ∀ i, i < len → ∃ x : Asked, IsAsk w b (off + i * 3) x := by
        intro i hlt
        obtain ⟨cs, h1, h2⟩ := hi i (by omega)
        obtain ⟨n0, hn0, e0⟩ := int_cell Try.underlying39 (by kernel_rfl) h1 h2 cellsAsk 0 _ rfl .u8 Try.underlying5
        obtain ⟨n1, hn1, e1⟩ := text_cell Try.underlying39 (by kernel_rfl) h1 h2 cellsAsk 1 _ rfl Try.underlying9
        obtain ⟨n2, hn2⟩ := bool_cell Try.underlying39 (by kernel_rfl) h1 h2 cellsAsk 2 _ rfl Try.underlying4
        rw [cellsAsk, addr_add, addr_add] at hn0 hn1 hn2
        have b0 := wf_u8 e0
        obtain ⟨x0, rfl⟩ := Int.eq_ofNat_of_zero_le b0.1
        exact ⟨⟨x0, n1, n2⟩, hn0, hn1, hn2, by show x0 < 256; omega, e1⟩
      obtain ⟨x, hc, _⟩ := key 0 (by omega)
      exact .inr ⟨b, off, rfl, World.block_lt_of_cell? _ _ hc, key⟩
end Go.Proofs.Ythejbnodalnnpaa.Fq
