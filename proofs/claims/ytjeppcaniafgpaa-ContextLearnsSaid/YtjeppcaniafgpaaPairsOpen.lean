/-
  Opening arguments: a list of pairs (arrays of two integers), read as data, is what the walks are told of it.
-/
import Derived.Test.YtjeppcaniafgpaaProbsPairs
import Derived.Test.YtjeppcaniafgpaaRows
import Derived.Deep.Slices
import Derived.ChangeArms
import Derived.OpenShut
import Derived.ChangeAt
namespace Go.Proofs.Ytjeppcaniafgpaa.Rc
open Go.ChangeShapes Go.WideShapes Go.ChangeAt Go.RowKit Go.Deep
theorem addr_addP (b off j : Nat) : (⟨b, off, none⟩ : Addr).add j = ⟨b, off + j, none⟩ := by unfold Addr.add; split <;> simp_all
theorem wf_u8P {n : Int} (h : (Lit.int .u8 n).wf = true) : 0 ≤ n ∧ n ≤ 255 := by simpa [Lit.wf, IntKind.min, IntKind.max, IntKind.signed, IntKind.bits] using h
/-- One element of an array that is read at address a, where each takes one cell. -/
theorem elem_cell {H : Type} {enc : TypeId × Value → H} {P : Program} {w : World} {base : Nat} {spare : Nat → Bool} {held : Bool} {t e : TypeId} {n : Nat} {a : Addr} {fuel : Nat} {cs : List Value} {x : DataW H × List MemPlace} (ht : P.underlying t = some (.array n e)) (h1 : P.cellsOf e = 1)
    (hc : w.cells? base a (P.cellsOf t) = some cs) (hr : DataW.trod enc P w base spare held fuel t cs = some x) (hC : P.cellsOf t = n) (k : IntKind) (hk : P.underlying e = some (.int k)) (j : Nat) (hj : j < n) :
    ∃ v, w.cell? (a.add j) = some (.int k v) ∧ (Lit.int k v).wf = true := by
  obtain ⟨_, hl, hcell⟩ := World.cells?_some hc
  obtain ⟨xs, m, _, _, _, hxl, hf⟩ := DataW.trod_array ht hr
  have h := hf j hj
  have hjc : j < cs.length := by omega
  rw [h1, Nat.mul_one, List.drop_eq_getElem_cons hjc, List.take_succ_cons, List.take_zero, List.getElem?_eq_getElem (by omega)] at h
  obtain ⟨v, h3, _, h4⟩ := DataW.trod_int hk h
  simp only [List.cons.injEq, and_true] at h3
  exact ⟨v, by rw [hcell j (by omega), List.getElem?_eq_getElem hjc, h3], h4⟩
theorem cellsPair : Try.prog.cellsOf 58 = 2 := by kernel_rfl
theorem open_pairs {H : Type} {enc : TypeId × Value → H} {w : World} {base : Nat} {spare : Nat → Bool} {held : Bool} {a : Option Addr} {len cap : Nat} {d : DataW H} {p : List MemPlace}
    (h : DataW.Trod enc Try.prog w base spare held 39 (.slice a len cap) d p) : IsPairs w a len := by
  obtain ⟨fuel, hf⟩ := h
  rcases Go.Deep.open_slice Try.underlying39 hf with ⟨hcs, _⟩ | ⟨x, l, c, m, n, D, Pl, hcs, _, hl, hm, hmm, _, hi⟩
  · simp [Value.cells] at hcs
    obtain ⟨rfl, rfl, rfl⟩ := hcs
    exact ⟨by unfold maxLen; omega, .inl rfl⟩
  · simp [Value.cells] at hcs
    obtain ⟨rfl, rfl, rfl⟩ := hcs
    refine ⟨Nat.le_trans hl hm, ?_⟩
    by_cases h0 : len = 0
    · exact .inl h0
    · obtain ⟨b, off, spot⟩ := x
      have hlm : len ≤ m := by rw [hmm]; split <;> omega
      have hspot : spot = none := by
        obtain ⟨cs, h1, h2⟩ := hi 0 (by omega)
        obtain ⟨n0, hn0, _⟩ := elem_cell Try.underlying58 (by kernel_rfl) h1 h2 cellsPair .u8 Try.underlying5 0 (by omega)
        simpa [Addr.add] using World.cell?_spot hn0
      subst hspot
      have key : ∀ i, i < len → ∃ x y : Nat, w.cell? ⟨b, off + i * 2, none⟩ = some (.int .u8 (x : Int)) ∧ w.cell? ⟨b, off + i * 2 + 1, none⟩ = some (.int .u8 (y : Int)) ∧ x < 256 ∧ y < 256 := by
        intro i hlt
        obtain ⟨cs, h1, h2⟩ := hi i (by omega)
        obtain ⟨n0, hn0, e0⟩ := elem_cell Try.underlying58 (by kernel_rfl) h1 h2 cellsPair .u8 Try.underlying5 0 (by omega)
        obtain ⟨n1, hn1, e1⟩ := elem_cell Try.underlying58 (by kernel_rfl) h1 h2 cellsPair .u8 Try.underlying5 1 (by omega)
        rw [cellsPair, addr_addP, addr_addP] at hn0 hn1
        have b0 := wf_u8P e0
        have b1 := wf_u8P e1
        obtain ⟨x0, rfl⟩ := Int.eq_ofNat_of_zero_le b0.1
        obtain ⟨x1, rfl⟩ := Int.eq_ofNat_of_zero_le b1.1
        exact ⟨x0, x1, hn0, hn1, by omega, by omega⟩
      obtain ⟨x, y, hc, _⟩ := key 0 (by omega)
      exact .inr ⟨b, off, rfl, World.block_lt_of_cell? _ _ hc, key⟩
end Go.Proofs.Ytjeppcaniafgpaa.Rc
