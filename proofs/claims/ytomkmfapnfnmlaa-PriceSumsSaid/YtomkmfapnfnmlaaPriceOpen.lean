/-
  Opening arguments of layer 15's statements: a table; a list of packets.
-/
import Derived.Test.YtomkmfapnfnmlaaPriceOf
import Derived.Test.YtomkmfapnfnmlaaRows
import Derived.Test.YtomkmfapnfnmlaaOpens
import Derived.OpenShut
import Derived.ChangeArms
import Derived.ChangeAt
import Derived.WalkKit
import Derived.ProofKit
namespace Go.Proofs.Ytomkmfapnfnmlaa
open Go.ChangeShapes Go.WideShapes Go.Deep
/-- An integer field of a struct value that is read. -/
theorem int_field {H : Type} {enc : TypeId × Value → H} {P : Program} {w : World} {base : Nat} {spare : Nat → Bool} {held : Bool} {e : TypeId} {fs : Array Field} {fuel : Nat} {cs : List Value} {x : DataW H × List MemPlace} (he : P.underlying e = some (.struct fs)) (hone : oneCellFields P fs = true)
    (ht : DataW.trod enc P w base spare held fuel e cs = some x) (hC : P.cellsOf e = fs.size) (j : Nat) (f : Field) (hj : fs[j]? = some f) (k : IntKind) (hk : P.underlying f.type = some (.int k)) :
    ∃ n, cs[j]? = some (.int k n) ∧ (Lit.int k n).wf = true := by
  have hlt : j < fs.size := (Array.getElem?_eq_some_iff.1 hj).1
  obtain ⟨xs, m, _, _, hl, hxl, hf⟩ := DataW.trod_struct he ht
  have h := hf j f hj
  obtain ⟨ho, hkk⟩ := hone_of hone j f hj
  have hjc : j < cs.length := by omega
  rw [ho, hkk, List.drop_eq_getElem_cons hjc, List.take_succ_cons, List.take_zero, List.getElem?_eq_getElem (by omega)] at h
  obtain ⟨n, h3, _, h4⟩ := DataW.trod_int hk h
  simp only [List.cons.injEq, and_true] at h3
  exact ⟨n, by rw [List.getElem?_eq_getElem hjc, h3], h4⟩
end Go.Proofs.Ytomkmfapnfnmlaa
namespace Go.Proofs.Ytomkmfapnfnmlaa.Pc
open Go.ChangeShapes Go.WideShapes Go.ChangeAt Go.RowKit
open Pk (Pt IsPts IsPt)
open Pl (pts_of)
theorem laidOut : laidOutB Try.prog = true := by kernel_rfl
theorem cellsTb : Try.prog.cellsOf 42 = 5 := by kernel_rfl
set_option maxRecDepth 100000 in
theorem open_table {H : Type} {enc : TypeId × Value → H} {w W : World} {base b0 : Nat} {spare : Nat → Bool} {held : Bool} {v : Value} {d : DataW H} {p : List MemPlace} {r : Reach}
    (hk : Value.okWide Try.prog W r b0 42 v) (h : DataW.Trod enc Try.prog w base spare held 42 v d p) :
    ∃ t : Tb, v = .agg #[.int .i64 t.l, .int .i64 t.m, .int .i64 t.n, .int .i64 t.f, .int .i64 t.b] := by
  obtain ⟨cs, rfl, h2⟩ := okWide_struct Try.underlying42 hk
  obtain ⟨fuel, hf⟩ := h
  obtain ⟨l⟩ := cs
  rw [cellsTb] at h2
  match l, h2 with
  | [a, b, c, e, g], _ =>
    obtain ⟨n0, h0, _⟩ := int_field Try.underlying42 (by kernel_rfl) hf cellsTb 0 _ rfl .i64 Try.underlying3
    obtain ⟨n1, h1, _⟩ := int_field Try.underlying42 (by kernel_rfl) hf cellsTb 1 _ rfl .i64 Try.underlying3
    obtain ⟨n2, h2, _⟩ := int_field Try.underlying42 (by kernel_rfl) hf cellsTb 2 _ rfl .i64 Try.underlying3
    obtain ⟨n3, h3, _⟩ := int_field Try.underlying42 (by kernel_rfl) hf cellsTb 3 _ rfl .i64 Try.underlying3
    obtain ⟨n4, h4, _⟩ := int_field Try.underlying42 (by kernel_rfl) hf cellsTb 4 _ rfl .i64 Try.underlying3
    simp [Value.cells] at h0 h1 h2 h3 h4
    exact ⟨⟨n0, n1, n2, n3, n4⟩, by simp [h0, h1, h2, h3, h4]⟩
theorem cellsLp : Try.prog.cellsOf 49 = 4 := by kernel_rfl
set_option maxRecDepth 100000 in
theorem open_pts (N : Nat) {H : Type} {enc : TypeId × Value → H} {w : World} {base : Nat} {spare : Nat → Bool} {held : Bool} {a : Option Addr} {len cap : Nat} {d : DataW H} {p : List MemPlace}
    (h : DataW.Trod enc Try.prog w base spare held 48 (.slice a len cap) d p) : ∃ ps : List Pt, ps.length = min len N ∧ IsPts w a ps ∧ (∀ q ∈ ps, q.b < 256 ∧ -9223372036854775808 ≤ q.d ∧ q.d ≤ 9223372036854775807) ∧ len ≤ maxLen := by
  obtain ⟨fuel, hf⟩ := h
  rcases Go.Deep.open_slice Try.underlying48 hf with ⟨hcs, _⟩ | ⟨x, l, c, m, n, D, Pl, hcs, _, hl, hm, hmm, _, hi⟩
  · simp [Value.cells] at hcs
    obtain ⟨rfl, rfl, rfl⟩ := hcs
    exact ⟨[], by simp, .inl rfl, (fun q hq => absurd hq (by simp)), by unfold maxLen; omega⟩
  · simp [Value.cells] at hcs
    obtain ⟨rfl, rfl, rfl⟩ := hcs
    by_cases h0 : len = 0
    · subst h0
      exact ⟨[], by simp, .inl rfl, (fun q hq => absurd hq (by simp)), by unfold maxLen; omega⟩
    · obtain ⟨b, off, spot⟩ := x
      have hlm : len ≤ m := by rw [hmm]; split <;> omega
      have hspot : spot = none := by
        obtain ⟨cs, h1, h2⟩ := hi 0 (by omega)
        obtain ⟨n0, hn0, _⟩ := int_cell Try.underlying49 (by kernel_rfl) h1 h2 cellsLp 0 _ rfl .i64 Try.underlying3
        simpa [Addr.add] using World.cell?_spot hn0
      subst hspot
      have key2 : ∀ i, i < len → ∃ q, IsPt w b (off + i * 4) q ∧ -9223372036854775808 ≤ q.d ∧ q.d ≤ 9223372036854775807 := by
        intro i hlt
        obtain ⟨cs, h1, h2⟩ := hi i (by omega)
        obtain ⟨n0, hn0, e0⟩ := int_cell Try.underlying49 (by kernel_rfl) h1 h2 cellsLp 0 _ rfl .i64 Try.underlying3
        obtain ⟨n1, hn1, e1⟩ := int_cell Try.underlying49 (by kernel_rfl) h1 h2 cellsLp 1 _ rfl .i64 Try.underlying3
        obtain ⟨n2, hn2, e2⟩ := int_cell Try.underlying49 (by kernel_rfl) h1 h2 cellsLp 2 _ rfl .i64 Try.underlying3
        obtain ⟨n3, hn3, e3⟩ := int_cell Try.underlying49 (by kernel_rfl) h1 h2 cellsLp 3 _ rfl .u8 Try.underlying5
        rw [cellsLp, addr_add, addr_add] at hn0 hn1 hn2 hn3
        have b3 := wf_u8 e3
        obtain ⟨x3, rfl⟩ := Int.eq_ofNat_of_zero_le b3.1
        exact ⟨⟨n0, n1, n2, x3⟩, ⟨hn0, hn1, hn2, hn3, by show x3 < 256; omega⟩, (wf_i64 e1).1, (wf_i64 e1).2⟩
      have key : ∀ i, i < len → ∃ q, IsPt w b (off + i * 4) q := fun i hi => by obtain ⟨q, h, _⟩ := key2 i hi; exact ⟨q, h⟩
      obtain ⟨ps, e1, e2⟩ := pts_of key (min len N) (by omega)
      refine ⟨ps, e1, e2, ?_, Nat.le_trans hl hm⟩
      rcases e2 with e2 | ⟨_, _, he, e2⟩
      · rw [e2]; exact fun q hq => absurd hq (by simp)
      · intro q hq
        simp only [Option.some.injEq, Addr.mk.injEq, and_true] at he
        obtain ⟨rfl, rfl⟩ := he
        obtain ⟨i, hi', rfl⟩ := List.getElem_of_mem hq
        have k1 := e2 i hi'
        obtain ⟨q2, k2, k3, k4⟩ := key2 i (by omega)
        have hd : ps[i].d = q2.d := by
          have h1 := k1.2.1
          have h2 := k2.2.1
          rw [h1] at h2
          simpa using h2
        exact ⟨k1.2.2.2.2, by rw [hd]; exact k3, by rw [hd]; exact k4⟩
end Go.Proofs.Ytomkmfapnfnmlaa.Pc
