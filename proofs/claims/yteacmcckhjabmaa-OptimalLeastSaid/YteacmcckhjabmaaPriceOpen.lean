/-
  Opening arguments of layer 15's statements: a table; a list of packets.
-/
import Derived.Test.YteacmcckhjabmaaPriceOf
import Derived.Test.YteacmcckhjabmaaRows
import Derived.Test.YteacmcckhjabmaaOpens
import Derived.OpenShut
import Derived.ChangeArms
import Derived.ChangeAt
import Derived.WalkKit
import Derived.ProofKit
namespace Go.Proofs.Yteacmcckhjabmaa
open Go.ChangeShapes Go.WideShapes Go.Deep
/-- An integer field of a struct value that is read. -/
theorem int_field {H : Type} {enc : TypeId × Value → H} {P : Program} {w : World} {base : Nat} {spare : Nat → Bool} {held : Bool} {e : TypeId} {fs : Array Field} {fuel : Nat} {cs : List Value} {x : DataW H × List MemPlace} (he : P.underlying e = some (.struct fs)) (hone : oneCellFields P fs = true)
    (ht : DataW.trod enc P w base spare held fuel e cs = some x) (hC : P.cellsOf e = fs.size) (j : Nat) (f : Field) (hj : fs[j]? = some f) (k : IntKind) (hk : P.underlying f.type = some (.int k)) :
    ∃ n, cs[j]? = some (.int k n) ∧ (Lit.int k n).wf = true := by
  have hlt : j < fs.size := (Array.getElem?_eq_some_iff.1 hj).1
  obtain ⟨xs, m, _, _, hl, hxl, hf⟩ := DataW.trod_struct he ht
  have h := hf j f hj
  obtain ⟨ho, hkk⟩ := hone_of hone j f hj
  have hjc : j < cs.length := by omega
  rw [ho, hkk, List.drop_eq_getElem_cons hjc, List.take_succ_cons, List.take_zero, List.getElem?_eq_getElem (by omega)] at h
  obtain ⟨n, h3, _, h4⟩ := DataW.trod_int hk h
  simp only [List.cons.injEq, and_true] at h3
  exact ⟨n, by rw [List.getElem?_eq_getElem hjc, h3], h4⟩
end Go.Proofs.Yteacmcckhjabmaa
namespace Go.Proofs.Yteacmcckhjabmaa.Pc
open Go.ChangeShapes Go.WideShapes Go.ChangeAt Go.RowKit
open Pk (Pt IsPts IsPt)
open Pl (pts_of)
theorem laidOut : laidOutB Try.prog = true := by kernel_rfl
theorem cellsTb : Try.prog.cellsOf 23 = 5 := by kernel_rfl
set_option maxRecDepth 100000 in
theorem open_table {H : Type} {enc : TypeId × Value → H} {w W : World} {base b0 : Nat} {spare : Nat → Bool} {held : Bool} {v : Value} {d : DataW H} {p : List MemPlace} {r : Reach}
    (hk : Value.okWide Try.prog W r b0 23 v) (h : DataW.Trod enc Try.prog w base spare held 23 v d p) :
    ∃ t : Tb, v = .agg #[.int .i64 t.l, .int .i64 t.m, .int .i64 t.n, .int .i64 t.f, .int .i64 t.b] := by
  obtain ⟨cs, rfl, h2⟩ := okWide_struct Try.underlying23 hk
  obtain ⟨fuel, hf⟩ := h
  obtain ⟨l⟩ := cs
  rw [cellsTb] at h2
  match l, h2 with
  | [a, b, c, e, g], _ =>
    obtain ⟨n0, h0, _⟩ := int_field Try.underlying23 (by kernel_rfl) hf cellsTb 0 _ rfl .i64 Try.underlying3
    obtain ⟨n1, h1, _⟩ := int_field Try.underlying23 (by kernel_rfl) hf cellsTb 1 _ rfl .i64 Try.underlying3
    obtain ⟨n2, h2, _⟩ := int_field Try.underlying23 (by kernel_rfl) hf cellsTb 2 _ rfl .i64 Try.underlying3
    obtain ⟨n3, h3, _⟩ := int_field Try.underlying23 (by kernel_rfl) hf cellsTb 3 _ rfl .i64 Try.underlying3
    obtain ⟨n4, h4, _⟩ := int_field Try.underlying23 (by kernel_rfl) hf cellsTb 4 _ rfl .i64 Try.underlying3
    simp [Value.cells] at h0 h1 h2 h3 h4
    exact ⟨⟨n0, n1, n2, n3, n4⟩, by simp [h0, h1, h2, h3, h4]⟩
end Go.Proofs.Yteacmcckhjabmaa.Pc
