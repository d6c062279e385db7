/-
  Opening arguments: the cells of a struct whose fields take one cell each, read as data (plain laws; no program is named).
  Opening arguments of layer 10's statements: an array of three bytes, an array of three integers, a list of packets.
  Opening arguments: a list of layer 11's packets, read as data, is what the walks are told of it.
-/
import Derived.Test.YteacmcckhjabmaaBase
import Derived.Deep.Slices
import Derived.Deep.Fields
import Derived.ChangeSame
import Derived.Test.YteacmcckhjabmaaPackDo
import Derived.Test.YteacmcckhjabmaaRows
import Derived.OpenShut
import Derived.ChangeArms
import Derived.ChangeAt
import Derived.WalkKit
import Derived.ProofKit
section
section
namespace Go.Proofs.Yteacmcckhjabmaa
open Go.ChangeShapes Go.WideShapes Go.Deep
section
variable {H : Type} {enc : TypeId × Value → H} {P : Program} {w : World} {base : Nat} {spare : Nat → Bool} {held : Bool}
/-- One field of a struct that is read at address a: its cell, and that it is read by itself. -/
theorem field_cell {e : TypeId} {fs : Array Field} {a : Addr} {fuel : Nat} {cs : List Value} {x : DataW H × List MemPlace} (he : P.underlying e = some (.struct fs)) (hone : oneCellFields P fs = true)
    (hc : w.cells? base a (P.cellsOf e) = some cs) (ht : DataW.trod enc P w base spare held fuel e cs = some x) (hC : P.cellsOf e = fs.size) (j : Nat) (f : Field) (hj : fs[j]? = some f) :
    ∃ (v : Value) (y : DataW H × List MemPlace) (m : Nat), w.cell? (a.add j) = some v ∧ DataW.trod enc P w base spare held m f.type [v] = some y := by
  have hlt : j < fs.size := (Array.getElem?_eq_some_iff.1 hj).1
  obtain ⟨_, hl, hcell⟩ := World.cells?_some hc
  obtain ⟨xs, m, _, _, _, hxl, hf⟩ := DataW.trod_struct he ht
  have h := hf j f hj
  obtain ⟨ho, hk⟩ := hone_of hone j f hj
  have hjc : j < cs.length := by omega
  rw [ho, hk, List.drop_eq_getElem_cons hjc, List.take_succ_cons, List.take_zero, List.getElem?_eq_getElem (by omega)] at h
  exact ⟨cs[j], _, m, by rw [hcell j (by omega), List.getElem?_eq_getElem hjc], h⟩
/-- An integer field. -/
theorem int_cell {e : TypeId} {fs : Array Field} {a : Addr} {fuel : Nat} {cs : List Value} {x : DataW H × List MemPlace} (he : P.underlying e = some (.struct fs)) (hone : oneCellFields P fs = true)
    (hc : w.cells? base a (P.cellsOf e) = some cs) (ht : DataW.trod enc P w base spare held fuel e cs = some x) (hC : P.cellsOf e = fs.size) (j : Nat) (f : Field) (hj : fs[j]? = some f) (k : IntKind) (hk : P.underlying f.type = some (.int k)) :
    ∃ n, w.cell? (a.add j) = some (.int k n) ∧ (Lit.int k n).wf = true := by
  obtain ⟨v, y, m, h1, h2⟩ := field_cell he hone hc ht hC j f hj
  obtain ⟨n, h3, _, h4⟩ := DataW.trod_int hk h2
  simp only [List.cons.injEq, and_true] at h3
  exact ⟨n, by rw [h1, h3], h4⟩
end
theorem addr_add (b off j : Nat) : (⟨b, off, none⟩ : Addr).add j = ⟨b, off + j, none⟩ := by unfold Addr.add; split <;> simp_all
theorem wf_u8 {n : Int} (h : (Lit.int .u8 n).wf = true) : 0 ≤ n ∧ n ≤ 255 := by simpa [Lit.wf, IntKind.min, IntKind.max, IntKind.signed, IntKind.bits] using h
theorem wf_i64 {n : Int} (h : (Lit.int .i64 n).wf = true) : -9223372036854775808 ≤ n ∧ n ≤ 9223372036854775807 := by simpa [Lit.wf, IntKind.min, IntKind.max, IntKind.signed, IntKind.bits] using h
theorem wf_u16 {n : Int} (h : (Lit.int .u16 n).wf = true) : 0 ≤ n ∧ n ≤ 65535 := by simpa [Lit.wf, IntKind.min, IntKind.max, IntKind.signed, IntKind.bits] using h
theorem wf_u32 {n : Int} (h : (Lit.int .u32 n).wf = true) : 0 ≤ n ∧ n ≤ 4294967295 := by simpa [Lit.wf, IntKind.min, IntKind.max, IntKind.signed, IntKind.bits] using h
end Go.Proofs.Yteacmcckhjabmaa
end
section
namespace Go.Proofs.Yteacmcckhjabmaa.Mo
open Go.ChangeShapes Go.WideShapes Go.ChangeAt Go.RowKit
open Pk (Pt IsPts IsPt)
open Pl (pts_of)
theorem laidOut : laidOutB Try.prog = true := by kernel_rfl
theorem cells1b : Try.prog.cellsOf 5 = 1 := by kernel_rfl
theorem open_three_gen {P : Program} {t e : TypeId} {q : IntKind} (hu : P.underlying t = some (.array 3 e)) (he : P.underlying e = some (.int q)) (c3 : P.cellsOf t = 3) (c1 : P.cellsOf e = 1)
    {H : Type} {enc : TypeId × Value → H} {w W : World} {base b0 : Nat} {spare : Nat → Bool} {held : Bool} {v : Value} {d : DataW H} {p : List MemPlace} {r : Reach}
    (hk : Value.okWide P W r b0 t v) (h : DataW.Trod enc P w base spare held t v d p) : ∃ a b c : Int, v = .agg #[.int q a, .int q b, .int q c] ∧ (Lit.int q a).wf = true ∧ (Lit.int q b).wf = true ∧ (Lit.int q c).wf = true := by
  simp only [Value.okWide, hu] at hk
  obtain ⟨cs, rfl, h2, _⟩ := hk
  obtain ⟨fuel, hf⟩ := h
  obtain ⟨xs, m, _, ex, hlen, hl, hel⟩ := DataW.trod_array hu hf
  obtain ⟨l⟩ := cs
  rw [c3] at hlen
  match l, hlen with
  | [a, b, c], _ =>
    match xs, hl with
    | [x0, x1, x2], _ =>
      have k0 := hel 0 (by omega); have k1 := hel 1 (by omega); have k2 := hel 2 (by omega)
      rw [c1] at k0 k1 k2
      obtain ⟨z0, a0, _, w0⟩ := DataW.trod_int he k0
      obtain ⟨z1, a1, _, w1⟩ := DataW.trod_int he k1
      obtain ⟨z2, a2, _, w2⟩ := DataW.trod_int he k2
      refine ⟨z0, z1, z2, ?_, w0, w1, w2⟩
      simp [Value.cells] at a0 a1 a2
      simp [a0, a1, a2]
end Go.Proofs.Yteacmcckhjabmaa.Mo
end
end
section
namespace Go.Proofs.Yteacmcckhjabmaa.Mo
open Go.ChangeShapes Go.WideShapes Go.ChangeAt Go.RowKit
open Pk (Pt IsPts IsPt)
open Pl (pts_of)
end Go.Proofs.Yteacmcckhjabmaa.Mo
end
