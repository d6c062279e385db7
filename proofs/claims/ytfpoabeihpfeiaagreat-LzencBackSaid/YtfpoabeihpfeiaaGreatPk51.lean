/-
  Opening arguments: the cells of a struct whose fields take one cell each, read as data (plain laws; no program is named).
  Opening arguments of layer 10's statements: an array of three bytes, an array of three integers, a list of packets.
  Opening arguments: a list of layer 11's packets, read as data, is what the walks are told of it.
-/
import Derived.Test.YtfpoabeihpfeiaaGreatPk01
import Derived.Test.YtfpoabeihpfeiaaGreatPk09
import Derived.Deep.Slices
import Derived.Deep.Fields
import Derived.ChangeSame
import Derived.Test.YtfpoabeihpfeiaaGreatRows
import Derived.OpenShut
import Derived.ChangeArms
import Derived.ChangeAt
import Derived.WalkKit
import Derived.ProofKit
set_option maxRecDepth 100000
set_option maxHeartbeats 16000000
set_option linter.unusedVariables false
set_option linter.unusedSimpArgs false
section
section
namespace Go.Proofs.YtfpoabeihpfeiaaGreat
open Go.ChangeShapes Go.WideShapes Go.Deep
section
variable {H : Type} {enc : TypeId × Value -> H} {P : Program} {w : World} {base : Nat} {spare : Nat -> Bool} {held : Bool}
theorem field_cell {e : TypeId} {fs : Array Field} {a : Addr} {fuel : Nat} {cs : List Value} {x : DataW H × List MemPlace} (he : P.underlying e = some (.struct fs)) (hone : oneCellFields P fs = true)
  (hc : w.cells? base a (P.cellsOf e) = some cs) (ht : DataW.trod enc P w base spare held fuel e cs = some x) (hC : P.cellsOf e = fs.size) (j : Nat) (f : Field) (hj : fs[j]? = some f) :
  ∃ (v : Value) (y : DataW H × List MemPlace) (m : Nat), w.cell? (a.add j) = some v /\ DataW.trod enc P w base spare held m f.type [v] = some y := by
 have hlt : j < fs.size := (Array.getElem?_eq_some_iff.1 hj).1
 obtain ⟨_, hl, hcell⟩ := World.cells?_some hc
 obtain ⟨xs, m, _, _, _, hxl, hf⟩ := DataW.trod_struct he ht
 have h := hf j f hj
 obtain ⟨ho, hk⟩ := hone_of hone j f hj
 have hjc : j < cs.length := by omega
 rw [ho, hk, List.drop_eq_getElem_cons hjc, List.take_succ_cons, List.take_zero, List.getElem?_eq_getElem (by omega)] at h
 exact ⟨cs[j], _, m, by rw [hcell j (by omega), List.getElem?_eq_getElem hjc], h⟩
theorem int_cell {e : TypeId} {fs : Array Field} {a : Addr} {fuel : Nat} {cs : List Value} {x : DataW H × List MemPlace} (he : P.underlying e = some (.struct fs)) (hone : oneCellFields P fs = true)
  (hc : w.cells? base a (P.cellsOf e) = some cs) (ht : DataW.trod enc P w base spare held fuel e cs = some x) (hC : P.cellsOf e = fs.size) (j : Nat) (f : Field) (hj : fs[j]? = some f) (k : IntKind) (hk : P.underlying f.type = some (.int k)) :
  ∃ n, w.cell? (a.add j) = some (.int k n) /\ (Lit.int k n).wf = true := by
 obtain ⟨v, y, m, h1, h2⟩ := field_cell he hone hc ht hC j f hj
 obtain ⟨n, h3, _, h4⟩ := DataW.trod_int hk h2
 simp only [List.cons.injEq, and_true] at h3
 exact ⟨n, by rw [h1, h3], h4⟩
end
theorem addr_add (b off j : Nat) : (⟨b, off, none⟩ : Addr).add j = ⟨b, off + j, none⟩ := by unfold Addr.add; split <;> simp_all
theorem wf_u8 {n : Int} (h : (Lit.int .u8 n).wf = true) : 0 <= n /\ n <= 255 := by simpa [Lit.wf, IntKind.min, IntKind.max, IntKind.signed, IntKind.bits] using h
end Go.Proofs.YtfpoabeihpfeiaaGreat
end
section
namespace Go.Proofs.YtfpoabeihpfeiaaGreat.Mo
open Go.ChangeShapes Go.WideShapes Go.ChangeAt Go.RowKit
open Pk (Pt IsPts IsPt)
open Pl (pts_of)
theorem laidOut : laidOutB Tryz.prog = true := by kernel_rfl
theorem cells3b : Tryz.prog.cellsOf 22 = 3 := by kernel_rfl
theorem cells1b : Tryz.prog.cellsOf 5 = 1 := by kernel_rfl
theorem open_three_gen {P : Program} {t e : TypeId} {q : IntKind} (hu : P.underlying t = some (.array 3 e)) (he : P.underlying e = some (.int q)) (c3 : P.cellsOf t = 3) (c1 : P.cellsOf e = 1)
  {H : Type} {enc : TypeId × Value -> H} {w W : World} {base b0 : Nat} {spare : Nat -> Bool} {held : Bool} {v : Value} {d : DataW H} {p : List MemPlace} {r : Reach}
  (hk : Value.okWide P W r b0 t v) (h : DataW.Trod enc P w base spare held t v d p) : ∃ a b c : Int, v = .agg #[.int q a, .int q b, .int q c] /\ (Lit.int q a).wf = true /\ (Lit.int q b).wf = true /\ (Lit.int q c).wf = true := by
 simp only [Value.okWide, hu] at hk
 obtain ⟨cs, rfl, h2, _⟩ := hk
 obtain ⟨fuel, hf⟩ := h
 obtain ⟨xs, m, _, ex, hlen, hl, hel⟩ := DataW.trod_array hu hf
 obtain ⟨l⟩ := cs
 rw [c3] at hlen
 match l, hlen with
 | [a, b, c], _ =>
  match xs, hl with
  | [x0, x1, x2], _ =>
   have k0 := hel 0 (by omega); have k1 := hel 1 (by omega); have k2 := hel 2 (by omega)
   rw [c1] at k0 k1 k2
   obtain ⟨z0, a0, _, w0⟩ := DataW.trod_int he k0
   obtain ⟨z1, a1, _, w1⟩ := DataW.trod_int he k1
   obtain ⟨z2, a2, _, w2⟩ := DataW.trod_int he k2
   refine ⟨z0, z1, z2, ?_, w0, w1, w2⟩
   simp [Value.cells] at a0 a1 a2
   simp [a0, a1, a2]
end Go.Proofs.YtfpoabeihpfeiaaGreat.Mo
end
end
section
namespace Go.Proofs.YtfpoabeihpfeiaaGreat.Mo
open Go.ChangeShapes Go.WideShapes Go.ChangeAt Go.RowKit
open Pk (Pt IsPts IsPt)
open Pl (pts_of)
theorem cellsL11 : Tryz.prog.cellsOf 49 = 4 := by kernel_rfl
theorem open_pts11 (N : Nat) {H : Type} {enc : TypeId × Value -> H} {w : World} {base : Nat} {spare : Nat -> Bool} {held : Bool} {a : Option Addr} {len cap : Nat} {d : DataW H} {p : List MemPlace}
  (h : DataW.Trod enc Tryz.prog w base spare held 23 (.slice a len cap) d p) : ∃ ps : List Pt, ps.length = min len N /\ IsPts w a ps /\ (∀ q ∈ ps, q.b < 256) /\ len <= maxLen := by
 obtain ⟨fuel, hf⟩ := h
 rcases Go.Deep.open_slice Tryz.underlying23 hf with ⟨hcs, _⟩ | ⟨x, l, c, m, n, D, Pl, hcs, _, hl, hm, hmm, _, hi⟩
 · simp [Value.cells] at hcs
   obtain ⟨rfl, rfl, rfl⟩ := hcs
   exact ⟨[], by simp, .inl rfl, by simp, by unfold maxLen; omega⟩
 · simp [Value.cells] at hcs
   obtain ⟨rfl, rfl, rfl⟩ := hcs
   by_cases h0 : len = 0
   · subst h0
     exact ⟨[], by simp, .inl rfl, by simp, by unfold maxLen; omega⟩
   · obtain ⟨b, off, spot⟩ := x
     have hlm : len <= m := by rw [hmm]; split <;> omega
     have hspot : spot = none := by
      obtain ⟨cs, h1, h2⟩ := hi 0 (by omega)
      obtain ⟨n0, hn0, _⟩ := int_cell Tryz.underlying49 (by kernel_rfl) h1 h2 cellsL11 0 _ rfl .i64 Tryz.underlying3
      simpa [Addr.add] using World.cell?_spot hn0
     subst hspot
     have key : ∀ i, i < len -> ∃ q, IsPt w b (off + i * 4) q := by
      intro i hlt
      obtain ⟨cs, h1, h2⟩ := hi i (by omega)
      obtain ⟨n0, hn0, e0⟩ := int_cell Tryz.underlying49 (by kernel_rfl) h1 h2 cellsL11 0 _ rfl .i64 Tryz.underlying3
      obtain ⟨n1, hn1, e1⟩ := int_cell Tryz.underlying49 (by kernel_rfl) h1 h2 cellsL11 1 _ rfl .i64 Tryz.underlying3
      obtain ⟨n2, hn2, e2⟩ := int_cell Tryz.underlying49 (by kernel_rfl) h1 h2 cellsL11 2 _ rfl .i64 Tryz.underlying3
      obtain ⟨n3, hn3, e3⟩ := int_cell Tryz.underlying49 (by kernel_rfl) h1 h2 cellsL11 3 _ rfl .u8 Tryz.underlying5
      rw [cellsL11, addr_add, addr_add] at hn0 hn1 hn2 hn3
      have b3 := wf_u8 e3
      obtain ⟨x3, rfl⟩ := Int.eq_ofNat_of_zero_le b3.1
      exact ⟨⟨n0, n1, n2, x3⟩, hn0, hn1, hn2, hn3, by show x3 < 256; omega⟩
     obtain ⟨ps, e1, e2⟩ := pts_of key (min len N) (by omega)
     refine ⟨ps, e1, e2, ?_, Nat.le_trans hl hm⟩
     rcases e2 with e2 | ⟨_, _, _, e2⟩
     · rw [e2]; simp
     · intro q hq
       obtain ⟨i, hi', rfl⟩ := List.getElem_of_mem hq
       exact (e2 i hi').2.2.2.2
end Go.Proofs.YtfpoabeihpfeiaaGreat.Mo
end
