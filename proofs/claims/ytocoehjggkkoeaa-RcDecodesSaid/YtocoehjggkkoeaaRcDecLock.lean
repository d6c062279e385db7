/-
  Layer 3's statements: the developers' decoder in lockstep with the reference's.
-/
import Derived.Test.YtocoehjggkkoeaaRcLock
import Derived.Test.YtocoehjggkkoeaaRcRefGet
namespace Go.Proofs.Ytocoehjggkkoeaa.Rc
open Go.RowKit
theorem turnD_len (d : Dec) : (turnD d).rest.length ≤ d.rest.length := by
  unfold turnD; split
  · exact next_len d
  · exact Nat.le_refl _
theorem wide_len (d : Dec) : (wide d).rest.length ≤ d.rest.length :=
  Nat.le_trans (turnD_len _) (Nat.le_trans (turnD_len _) (turnD_len d))
theorem getBit_len (d : Dec) (p : Nat) : (d.getBit p).rest.length ≤ d.rest.length := by
  unfold Dec.getBit; split <;> exact wide_len _
theorem getDirect_len (d : Dec) : d.getDirect.rest.length ≤ d.rest.length := by
  unfold Dec.getDirect; split <;> exact wide_len _
theorem take_len (d : Dec) (a b c : Nat) : (d.take a b c).rest.length ≤ d.rest.length := wide_len _
theorem gotN_len (d : Dec) : ∀ i, (gotN d i).1.rest.length ≤ d.rest.length
  | 0 => Nat.le_refl _
  | i + 1 => Nat.le_trans (getDirect_len _) (gotN_len d i)
theorem read_len (s : List UInt8) : (Dec.read s).rest.length ≤ s.length := by
  have h : (readN 4 (Dec.fresh s).next).rest.length ≤ s.length := Nat.le_trans (readN_len 4 _) (next_len _)
  unfold Dec.read; split <;> exact h
/-- What always holds of a decoder of at most 100 bytes. -/
def DecOk (d : Dec) : Prop := FineD d ∧ d.rest.length ≤ 100
/-- Block M holds a reference's decoder; it belongs to c. -/
def RefD (w : World) (O : Paint) (c M : Nat) (d : Dec) : Prop := Blk w O c M (.cells #[.string ⟨d.rest.toArray⟩, .int .u64 (d.code : Int), .int .u64 (d.size : Int), .bool d.bad] 58 (0, 0))
theorem RefD.set {w w' : World} {O : Paint} {c M : Nat} {d d' : Dec} (h : RefD w O c M d) (hb : Below w.heap.size w w') :
    RefD ((((w'.setCell ⟨M, 0, none⟩ (.string ⟨d'.rest.toArray⟩)).setCell ⟨M, 1, none⟩ (.int .u64 (d'.code : Int))).setCell ⟨M, 2, none⟩ (.int .u64 (d'.size : Int))).setCell ⟨M, 3, none⟩ (.bool d'.bad)) O c M d' ∧
    Step [c] w O ((((w'.setCell ⟨M, 0, none⟩ (.string ⟨d'.rest.toArray⟩)).setCell ⟨M, 1, none⟩ (.int .u64 (d'.code : Int))).setCell ⟨M, 2, none⟩ (.int .u64 (d'.size : Int))).setCell ⟨M, 3, none⟩ (.bool d'.bad)) O := by
  have b2 := Blk.step h (Step.of_below_same hb O) (by simp)
  refine ⟨?_, ?_⟩
  · have := (((b2.setCell 0 (.string ⟨d'.rest.toArray⟩)).setCell 1 (.int .u64 (d'.code : Int))).setCell 2 (.int .u64 (d'.size : Int))).setCell 3 (.bool d'.bad)
    unfold RefD
    simpa using this
  · have hc : O M ∈ [c] := by simp [h.2]
    exact ((((Step.of_below_same hb O).nil.setCell (p := ⟨M, 0, none⟩) (.inl hc) _).setCell (p := ⟨M, 1, none⟩) (.inl hc) _).setCell (p := ⟨M, 2, none⟩) (.inl hc) _).setCell (p := ⟨M, 3, none⟩) (.inl hc) _
/-- The developers' decoder, the reference's, and their probabilities. -/
structure LockD (w0 : World) (D M P Q : Nat) (d dr : Dec) (tot : Nat) (pl ql : List Nat) (w : World) (O : Paint) : Prop where
  run : Run w0 w O
  dec : DecAt w O 1 D d tot
  ref : RefD w O 2 M dr
  ps : Arr16 w O 3 P pl
  qs : Arr64 w O 4 Q ql
namespace LockD
variable {w0 w w' : World} {D M P Q tot tot' : Nat} {d dr d' : Dec} {pl ql : List Nat} {O O' : Paint}
theorem idle (h : LockD w0 D M P Q d dr tot pl ql w O) (hs : Step [] w O w' O') : LockD w0 D M P Q d dr tot pl ql w' O' :=
  ⟨h.run.step hs (by simp), h.dec.step hs (by simp), Blk.step h.ref hs (by simp), Blk.step h.ps hs (by simp), Blk.step h.qs hs (by simp)⟩
theorem dev (h : LockD w0 D M P Q d dr tot pl ql w O) (hs : Step [1] w O w' O') (he : DecAt w' O' 1 D d' tot') : LockD w0 D M P Q d' dr tot' pl ql w' O' :=
  ⟨h.run.step hs (by simp), he, Blk.step h.ref hs (by simp), Blk.step h.ps hs (by simp), Blk.step h.qs hs (by simp)⟩
theorem refs (h : LockD w0 D M P Q d dr tot pl ql w O) (hs : Step [2] w O w' O') (he : RefD w' O' 2 M d') : LockD w0 D M P Q d d' tot pl ql w' O' :=
  ⟨h.run.step hs (by simp), h.dec.step hs (by simp), he, Blk.step h.ps hs (by simp), Blk.step h.qs hs (by simp)⟩
theorem setP (h : LockD w0 D M P Q d dr tot pl ql w O) (j x : Nat) : LockD w0 D M P Q d dr tot (pl.set j x) ql (w.setCell ⟨P, j, Option.none⟩ (.int .u16 (x : Int))) O := by
  have hs := Step.store w O ⟨P, j, Option.none⟩ (.int .u16 (x : Int))
  simp only [h.ps.2] at hs
  exact ⟨h.run.step hs (by simp), h.dec.step hs (by simp), Blk.step h.ref hs (by simp), h.ps.set j x, Blk.step h.qs hs (by simp)⟩
theorem setQ (h : LockD w0 D M P Q d dr tot pl ql w O) (j x : Nat) : LockD w0 D M P Q d dr tot pl (ql.set j x) (w.setCell ⟨Q, j, Option.none⟩ (.int .u64 (x : Int))) O := by
  have hs := Step.store w O ⟨Q, j, Option.none⟩ (.int .u64 (x : Int))
  simp only [h.qs.2] at hs
  exact ⟨h.run.step hs (by simp), h.dec.step hs (by simp), Blk.step h.ref hs (by simp), Blk.step h.ps hs (by simp), h.qs.set j x⟩
end LockD
/-- What a round begins and ends with. -/
def LockedD (w0 : World) (D M P Q : Nat) (w : World) : Prop := ∃ (d : Dec) (tot : Nat) (pl : List Nat) (O : Paint), DecOk d ∧ pl.length = 4 ∧ Probs pl ∧ LockD w0 D M P Q d d tot pl pl w O
end Go.Proofs.Ytocoehjggkkoeaa.Rc
