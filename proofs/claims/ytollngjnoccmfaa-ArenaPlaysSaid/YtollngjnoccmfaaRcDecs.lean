/-
  Contracts of the developers' decoder of layer 3: what a decoder is in memory ('DecRaw'), the next byte, the turns.
  Contracts of the developers' decoder of layer 3, more: NewDecoder, Bad, Done, Bit; and of none.
  Contracts of the developers' decoder of layer 3, more: Direct, Where, Take; and of none.
  Layer 3's statements: their first lines (speaks) return true; the part of a step.
-/
import Derived.Test.YtollngjnoccmfaaRcEncs
import Derived.Test.YtollngjnoccmfaaBase
import Derived.Deep.RegionWith
import Derived.Deep.LoopGhost
section
namespace Go.Proofs.Ytollngjnoccmfaa.Rc
open Go.RowKit
theorem six {w : World} {X : Nat} {a b c d e f : Value} {t : TypeId} (h : w.heap[X]? = some (.cells #[a, b, c, d, e, f] t (0, 0))) :
    (w.cell? ⟨X, 0, none⟩ = some a ∧ w.cell? ⟨X, 1, none⟩ = some b ∧ w.cell? ⟨X, 2, none⟩ = some c ∧ w.cell? ⟨X, 3, none⟩ = some d ∧ w.cell? ⟨X, 4, none⟩ = some e ∧ w.cell? ⟨X, 5, none⟩ = some f) ∧
    (w.frozen? ⟨X, 0, none⟩ = false ∧ w.frozen? ⟨X, 1, none⟩ = false ∧ w.frozen? ⟨X, 2, none⟩ = false ∧ w.frozen? ⟨X, 3, none⟩ = false ∧ w.frozen? ⟨X, 4, none⟩ = false ∧ w.frozen? ⟨X, 5, none⟩ = false) := by
  refine ⟨⟨?_, ?_, ?_, ?_, ?_, ?_⟩, ?_, ?_, ?_, ?_, ?_, ?_⟩ <;> simp [World.cell?, World.frozen?, h]
theorem next_sized (d : Dec) (s : Nat) : ({ d with size := s } : Dec).next = { d.next with size := s } := by
  obtain ⟨rest, code, size, bad⟩ := d
  cases rest <;> rfl
end Go.Proofs.Ytollngjnoccmfaa.Rc
end
section
namespace Go.Proofs.Ytollngjnoccmfaa.Rc
open Go.RowKit
theorem step_bad (d : Dec) : stepD { d with bad := true } = { stepD d with bad := true } := by
  obtain ⟨rest, code, size, bad⟩ := d
  cases rest <;> rfl
theorem readN_bad (n : Nat) (d : Dec) : readN n { d with bad := true } = { readN n d with bad := true } := by
  induction n with
  | zero => rfl
  | succ n ih => rw [readN, ih, step_bad]; rfl
theorem step_coded (d : Dec) : stepD d = { d.next with code := 256 * d.code + d.byte } := rfl
theorem read_eq (s : List UInt8) : Dec.read s = readN 4 (if (Dec.fresh s).byte = 0 then (Dec.fresh s).next else { (Dec.fresh s).next with bad := true }) := by
  unfold Dec.read
  split
  · rfl
  · exact (readN_bad 4 _).symm
def Dec.done (d : Dec) : Bool := d.rest.isEmpty && d.code == 0
end Go.Proofs.Ytollngjnoccmfaa.Rc
end
section
namespace Go.Proofs.Ytollngjnoccmfaa.Rc
open Go.RowKit
end Go.Proofs.Ytollngjnoccmfaa.Rc
end
section
namespace Go.Proofs.Ytollngjnoccmfaa
open Go.RowKit
theorem Step.alloc_paint (w : World) (O : Paint) (c : Nat) (o : Obj) : Step [] w O (w.alloc o) (Step.paint O w c) := ((Step.refl [] w O).alloc o).repaint c
theorem Blk.new (w : World) (O : Paint) (c : Nat) (o : Obj) : Blk (w.alloc o) (Step.paint O w c) c w.heap.size o := ⟨heap_alloc_new w o, Step.paint_new (Nat.le_refl _)⟩
/-- Since w0 nothing that was there was written, and nobody owns it. -/
structure Run (w0 w : World) (O : Paint) : Prop where
  below : Below w0.heap.size w0 w
  clear : Clear w0.heap.size O
theorem Run.start (w : World) : Run w w (fun _ => 0) := ⟨Below.refl _ _, fun _ _ => rfl⟩
theorem Run.step {w0 w w' : World} {O O' : Paint} {cs : List Nat} (h : Run w0 w O) (hs : Step cs w O w' O') (h0 : 0 ∉ cs) : Run w0 w' O' :=
  ⟨h.clear.below hs h0 h.below.size h.below, h.clear.step hs h.below.size⟩
end Go.Proofs.Ytollngjnoccmfaa
namespace Go.Proofs.Ytollngjnoccmfaa.Rc
open Go.RowKit
theorem k_bits : (Dec.read (Enc.start.bit 1024 1).bytes).bitOf 1024 = 1 ∧ learn 1024 1 = 992 ∧ ((Dec.read (Enc.start.bit 1024 1).bytes).getBit 1024).done = true ∧ ((Dec.read (Enc.start.bit 1024 1).bytes).getBit 1024).bad = false := by decide +kernel
theorem k_bytes : Enc.start.bytes = [0, 0, 0, 0, 0] := by decide +kernel
end Go.Proofs.Ytollngjnoccmfaa.Rc
end
