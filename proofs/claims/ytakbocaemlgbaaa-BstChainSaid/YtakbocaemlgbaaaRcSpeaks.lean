/-
  Layer 3's statements: their first lines (speaks) return true; the part of a step.
-/
import Derived.Test.YtakbocaemlgbaaaRcDecD
import Derived.Test.YtakbocaemlgbaaaRcBackMath
namespace Go.Proofs.Ytakbocaemlgbaaa
open Go.RowKit
theorem Step.alloc_paint (w : World) (O : Paint) (c : Nat) (o : Obj) : Step [] w O (w.alloc o) (Step.paint O w c) := ((Step.refl [] w O).alloc o).repaint c
theorem Blk.new (w : World) (O : Paint) (c : Nat) (o : Obj) : Blk (w.alloc o) (Step.paint O w c) c w.heap.size o := ⟨heap_alloc_new w o, Step.paint_new (Nat.le_refl _)⟩
/-- Since w0 nothing that was there was written, and nobody owns it. -/
structure Run (w0 w : World) (O : Paint) : Prop where
  below : Below w0.heap.size w0 w
  clear : Clear w0.heap.size O
theorem Run.start (w : World) : Run w w (fun _ => 0) := ⟨Below.refl _ _, fun _ _ => rfl⟩
theorem Run.step {w0 w w' : World} {O O' : Paint} {cs : List Nat} (h : Run w0 w O) (hs : Step cs w O w' O') (h0 : 0 ∉ cs) : Run w0 w' O' :=
  ⟨h.clear.below hs h0 h.below.size h.below, h.clear.step hs h.below.size⟩
end Go.Proofs.Ytakbocaemlgbaaa
namespace Go.Proofs.Ytakbocaemlgbaaa.Rc
open Go.RowKit
theorem k_bits : (Dec.read (Enc.start.bit 1024 1).bytes).bitOf 1024 = 1 ∧ learn 1024 1 = 992 ∧ ((Dec.read (Enc.start.bit 1024 1).bytes).getBit 1024).done = true ∧ ((Dec.read (Enc.start.bit 1024 1).bytes).getBit 1024).bad = false := by decide +kernel
theorem k_bytes : Enc.start.bytes = [0, 0, 0, 0, 0] := by decide +kernel
end Go.Proofs.Ytakbocaemlgbaaa.Rc
