/-
  Package lzdec: the contract of run, whoever is told the packets.
-/
import Derived.Test.YtollngjnoccmfaaLzHead
set_option linter.unusedVariables false
namespace Go.Proofs.Ytollngjnoccmfaa.Lz
open Go.RowKit
open Rc Mo
open Pk (Rp Pt four IsPts)
theorem Whole_len {w : World} {O : Paint} {i : Mid} {m : Ms} {Q : Qs} (h : Whole w O i m Q) : m.l.length ≤ i.most.toNat := by
  have h1 := h.len
  have h2 := h.wmE
  rw [h2] at h1
  exact h1
theorem yes {A B : Prop} (_ : A) (_ : B) : True := trivial
theorem TellAt.idle {w w' : World} {O O' : Paint} {L : Nat} {acc : List Pt} (h : TellAt w O L acc) (hs : Step [] w O w' O') : TellAt w' O' L acc := h.step hs (by simp) (by simp)
theorem TellAt.get {w w' : World} {O O' : Paint} {L : Nat} {acc : List Pt} (h : TellAt w O L acc) (hs : Step [6, 1, 2] w O w' O') : TellAt w' O' L acc := h.step hs (by simp) (by simp)
end Go.Proofs.Ytollngjnoccmfaa.Lz
