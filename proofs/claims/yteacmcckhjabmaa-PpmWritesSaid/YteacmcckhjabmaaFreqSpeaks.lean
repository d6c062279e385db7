/-
  Layer 5's statements: their first lines (speaks) return true, and write nothing that was there.
-/
import Derived.Test.YteacmcckhjabmaaFreqPut
namespace Go.Proofs.Yteacmcckhjabmaa.Fq
open Go.RowKit
open Rc (Enc Dec EncAt DecAt)
def N0 : Nat → Bool := fun _ => false
def l3 : List (Nat × Nat) := addT (addT (addT [] 97) 98) 97
def E1 : Enc := (putE Enc.start l3 N0 98).1
def E2 : Enc := (putE E1 l3 N0 99).1
def D0 : Dec := Dec.read E2.bytes
def D1 : Dec := (getD D0 l3 N0).1
def D2 : Dec := (getD D1 l3 N0).1
theorem k_speaks : (putE Enc.start l3 N0 98).2 = true ∧ (putE E1 l3 N0 99).2 = false ∧ (getD D0 l3 N0).2 = (98, true) ∧ (getD D1 l3 N0).2 = (0, false) ∧ hasB l3 97 = true ∧ D2.done = true ∧ E2.turns ≤ 1000 ∧ E1.turns ≤ 1000 ∧ allOf N0 l3 ≤ 65536 ∧ l3.length = 2 := by decide +kernel
theorem notNil (w : World) : NotAt w (.pointer none) N0 := .inl ⟨rfl, fun _ => rfl⟩
theorem tab_l3 : Tab 120 l3 := tab_add (tab_add (tab_add (fun x hx => by cases hx) (by omega)) (by omega)) (by omega)
theorem tab_wide {b c : Nat} {l : List (Nat × Nat)} (h : Tab b l) (hbc : b ≤ c) : Tab c l := fun x hx => by have := h x hx; omega
end Go.Proofs.Yteacmcckhjabmaa.Fq
