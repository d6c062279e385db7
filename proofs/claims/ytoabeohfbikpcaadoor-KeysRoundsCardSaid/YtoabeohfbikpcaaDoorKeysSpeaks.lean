/-
  Layer 26: what the law asks first.
-/
import Derived.Test.YtoabeohfbikpcaaDoorKeysDev
import Derived.Test.YtoabeohfbikpcaaDoorKeysEnds
import Derived.Deep.RegionHeld3
set_option linter.unusedVariables false
set_option linter.unusedSimpArgs false
namespace Go.Proofs.YtoabeohfbikpcaaDoor.Sh
open Go.RowKit
open Rc
theorem wf_u8 {n : Int} (h : (Lit.int .u8 n).wf = true) : 0 ≤ n ∧ n ≤ 255 := by simpa [Lit.wf, IntKind.min, IntKind.max, IntKind.signed, IntKind.bits] using h
theorem wf_i8 {n : Int} (h : (Lit.int .i8 n).wf = true) : -128 ≤ n ∧ n ≤ 127 := by simpa [Lit.wf, IntKind.min, IntKind.max, IntKind.signed, IntKind.bits] using h
theorem below_drawn {B : Nat} {w w' : World} (h : Below B w w') (k : Nat) : Below B w (w'.drewN k) := ⟨h.os, h.tape, h.output, h.size, h.block⟩
/-- Two texts in a block, behind what was there. -/
structure KB (w : World) (D : Nat) (x y : ByteArray) (wr : World) : Prop where
  below : Below w.heap.size w wr
  d : wr.heap[D]? = some (.cells #[.string x, .string y] 29 (0, 0))
theorem KB.trans {w wr w2 : World} {D : Nat} {x y : ByteArray} (h : KB w D x y wr) (hb : Below wr.heap.size wr w2) : KB w D x y w2 :=
  ⟨h.below.trans (hb.mono h.below.size), (hb.block D (lt_of_heap h.d)).trans h.d⟩
theorem KB.drew {w wr : World} {D : Nat} {x y : ByteArray} (h : KB w D x y wr) : KB w D x y wr.drew := ⟨h.below.drew, h.d⟩
theorem KB.cells {w wr : World} {D : Nat} {x y : ByteArray} (h : KB w D x y wr) : wr.cell? ⟨D, 0, none⟩ = some (.string x) ∧ wr.cell? ⟨D, 1, none⟩ = some (.string y) := by
  constructor <;> simp [World.cell?, h.d]
theorem KB.pt {w wr : World} {D : Nat} {x y : ByteArray} (h : KB w D x y wr) : KB w D x y wr ∧ wr.cell? ⟨D, 0, none⟩ = some (.string x) ∧ wr.cell? ⟨D, 1, none⟩ = some (.string y) := ⟨h, h.cells⟩
set_option maxRecDepth 100000 in
set_option maxHeartbeats 4000000 in
theorem speaks26 (w : World) (hks : Ks w) (hz : 0 < w.heap.size) : Calls Tryd.prog 5 #[] w fun x w' => x = .returned (.bool true) ∧ Below w.heap.size w w' := by
  have HDE := Lib.hid (fun (V : World) (hb : Below w.heap.size w V) => show Calls Tryd.prog 8 #[.string ⟨#[112]⟩, .string ⟨#[115]⟩, .int .i64 1] V fun z w' => z = .returned (.agg #[.string (tx (hmacL (kdf [115, 112] 2) cipherL)), .string (tx (hmacL (kdf [115, 112] 2) sumL'))]) ∧ Below V.heap.size V w' from derive_any [112] [115] (by simp) (by simp) 1 (by decide) (by decide) V (hks.below hb hz) (Nat.lt_of_lt_of_le hz hb.size))
  have a1 : (tx (hmacL (kdf [115, 112] 2) cipherL)).size = 32 := tx_size _
  have a2 : (tx (hmacL (kdf [115, 112] 2) sumL')).size = 32 := tx_size _
  have hne : tx (hmacL (kdf [115, 112] 2) cipherL) ≠ tx (hmacL (kdf [115, 112] 2) sumL') := fun h => by
    have e : hmacL (kdf [115, 112] 2) cipherL = hmacL (kdf [115, 112] 2) sumL' := by rw [← tx_list (hmacL (kdf [115, 112] 2) cipherL), h, tx_list]
    have e2 := keys_end1
    rw [e, keys_end2] at e2
    exact absurd e2 (by decide)
  generalize tx (hmacL (kdf [115, 112] 2) cipherL) = X1 at *
  generalize tx (hmacL (kdf [115, 112] 2) sumL') = X2 at *
  clear hks hz
  go_enter Tryd.func5, Tryd.ntmps5
  go_wp2_with fail
  refine (HDE.out w (Below.refl _ _)).mono ?_
  rintro z w1 ⟨rfl, hb1⟩
  have HB1 := Lib.hid hb1
  clear hb1
  --@1
  go_upto_region 2 with (fail)
  obtain ⟨D, hD⟩ : ∃ D, D = w1.heap.size := ⟨_, rfl⟩
  have HK0 := Lib.hid (show KB w D X1 X2 (w1.alloc (.cells #[.string X1, .string X2] 29)) from ⟨HB1.out.alloc HB1.out.size _, hD ▸ heap_alloc_new _ _⟩)
  rw [← hD]
  clear hD HB1
  generalize w1.alloc (.cells #[.string X1, .string X2] 29) = w2 at *
  have hne1 : (X1.toList == X2.toList) = false := by
    rw [beq_eq_false_iff_ne]
    intro h
    rw [ByteArray.toList_eq, ByteArray.toList_eq] at h
    exact hne (ByteArray.ext (Array.toList_inj.1 h))
  clear hne
  --@2
  go_region_held3 (fun W' => KB w D X1 X2 W' ∧ W'.cell? ⟨D, 0, none⟩ = some (.string X1) ∧ W'.cell? ⟨D, 1, none⟩ = some (.string X2)) (first | exact HK0.out.pt | exact HK0.out.drew.pt | exact HK1.out.pt) (first | (go_at_call 8; (with_reducible refine (HDE.out _ (by first | exact HK0.out.below | exact HK0.out.drew.below)).mono ?_); rintro z w3 ⟨rfl, hb3⟩; have HK1 := Lib.hid (HK0.out.drew.trans hb3)))
  all_goals
    go_wp2_with fail
    go_ret
    exact ⟨rfl, HK1.out.below⟩
end Go.Proofs.YtoabeohfbikpcaaDoor.Sh
