/-
  Layer 3's statements: the reference's encoder in a variable, arrays of probabilities, and all of them beside each other.
-/
import Derived.Test.YthejbnodalnnpaaRcLaws
import Derived.Test.YthejbnodalnnpaaRcRefBit
import Derived.Test.YthejbnodalnnpaaProbsMath
namespace Go.Proofs.Ythejbnodalnnpaa.Rc
open Go.RowKit
theorem _root_.Go.Proofs.Ythejbnodalnnpaa.Held.toRow {w : World} {O : Paint} {c : Nat} {v : Value} {l : List UInt8} (h : Held w O c 5 v (l.map byte)) : Row w v l := by
  have := h.row
  rw [List.length_map] at this
  exact this
theorem Row.toOwn {w : World} {v : Value} {l : List UInt8} (h : Row w v l) : w.ownsRow 0 5 1 v (l.map byte).length (l.map byte) := by
  rw [List.length_map]; exact h
/-- Block M holds a reference's encoder with these numbers; it, and its bytes, belong to c. -/
def RefAt (w : World) (O : Paint) (c M g cap : Nat) (e : Enc) : Prop :=
  Blk w O c M (.cells #[.slice (some ⟨g, 0, none⟩) (e.turns + 4) cap, .int .u64 (e.size : Int)] 36 (0, 0)) ∧
  Held w O c 5 (.slice (some ⟨g, 0, none⟩) (e.turns + 4) cap) ((be (e.turns + 4) e.low).map byte)
def RefBlk (w : World) (O : Paint) (c M : Nat) (e : Enc) : Prop := ∃ g cap, RefAt w O c M g cap e
theorem RefBlk.step {cs : List Nat} {w w' : World} {O O' : Paint} {c M : Nat} {e : Enc} (h : RefBlk w O c M e) (hs : Step cs w O w' O') (hc : c ∉ cs) : RefBlk w' O' c M e := by
  obtain ⟨g, cap, h1, h2⟩ := h
  exact ⟨g, cap, h1.step hs hc, h2.step hs hc⟩
/-- The reference's encoder was handed back anew, and is stored. -/
theorem RefAt.set {w w' : World} {O : Paint} {c M g cap g' n' cap' : Nat} {e e' : Enc} (h : RefAt w O c M g cap e) (hb : Below w.heap.size w w') (hr : Row w' (.slice (some ⟨g', 0, none⟩) n' cap') (be (e'.turns + 4) e'.low)) (hm : Moved w (.slice (some ⟨g, 0, none⟩) (e.turns + 4) cap) (.slice (some ⟨g', 0, none⟩) n' cap')) (hn : n' = e'.turns + 4) :
    RefBlk ((w'.setCell ⟨M, 0, none⟩ (.slice (some ⟨g', 0, none⟩) n' cap')).setCell ⟨M, 1, none⟩ (.int .u64 (e'.size : Int))) (Step.paint O w c) c M e' ∧
    Step [c] w O ((w'.setCell ⟨M, 0, none⟩ (.slice (some ⟨g', 0, none⟩) n' cap')).setCell ⟨M, 1, none⟩ (.int .u64 (e'.size : Int))) (Step.paint O w c) := by
  subst hn
  obtain ⟨h1, h2⟩ := h
  have s0 : Step [c] w O w' (Step.paint O w c) := (Step.of_below hb O c).nil
  have hne : g ≠ M := h2.ne h1.1 (by decide)
  have b2 := h1.step (Step.of_below hb O c) (by simp)
  have r2 : Held w' (Step.paint O w c) c 5 (.slice (some ⟨g', 0, none⟩) (e'.turns + 4) cap') ((be (e'.turns + 4) e'.low).map byte) := h2.moved hr.toOwn hm
  have hn2 : (Value.slice (some ⟨g', 0, none⟩) (e'.turns + 4) cap').ownBlock ≠ some M := by simp [Value.ownBlock]; exact r2.ne b2.1 (by decide)
  refine ⟨⟨g', cap', ?_, ?_⟩, ?_⟩
  · simpa using (b2.setCell 0 (.slice (some ⟨g', 0, none⟩) (e'.turns + 4) cap')).setCell 1 (.int .u64 (e'.size : Int))
  · exact (r2.setCell_other (p := ⟨M, 0, none⟩) hn2 _).setCell_other (p := ⟨M, 1, none⟩) hn2 _
  · have hc : O M ∈ [c] := by simp [h1.2]
    exact (s0.setCell (p := ⟨M, 0, none⟩) (.inl hc) _).setCell (p := ⟨M, 1, none⟩) (.inl hc) _
def u16s (l : List Nat) : List Value := l.map fun (n : Nat) => Value.int .u16 (n : Int)
def u64s (l : List Nat) : List Value := l.map fun (n : Nat) => Value.int .u64 (n : Int)
namespace Lock
variable {w0 w w' : World} {a M P Q : Nat} {e er : Enc} {pl ql : List Nat} {O O' : Paint}
end Lock
theorem and1_i64 (v i : Nat) (hv : v < 9223372036854775808) : bits .and .i64 ((v : Int) / 2 ^ i) 1 = ((bitAt v i : Nat) : Int) := by
  have hle : v / 2 ^ i < 9223372036854775808 := Nat.lt_of_le_of_lt (Nat.div_le_self _ _) hv
  have h2 : ((v : Int) / 2 ^ i) = ((v / 2 ^ i : Nat) : Int) := by simp
  have two63 : (2 : Int) ^ 63 = 9223372036854775808 := by decide
  rw [h2]
  unfold bitAt
  generalize v / 2 ^ i = q at *
  have h := bits_mask .i64 63 (by decide) (fun n h0 h1 => by rw [two63] at h1; rw [IntKind.wrap_i64]; omega) 1 (by decide) (q : Int) (by omega) (by rw [two63]; omega)
  have e : ((2 : Int) ^ 1 - 1) = 1 := by decide
  rw [e] at h
  rw [h]
  omega
theorem low_bit (v : Nat) (hv : v < 4294967296) : IntKind.i64.wrap (bits .and .u32 (v : Int) 1) = ((v % 2 : Nat) : Int) := by
  have e := u32_and_nat v 1 hv (by omega)
  rw [nat_mask1] at e
  rw [show (1 : Int) = ((1 : Nat) : Int) from rfl, e]
  exact IntWalk.i64_in _ (by omega)
theorem low_bit64 (v : Nat) (hv : v < 4294967296) : wrap64 (bits .and .u32 (v : Int) 1) = ((v % 2 : Nat) : Int) := by
  rw [← IntWalk.i64_left]; exact low_bit v hv
theorem shr_wrap (v i : Nat) (hv : v < 9223372036854775808) : IntKind.i64.wrap ((v : Int) / 2 ^ i) = (v : Int) / 2 ^ i := by
  have hle : v / 2 ^ i < 9223372036854775808 := Nat.lt_of_le_of_lt (Nat.div_le_self _ _) hv
  have h2 : ((v : Int) / 2 ^ i) = ((v / 2 ^ i : Nat) : Int) := by simp
  rw [h2]
  generalize v / 2 ^ i = q at *
  exact IntWalk.i64_in _ (by omega)
theorem row_len {w : World} {v : Value} {t L : Nat} (h : Row w v (be (t + 4) L)) : ∃ g cap, v = .slice (some ⟨g, 0, none⟩) (t + 4) cap := by
  obtain ⟨g, cap, e⟩ := h.form (by rw [be_length]; omega)
  rw [be_length] at e
  exact ⟨g, cap, e⟩
end Go.Proofs.Ythejbnodalnnpaa.Rc
