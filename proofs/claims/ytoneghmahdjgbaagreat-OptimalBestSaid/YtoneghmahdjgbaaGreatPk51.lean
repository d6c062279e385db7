/-
  Layer 3's statements: a step that came in, its part; the encoder in lockstep with the reference's.
  Contracts of the reference's encoder of layer 3 (Low as all its bytes): each call returns what the plain mathematics says, and writes nothing that was there.
  Contracts of the reference's encoder of layer 3, more: Bit, Direct, Part.
  Layer 3's statements: the reference's encoder in a variable, arrays of probabilities, and all of them beside each other.
-/
import Derived.Test.YtoneghmahdjgbaaGreatPk01
import Derived.Test.YtoneghmahdjgbaaGreatPk03
import Derived.Deep.DeepCutAuto
import Derived.Deep.CutBlock
section
namespace Go.Proofs.YtoneghmahdjgbaaGreat.Rc
open Go.RowKit
/-- A step, as it came in. -/
structure St where
  what : Nat
  which : Nat
  v : Nat
  n : Nat
  total : Nat
def St.Ok (x : St) : Prop := x.what < 256 ∧ x.which < 256 ∧ x.v < 4294967296 ∧ x.n < 256 ∧ x.total < 65536
def St.C (x : St) : Nat := 1 + x.total
def St.A (x : St) : Nat := x.v % x.C
def St.B (x : St) : Nat := 1 + x.v / 7 % (x.C - x.A)
theorem St.parts {x : St} (h : x.Ok) : 1 ≤ x.B ∧ x.A + x.B ≤ x.C ∧ x.C ≤ 65536 ∧ 1 ≤ x.C := by
  have h5 := h.2.2.2.2
  have hC : x.C = 1 + x.total := rfl
  have hA : x.A < x.C := Nat.mod_lt _ (by omega)
  have hB : x.v / 7 % (x.C - x.A) < x.C - x.A := Nat.mod_lt _ (by omega)
  have hBe : x.B = 1 + x.v / 7 % (x.C - x.A) := rfl
  omega
/-- The five cells of a step. -/
def IsStep (w : World) (b o : Nat) (x : St) : Prop :=
  w.cell? ⟨b, o, none⟩ = some (.int .u8 (x.what : Int)) ∧ w.cell? ⟨b, o + 1, none⟩ = some (.int .u8 (x.which : Int)) ∧ w.cell? ⟨b, o + 2, none⟩ = some (.int .u32 (x.v : Int)) ∧ w.cell? ⟨b, o + 3, none⟩ = some (.int .u8 (x.n : Int)) ∧ w.cell? ⟨b, o + 4, none⟩ = some (.int .u16 (x.total : Int)) ∧ x.Ok
/-- What a walk is told of the list of steps that came in. -/
def IsSteps (w : World) (a : Option Addr) (len : Nat) : Prop :=
  len ≤ maxLen ∧ (len = 0 ∨ ∃ b off, a = some ⟨b, off, none⟩ ∧ b < w.heap.size ∧ ∀ i, i < len → ∃ x : St, IsStep w b (off + i * 5) x)
end Go.Proofs.YtoneghmahdjgbaaGreat.Rc
end
section
namespace Go.Proofs.YtoneghmahdjgbaaGreat.Rc
open Go.RowKit
/-- The reference's encoder, handed back. -/
def Gives (w : World) (v0 : Value) (e : Enc) (x : Ending) (w' : World) : Prop := ∃ v, x = .returned (.agg #[v, .int .u64 (e.size : Int)]) ∧ Row w' v (be (e.turns + 4) e.low) ∧ Below w.heap.size w w' ∧ Moved w v0 v
end Go.Proofs.YtoneghmahdjgbaaGreat.Rc
end
section
namespace Go.Proofs.YtoneghmahdjgbaaGreat.Rc
open Go.RowKit
theorem two {w : World} {X : Nat} {a b : Value} {t : TypeId} (h : w.heap[X]? = some (.cells #[a, b] t (0, 0))) :
    w.cell? ⟨X, 0, none⟩ = some a ∧ w.cell? ⟨X, 1, none⟩ = some b ∧ w.frozen? ⟨X, 0, none⟩ = false ∧ w.frozen? ⟨X, 1, none⟩ = false ∧ X < w.heap.size :=
  ⟨by simp [World.cell?, h], by simp [World.cell?, h], by simp [World.frozen?, h], by simp [World.frozen?, h], lt_of_heap h⟩
/-- The reference's encoder and a probability, handed back. -/
def Gives2 (w : World) (v0 : Value) (e : Enc) (p : Nat) (x : Ending) (w' : World) : Prop := ∃ v, x = .returned (.tuple #[.agg #[v, .int .u64 (e.size : Int)], .int .u64 (p : Int)]) ∧ Row w' v (be (e.turns + 4) e.low) ∧ Below w.heap.size w w' ∧ Moved w v0 v
theorem row_ne {w : World} {g n cap X : Nat} {l : List UInt8} {cs : Array Value} {t : TypeId} (h : Row w (.slice (some ⟨g, 0, none⟩) n cap) l) (hc : w.heap[X]? = some (.cells cs t (0, 0))) (ht : t ≠ 5) : g ≠ X := by
  rcases h.2 with ⟨e, _⟩ | ⟨g', cap', cur, e, _, hg, _⟩
  · simp at e
  · simp only [Value.slice.injEq, Option.some.injEq, Addr.mk.injEq, and_true] at e
    rintro rfl
    rw [e.1, hg] at hc
    simp only [Option.some.injEq, Obj.cells.injEq] at hc
    exact ht hc.2.1.symm
/-- Two cells of a block of another type are written: the row is as it was. -/
theorem laid {w w3 : World} {g n cap : Nat} {l : List UInt8} {cs : Array Value} {t : TypeId} (h : Row w3 (.slice (some ⟨g, 0, none⟩) n cap) l) (hc : w3.heap[w.heap.size + 1]? = some (.cells cs t (0, 0))) (ht : t ≠ 5) (hb : Below w.heap.size w w3) (a b : Value) :
    Row ((w3.setCell ⟨w.heap.size + 1, 0, none⟩ a).setCell ⟨w.heap.size + 1, 1, none⟩ b) (.slice (some ⟨g, 0, none⟩) n cap) l ∧ Below w.heap.size w ((w3.setCell ⟨w.heap.size + 1, 0, none⟩ a).setCell ⟨w.heap.size + 1, 1, none⟩ b) := by
  have hne := row_ne h hc ht
  refine ⟨h.frame (own := fun j => j = w.heap.size + 1) (((Frame.refl (fun j => j = w.heap.size + 1) w3).setCell (p := ⟨w.heap.size + 1, 0, none⟩) (.inl rfl) _).setCell (p := ⟨w.heap.size + 1, 1, none⟩) (.inl rfl) _) (fun j hj e => by simp [Value.ownBlock] at hj; omega), ?_⟩
  exact (hb.setCell (p := ⟨w.heap.size + 1, 0, none⟩) (by simp) _).setCell (p := ⟨w.heap.size + 1, 1, none⟩) (by simp) _
/-- The first block's cells are written: the row, and the block behind it, are as they were. -/
theorem kept {w w1 : World} {g n cap : Nat} {l : List UInt8} {cs ds : Array Value} {t : TypeId} (h : Row w1 (.slice (some ⟨g, 0, none⟩) n cap) l) (hc : w1.heap[w.heap.size]? = some (.cells cs t (0, 0))) (hd : w1.heap[w.heap.size + 1]? = some (.cells ds t (0, 0))) (ht : t ≠ 5) (hb : Below w.heap.size w w1) (a b : Value) :
    Row ((w1.setCell ⟨w.heap.size, 0, none⟩ a).setCell ⟨w.heap.size, 1, none⟩ b) (.slice (some ⟨g, 0, none⟩) n cap) l ∧ ((w1.setCell ⟨w.heap.size, 0, none⟩ a).setCell ⟨w.heap.size, 1, none⟩ b).heap[w.heap.size + 1]? = some (.cells ds t (0, 0)) ∧ Below w.heap.size w ((w1.setCell ⟨w.heap.size, 0, none⟩ a).setCell ⟨w.heap.size, 1, none⟩ b) := by
  have hne := row_ne h hc ht
  have hF : Frame (fun j => j = w.heap.size) w1 ((w1.setCell ⟨w.heap.size, 0, none⟩ a).setCell ⟨w.heap.size, 1, none⟩ b) := ((Frame.refl (fun j => j = w.heap.size) w1).setCell (p := ⟨w.heap.size, 0, none⟩) (.inl rfl) _).setCell (p := ⟨w.heap.size, 1, none⟩) (.inl rfl) _
  refine ⟨h.frame hF (fun j hj e => by simp [Value.ownBlock] at hj; omega), (hF.block _ (lt_of_heap hd) (by omega)).trans hd, ?_⟩
  exact (hb.setCell (p := ⟨w.heap.size, 0, none⟩) (Nat.le_refl _) _).setCell (p := ⟨w.heap.size, 1, none⟩) (Nat.le_refl _) _
/-- Behind a call that wrote nothing that was there: the two blocks that were laid ahead of it. -/
theorem behind {w w3 : World} {a b c d : Value} {t : TypeId} (h : Below ((w.alloc (.cells #[a, b] t)).alloc (.cells #[c, d] t)).heap.size ((w.alloc (.cells #[a, b] t)).alloc (.cells #[c, d] t)) w3) :
    w3.heap[w.heap.size]? = some (.cells #[a, b] t (0, 0)) ∧ w3.heap[w.heap.size + 1]? = some (.cells #[c, d] t (0, 0)) ∧ w.heap.size + 2 ≤ w3.heap.size ∧ Below w.heap.size w w3 := by
  have hs : ((w.alloc (.cells #[a, b] t)).alloc (.cells #[c, d] t)).heap.size = w.heap.size + 2 := by simp
  have h0 := h.size
  rw [hs] at h h0
  refine ⟨?_, ?_, h0, ?_⟩
  · rw [h.block _ (by omega), Below.heap_alloc _ _ _ (by simp)]
    exact heap_alloc_new w _
  · rw [h.block _ (by omega)]
    have := heap_alloc_new (w.alloc (.cells #[a, b] t)) (.cells #[c, d] t)
    rw [World.size_alloc] at this
    exact this
  · exact (((Below.refl _ _).alloc (Nat.le_refl _) _).alloc (by simp) _).trans (h.mono (by omega))
end Go.Proofs.YtoneghmahdjgbaaGreat.Rc
end
section
namespace Go.Proofs.YtoneghmahdjgbaaGreat.Rc
open Go.RowKit
def u16s (l : List Nat) : List Value := l.map fun (n : Nat) => Value.int .u16 (n : Int)
def u64s (l : List Nat) : List Value := l.map fun (n : Nat) => Value.int .u64 (n : Int)
namespace Lock
variable {w0 w w' : World} {a M P Q : Nat} {e er : Enc} {pl ql : List Nat} {O O' : Paint}
end Lock
theorem and1_i64 (v i : Nat) (hv : v < 9223372036854775808) : bits .and .i64 ((v : Int) / 2 ^ i) 1 = ((bitAt v i : Nat) : Int) := by
  have hle : v / 2 ^ i < 9223372036854775808 := Nat.lt_of_le_of_lt (Nat.div_le_self _ _) hv
  have h2 : ((v : Int) / 2 ^ i) = ((v / 2 ^ i : Nat) : Int) := by simp
  have two63 : (2 : Int) ^ 63 = 9223372036854775808 := by decide
  rw [h2]
  unfold bitAt
  generalize v / 2 ^ i = q at *
  have h := bits_mask .i64 63 (by decide) (fun n h0 h1 => by rw [two63] at h1; rw [IntKind.wrap_i64]; omega) 1 (by decide) (q : Int) (by omega) (by rw [two63]; omega)
  have e : ((2 : Int) ^ 1 - 1) = 1 := by decide
  rw [e] at h
  rw [h]
  omega
theorem shr_wrap (v i : Nat) (hv : v < 9223372036854775808) : IntKind.i64.wrap ((v : Int) / 2 ^ i) = (v : Int) / 2 ^ i := by
  have hle : v / 2 ^ i < 9223372036854775808 := Nat.lt_of_le_of_lt (Nat.div_le_self _ _) hv
  have h2 : ((v : Int) / 2 ^ i) = ((v / 2 ^ i : Nat) : Int) := by simp
  rw [h2]
  generalize v / 2 ^ i = q at *
  exact IntWalk.i64_in _ (by omega)
end Go.Proofs.YtoneghmahdjgbaaGreat.Rc
end
