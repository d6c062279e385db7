/-
  Layer 23: words in memory, texts as lists of bytes: plain laws.
-/
import Derived.Test.YtoabeohfbikpcaaDoorShaSum
import Derived.Test.YtoabeohfbikpcaaDoorShaMost
set_option linter.unusedVariables false
set_option linter.unusedSimpArgs false
namespace Go.Proofs.YtoabeohfbikpcaaDoor.Sh
open Go.RowKit
open Rc
/-- Words as cells. -/
def arr32 (l : List Nat) : Array Value := (l.map fun n : Nat => Value.int .u32 (n : Int)).toArray
theorem arr32_at {w : World} {N : Nat} {l : List Nat} {t : TypeId} (h : w.heap[N]? = some (.cells (arr32 l) t (0, 0))) {i : Nat} (hi : i < l.length) : w.cell? ⟨N, i, none⟩ = some (.int .u32 ((l.getD i 0 : Nat) : Int)) ∧ w.frozen? ⟨N, i, none⟩ = false := by
  constructor
  · simp [World.cell?, h, arr32, hi, List.getD]
  · simp [World.frozen?, h]
theorem arr32_set {w : World} {N : Nat} {l : List Nat} {t : TypeId} (h : w.heap[N]? = some (.cells (arr32 l) t (0, 0))) (i v : Nat) : (w.setCell ⟨N, i, none⟩ (.int .u32 (v : Int))).heap[N]? = some (.cells (arr32 (l.set i v)) t (0, 0)) := by
  rw [heap_setCell_same w N i _ _ _ h]
  congr 2
  simp [arr32, List.map_set]
theorem arr32_size (l : List Nat) : (arr32 l).size = l.length := by simp [arr32]
theorem arr32_all (l : List Nat) : (arr32 l).all (·.oneCell') = true := by simp [arr32, Array.all_eq_true]; intros; rfl
theorem md_cast (n : Nat) : IntKind.u32.wrap (n : Int) = ((md n : Nat) : Int) := by
  rw [IntKind.wrap_u32]
  unfold md
  omega
theorem md_add (a b : Nat) : IntKind.u32.wrap ((a : Int) + (b : Int)) = ((md (a + b) : Nat) : Int) := by rw [← Int.natCast_add, md_cast]
/-- Words in a block of one's own. -/
structure RD (w : World) (D : Nat) (t : TypeId) (l : List Nat) (wr : World) : Prop where
  below : Below w.heap.size w wr
  d : wr.heap[D]? = some (.cells (arr32 l) t (0, 0))
theorem RD.trans {w wr w2 : World} {D : Nat} {t : TypeId} {l : List Nat} (h : RD w D t l wr) (hb : Below wr.heap.size wr w2) : RD w D t l w2 :=
  ⟨h.below.trans (hb.mono h.below.size), (hb.block D (lt_of_heap h.d)).trans h.d⟩
theorem RD.set {w wr : World} {D : Nat} {t : TypeId} {l : List Nat} (h : RD w D t l wr) (hD : w.heap.size ≤ D) (i v : Nat) : RD w D t (l.set i v) (wr.setCell ⟨D, i, none⟩ (.int .u32 (v : Int))) :=
  ⟨h.below.setCell hD _, arr32_set h.d i v⟩
theorem RD.drewN {w wr : World} {D : Nat} {t : TypeId} {l : List Nat} (h : RD w D t l wr) (n : Nat) : RD w D t l (wr.drewN n) := ⟨⟨h.below.os, h.below.tape, h.below.output, h.below.size, h.below.block⟩, h.d⟩
theorem RD.drew {w wr : World} {D : Nat} {t : TypeId} {l : List Nat} (h : RD w D t l wr) : RD w D t l wr.drew := ⟨h.below.drew, h.d⟩
/-- Registers in eight variables. -/
def RL (r : R8) (a b c d e f g h : Value) : Prop := a = .int .u32 (r.a : Int) ∧ b = .int .u32 (r.b : Int) ∧ c = .int .u32 (r.c : Int) ∧ d = .int .u32 (r.d : Int) ∧ e = .int .u32 (r.e : Int) ∧ f = .int .u32 (r.f : Int) ∧ g = .int .u32 (r.g : Int) ∧ h = .int .u32 (r.h : Int)
theorem regs_at {w : World} {N : Nat} {r : R8} {t : TypeId} (h : w.heap[N]? = some (.cells (arr32 r.toL) t (0, 0))) :
    w.cell? ⟨N, 0, none⟩ = some (.int .u32 (r.a : Int)) ∧ w.cell? ⟨N, 1, none⟩ = some (.int .u32 (r.b : Int)) ∧ w.cell? ⟨N, 2, none⟩ = some (.int .u32 (r.c : Int)) ∧ w.cell? ⟨N, 3, none⟩ = some (.int .u32 (r.d : Int)) ∧ w.cell? ⟨N, 4, none⟩ = some (.int .u32 (r.e : Int)) ∧ w.cell? ⟨N, 5, none⟩ = some (.int .u32 (r.f : Int)) ∧ w.cell? ⟨N, 6, none⟩ = some (.int .u32 (r.g : Int)) ∧ w.cell? ⟨N, 7, none⟩ = some (.int .u32 (r.h : Int)) :=
  ⟨(arr32_at h (i := 0) (by simp [R8.toL])).1, (arr32_at h (i := 1) (by simp [R8.toL])).1, (arr32_at h (i := 2) (by simp [R8.toL])).1, (arr32_at h (i := 3) (by simp [R8.toL])).1, (arr32_at h (i := 4) (by simp [R8.toL])).1, (arr32_at h (i := 5) (by simp [R8.toL])).1, (arr32_at h (i := 6) (by simp [R8.toL])).1, (arr32_at h (i := 7) (by simp [R8.toL])).1⟩
/-- Registers added one by one. -/
theorem plus_any (H Z : R8) : ∃ F : Nat → List Nat, F 0 = H.toL ∧ (∀ i, i < 8 → (F i).length = 8 ∧ (F i).getD i 0 = H.toL.getD i 0 ∧ (F i).set i (md (H.toL.getD i 0 + Z.toL.getD i 0)) = F (i + 1)) ∧ F 8 = (plus H Z).toL := by
  refine ⟨fun i => (plus H Z).toL.take i ++ H.toL.drop i, rfl, fun i h => ?_, rfl⟩
  match i, h with
  | 0, _ | 1, _ | 2, _ | 3, _ | 4, _ | 5, _ | 6, _ | 7, _ => exact ⟨rfl, rfl, rfl⟩
/-- A text. -/
def tx (l : List UInt8) : ByteArray := ⟨l.toArray⟩
theorem tx_size (l : List UInt8) : (tx l).size = l.length := by simp [tx, ByteArray.size]
theorem tx_list (l : List UInt8) : (tx l).data.toList = l := by simp [tx]
theorem tx_of (s : ByteArray) : tx s.data.toList = s := by
  apply ByteArray.ext
  apply Array.toList_inj.1
  rfl
theorem tx_append (a b : List UInt8) : tx a ++ tx b = tx (a ++ b) := by
  apply ByteArray.ext
  apply Array.toList_inj.1
  simp [tx]
theorem tx_extract (l : List UInt8) (i j : Nat) : (tx l).extract i j = tx ((l.drop i).take (j - i)) := by
  apply ByteArray.ext
  apply Array.toList_inj.1
  rw [ByteArray.data_extract, Array.toList_extract]
  simp [tx, List.extract_eq_take_drop]
theorem tx_get (l : List UInt8) (i : Nat) (h : i < (tx l).size) : (tx l)[i] = l.getD i 0 := by
  rw [tx_size] at h
  rw [List.getD_eq_getElem?_getD, List.getElem?_eq_getElem h]
  rfl
theorem wpList_build_some {P : Program} {ops : Array Oper} {rest : List Oper} {o : Oper} {a : Act} {w : World} {Q : Exit → Act → World → Prop} (hg : o.guard = none) (t : TypeId) (parts : Array (Nat × Operand)) (ho : o.op = .build t parts) (cells : Array Value)
    (hc : P.built t (parts.map fun (i, x) => (i, a.eval x)).toList = some cells) (h : wpList P ops Q rest (a.put o.dst (.agg cells)) w) : wpList P ops Q (o :: rest) a w := wpList_build hg t parts ho (by rw [hc]; rfl) (by rw [hc]; exact h)
theorem info8u : (Tryd.prog.info? 41).map (·.size) = some 8 := by kernel_rfl
theorem built8 (r : R8) : Tryd.prog.built 41 [(0, .int .u32 (r.a : Int)), (1, .int .u32 (r.b : Int)), (2, .int .u32 (r.c : Int)), (3, .int .u32 (r.d : Int)), (4, .int .u32 (r.e : Int)), (5, .int .u32 (r.f : Int)), (6, .int .u32 (r.g : Int)), (7, .int .u32 (r.h : Int))] = some (arr32 r.toL) := by
  kernel_rfl
/-- Bytes in memory as a text. -/
theorem bytes_text {W : World} {k cap : Nat} (l : List UInt8) (hc : ∀ i, i < l.length → W.cell? ⟨k, i, none⟩ = some (.int .u8 ((l.getD i 0).toNat : Int))) : (convert 27 9 (.slice (some ⟨k, 0, none⟩) l.length cap)).run Tryd.prog W = .ok (.string (tx l)) W := by
  refine run_convert_bytes_back W 27 9 5 ⟨k, 0, none⟩ cap l Tryd.underlying27 Tryd.underlying5 Tryd.underlying9 (fun j hj => ?_)
  have := hc j hj
  rw [List.getD_eq_getElem?_getD, List.getElem?_eq_getElem hj] at this
  rw [show (⟨k, 0, none⟩ : Addr).add j = ⟨k, j, none⟩ by simp [Addr.add]; exact fun h => h.symm, this]
  rfl
theorem four_text {W : World} {b0 b1 b2 b3 : Nat} (h0 : b0 < 256) (h1 : b1 < 256) (h2 : b2 < 256) (h3 : b3 < 256) : (convert 27 9 (.slice (some ⟨W.heap.size, 0, none⟩) 4 4)).run Tryd.prog (W.alloc (.cells #[.int .u8 (b0 : Int), .int .u8 (b1 : Int), .int .u8 (b2 : Int), .int .u8 (b3 : Int)] 5)) = .ok (.string (tx [UInt8.ofNat b0, UInt8.ofNat b1, UInt8.ofNat b2, UInt8.ofNat b3])) (W.alloc (.cells #[.int .u8 (b0 : Int), .int .u8 (b1 : Int), .int .u8 (b2 : Int), .int .u8 (b3 : Int)] 5)) := by
  refine bytes_text [UInt8.ofNat b0, UInt8.ofNat b1, UInt8.ofNat b2, UInt8.ofNat b3] (fun i hi => ?_)
  have := heap_alloc_new W (.cells #[.int .u8 (b0 : Int), .int .u8 (b1 : Int), .int .u8 (b2 : Int), .int .u8 (b3 : Int)] 5)
  have e : ∀ b, b < 256 → (UInt8.ofNat b).toNat = b := fun b hb => by rw [UInt8.toNat_ofNat']; omega
  unfold World.cell?
  rw [this]
  match i, hi with
  | 0, _ => show some (Value.int .u8 (b0 : Int)) = some (Value.int .u8 ((UInt8.ofNat b0).toNat : Int)); rw [e _ h0]
  | 1, _ => show some (Value.int .u8 (b1 : Int)) = some (Value.int .u8 ((UInt8.ofNat b1).toNat : Int)); rw [e _ h1]
  | 2, _ => show some (Value.int .u8 (b2 : Int)) = some (Value.int .u8 ((UInt8.ofNat b2).toNat : Int)); rw [e _ h2]
  | 3, _ => show some (Value.int .u8 (b3 : Int)) = some (Value.int .u8 ((UInt8.ofNat b3).toNat : Int)); rw [e _ h3]
theorem four_text_drew {W : World} {b0 b1 b2 b3 : Nat} (h0 : b0 < 256) (h1 : b1 < 256) (h2 : b2 < 256) (h3 : b3 < 256) : (convert 27 9 (.slice (some ⟨W.heap.size, 0, none⟩) 4 4)).run Tryd.prog (W.alloc (.cells #[.int .u8 (b0 : Int), .int .u8 (b1 : Int), .int .u8 (b2 : Int), .int .u8 (b3 : Int)] 5)).drew = .ok (.string (tx [UInt8.ofNat b0, UInt8.ofNat b1, UInt8.ofNat b2, UInt8.ofNat b3])) (W.alloc (.cells #[.int .u8 (b0 : Int), .int .u8 (b1 : Int), .int .u8 (b2 : Int), .int .u8 (b3 : Int)] 5)).drew := by
  refine bytes_text [UInt8.ofNat b0, UInt8.ofNat b1, UInt8.ofNat b2, UInt8.ofNat b3] (fun i hi => ?_)
  have := heap_alloc_new W (.cells #[.int .u8 (b0 : Int), .int .u8 (b1 : Int), .int .u8 (b2 : Int), .int .u8 (b3 : Int)] 5)
  have e : ∀ b, b < 256 → (UInt8.ofNat b).toNat = b := fun b hb => by rw [UInt8.toNat_ofNat']; omega
  show (W.alloc (.cells #[.int .u8 (b0 : Int), .int .u8 (b1 : Int), .int .u8 (b2 : Int), .int .u8 (b3 : Int)] 5)).cell? _ = _
  unfold World.cell?
  rw [this]
  match i, hi with
  | 0, _ => show some (Value.int .u8 (b0 : Int)) = some (Value.int .u8 ((UInt8.ofNat b0).toNat : Int)); rw [e _ h0]
  | 1, _ => show some (Value.int .u8 (b1 : Int)) = some (Value.int .u8 ((UInt8.ofNat b1).toNat : Int)); rw [e _ h1]
  | 2, _ => show some (Value.int .u8 (b2 : Int)) = some (Value.int .u8 ((UInt8.ofNat b2).toNat : Int)); rw [e _ h2]
  | 3, _ => show some (Value.int .u8 (b3 : Int)) = some (Value.int .u8 ((UInt8.ofNat b3).toNat : Int)); rw [e _ h3]
theorem one_text {W : World} {b : Nat} (hb : b < 256) : (convert 27 9 (.slice (some ⟨W.heap.size, 0, none⟩) 1 1)).run Tryd.prog (W.alloc (.cells #[.int .u8 (b : Int)] 5)) = .ok (.string (tx [UInt8.ofNat b])) (W.alloc (.cells #[.int .u8 (b : Int)] 5)) := by
  refine bytes_text [UInt8.ofNat b] (fun i hi => ?_)
  obtain rfl : i = 0 := by simpa using hi
  have := heap_alloc_new W (.cells #[.int .u8 (b : Int)] 5)
  unfold World.cell?
  rw [this]
  have e : (UInt8.ofNat b).toNat = b := by rw [UInt8.toNat_ofNat']; omega
  show some (Value.int .u8 (b : Int)) = _
  rw [show ([UInt8.ofNat b].getD 0 0) = UInt8.ofNat b from rfl, e]
end Go.Proofs.YtoabeohfbikpcaaDoor.Sh
