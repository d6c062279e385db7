/-
  Package context: the map of steps from table to table: what it is in memory, what it tells, how it is set, and cleared.
-/
import Derived.Test.YteacmcckhjabmaaBase
import Derived.Maps.OwnSet
set_option linter.unusedVariables false
namespace Go.Proofs.Yteacmcckhjabmaa.Cx
open Go.RowKit Go.Maps
open Rc
abbrev Du := DataW Unit
theorem laidOutS : laidOutB Try.prog = true := by kernel_rfl
theorem rowS : (163 : TypeId) < Try.prog.types.size := of_decide_eq_true (by kernel_rfl)
theorem keyAtS : Try.prog.keyTypeAt 2 163 = true := by kernel_rfl
theorem lawS : Keyed Try.prog 163 := Keyed.of_law (deep_law_laid laidOutS (m := 2) (by omega) rowS keyAtS (by rw [Try.underlying163]))
theorem cellsS : Try.prog.cellsOf 163 = 2 := by kernel_rfl
theorem cellsI : Try.prog.cellsOf 3 = 1 := by kernel_rfl
theorem cellsB : Try.prog.cellsOf 5 = 1 := by kernel_rfl
theorem keyTypeS : Try.prog.keyType 163 = true := by kernel_rfl
theorem wfI {x : Nat} (h : x < 1000000000) : (Lit.int .i64 (x : Int)).wf = true := by
  have h1 : (IntKind.i64.min : Int) ≤ x := by rw [show IntKind.i64.min = -9223372036854775808 from rfl]; omega
  simp [Lit.wf, h1]
  omega
theorem wf8 {x : Nat} (h : x < 256) : (Lit.int .u8 (x : Int)).wf = true := by
  have h1 : (IntKind.u8.min : Int) ≤ x := by rw [show IntKind.u8.min = 0 from rfl]; omega
  have h2 : (x : Int) ≤ IntKind.u8.max := by rw [show IntKind.u8.max = 255 from rfl]; omega
  simp [Lit.wf, h1, h2]
def lits2 (x y : Nat) : List Lit := [.int .i64 (x : Int), .int .u8 (y : Int)]
def val2 (x y : Nat) : Value := .agg #[.int .i64 (x : Int), .int .u8 (y : Int)]
def key2 (x y : Nat) : Lit := .string (keyBytes (lits2 x y))
theorem key_lits2 {x y : Nat} (hx : x < 1000000000) (hy : y < 256) (n : Nat) :
    Try.prog.keyLits (n + 1 + 1) 163 [.int .i64 (x : Int), .int .u8 (y : Int)] = some (lits2 x y) := by
  simp [Program.keyLits, Try.underlying163, Try.underlying3, Try.underlying5, cellsS, cellsI, cellsB, wfI hx, wf8 hy, lits2]
theorem key_of2 {x y : Nat} (hx : x < 1000000000) (hy : y < 256) : keyOf Try.prog 163 (val2 x y) = some (key2 x y) := by
  unfold keyOf val2 key2
  obtain ⟨n, hn⟩ : ∃ n, Try.prog.types.size = n + 1 := ⟨Try.prog.types.size - 1, by have h : (163 : Nat) < Try.prog.types.size := rowS; omega⟩
  have hl := key_lits2 hx hy n
  rw [hn]
  generalize n + 1 + 1 = m at *
  have hf : (Value.agg #[.int .i64 (x : Int), .int .u8 (y : Int)]).formed Try.prog 163 = true := by simp [Value.formed, Try.underlying163, cellsS]
  rw [Try.underlying163, keyTypeS, hf]
  simp [Value.cells, hl]
theorem key2_inj {x y x' y' : Nat} (hx : x < 1000000000) (hy : y < 256) (hx' : x' < 1000000000) (hy' : y' < 256) (h : key2 x y = key2 x' y') : x' = x ∧ y' = y := by
  have h1 := keyLits_inj (key_lits2 hx hy 0) (key_lits2 hx' hy' 0) (by unfold key2 at h; simpa using h)
  unfold lits2 at h1
  simp at h1
  omega
/-- Block b is a map of steps; for each it tells f. -/
structure StepAt (w : World) (O : Paint) (c b N : Nat) (f : Nat → Nat → Option Nat) : Prop where
  own : ∃ D : Du, w.ownsMap Try.prog 163 (plainElem Try.prog 3) b N D ∧ ∀ x y, x < 1000000000 → y < 256 → Maps.has D (key2 x y) = (f x y).isSome ∧ D.atKey (key2 x y) (.lit (.int .i64 0)) = .lit (.int .i64 ((f x y).getD 0 : Nat))
  col : O b = c
section
variable {cs : List Nat} {w w' : World} {O O' : Paint} {c b N N' : Nat} {f : Nat → Nat → Option Nat}
theorem StepAt.lt (h : StepAt w O c b N f) : b < w.heap.size := by
  obtain ⟨D, hD, _⟩ := h.own
  exact hD.lt
theorem StepAt.step (h : StepAt w O c b N f) (hs : Step cs w O w' O') (hc : c ∉ cs) : StepAt w' O' c b N f := by
  have hl := h.lt
  obtain ⟨D, ⟨es, clock, hb, hF, g1, g2⟩, hT⟩ := h.own
  exact ⟨⟨D, ⟨es, clock, (hs.block hl (by rw [h.col]; exact hc)).trans hb, hF, g1, g2⟩, hT⟩, (hs.ext b hl).trans h.col⟩
theorem StepAt.mono (h : StepAt w O c b N f) (hN : N ≤ N') : StepAt w O c b N' f := by
  obtain ⟨D, hD, hT⟩ := h.own
  exact ⟨⟨D, hD.mono hN, hT⟩, h.col⟩
theorem step_made {w : World} {O : Paint} {c b : Nat} (h : w.heap[b]? = some (.map #[] 0)) (hc : O b = c) : StepAt w O c b 0 (fun _ _ => none) :=
  ⟨⟨.map [], ⟨#[], 0, h, ⟨by simp, MapKept.stamped_empty 0, by simp⟩, Nat.le_refl _, rfl⟩, fun _ _ _ _ => ⟨rfl, rfl⟩⟩, hc⟩
set_option maxRecDepth 100000 in
theorem zeroI (w : World) : (zeroValue 3).run Try.prog w = .ok (.int .i64 0) w := by kernel_rfl
set_option maxRecDepth 100000 in
theorem StepAt.look (h : StepAt w O c b N f) {x y : Nat} (hx : x < 1000000000) (hy : y < 256) : (Instr.lookup 115 (.map (some b)) (val2 x y) true).run Try.prog w = .ok (.tuple #[.int .i64 ((f x y).getD 0 : Nat), .bool (f x y).isSome]) w := by
  obtain ⟨D, hD, hT⟩ := h.own
  obtain ⟨h1, h2⟩ := hT x y hx hy
  obtain ⟨v, ps, hrun, hv⟩ := hD.look_ok lawS Try.underlying115 (zeroI w) (plainElem_int Try.underlying3 (wfI (x := 0) (by omega))) (key_of2 hx hy)
  obtain ⟨a, rfl, ha, _⟩ := plainElem_int_inv Try.underlying3 hv
  rw [hrun, h1]
  rw [h2] at ha
  simp only [Prod.mk.injEq, DataW.lit.injEq, Lit.int.injEq, true_and] at ha
  rw [ha.1]
def fset (f : Nat → Nat → Option Nat) (x y i : Nat) : Nat → Nat → Option Nat := fun a b => if a = x ∧ b = y then some i else f a b
set_option maxRecDepth 100000 in
theorem StepAt.set (h : StepAt w O c b N f) (hN : N ≤ 100000000) {x y i : Nat} (hx : x < 1000000000) (hy : y < 256) (hi : i < 1000000000) :
    ∃ w', (Instr.mapUpdate 115 (.map (some b)) (val2 x y) (.int .i64 (i : Int))).run Try.prog w = .ok () w' ∧ Step [c] w O w' O ∧ StepAt w' O c b (N + 1) (fset f x y i) := by
  obtain ⟨D, hD, hT⟩ := h.own
  obtain ⟨w', hrun, ho, hg⟩ := hD.update lawS Try.underlying115 (by unfold maxLen; omega) (key_of2 hx hy) (plainElem_int Try.underlying3 (wfI hi))
  have hst : Step [c] w O w' O := (Step.refl [c] w O).grown hg (fun j hj => by cases hj; exact .inl (by simp [h.col]))
  refine ⟨w', hrun, hst, ⟨_, ho, fun x' y' hx' hy' => ?_⟩, h.col⟩
  have hk : WideAt.IsKeyLit (key2 x y) := lawS.key (key_of2 hx hy)
  unfold fset
  by_cases e : x' = x ∧ y' = y
  · obtain ⟨rfl, rfl⟩ := e
    rw [Maps.has_put_same hD.isMap hk, Maps.atKey_put_same hD.isMap hk]
    simp
  · have hne : key2 x' y' ≠ key2 x y := fun h => e (by obtain ⟨e1, e2⟩ := key2_inj hx' hy' hx hy h; omega)
    rw [Maps.has_put_other hne, Maps.atKey_put_other hne, if_neg e]
    exact hT x' y' hx' hy'
theorem StepAt.clear (h : StepAt w O c b N f) (ty : TypeId) : ∃ w', (Builtin.clear_ #[115] ty #[.map (some b)]).run Try.prog w = .ok (.tuple #[]) w' ∧ Step [c] w O w' O ∧ StepAt w' O c b 0 (fun _ _ => none) := by
  obtain ⟨D, ⟨es, clock, hb, hF, g1, g2⟩, hT⟩ := h.own
  have hm := Try.underlying115
  have hrun : (Builtin.clear_ #[115] ty #[.map (some b)]).run Try.prog w = .ok (.tuple #[]) (ChangeMaps.setBlock w b (.map #[] clock)) := by
    simp [Builtin.clear_, run_underlying hm, MapKept.run_getObj_map hb, MapKept.run_setObj_map _ hb, Result.andThen]
    rfl
  refine ⟨_, hrun, (Step.refl [c] w O).grown ⟨rfl, rfl, rfl, by simp [ChangeMaps.setBlock], fun i _ hi => ChangeMaps.heap_setBlock_other hb _ (fun e => hi (by rw [e]))⟩ (fun j hj => by cases hj; exact .inl (by simp [h.col])), ⟨_, ⟨#[], clock, ChangeMaps.heap_setBlock_same hb _, ⟨by simp, MapKept.stamped_empty clock, by simp⟩, Nat.le_refl _, rfl⟩, fun _ _ _ _ => ⟨rfl, rfl⟩⟩, h.col⟩
end
end Go.Proofs.Yteacmcckhjabmaa.Cx
