/-
  Maps of numbers to truths, or to numbers: what they are in memory, what they tell, and how they are set.
-/
import Derived.Test.YtollngjnoccmfaaBase
import Derived.Maps.OwnSet
set_option linter.unusedVariables false
namespace Go.Proofs.Ytollngjnoccmfaa.Im
open Go.RowKit Go.Maps
open Rc
abbrev Du := DataW Unit
theorem keyI : Keyed Try.prog 3 := int_keyed Try.underlying3
theorem wf64 {k : Int} (h1 : -9223372036854775808 ≤ k) (h2 : k ≤ 9223372036854775807) : (Lit.int .i64 k).wf = true := by
  have h3 : (IntKind.i64.min : Int) ≤ k := by rw [show IntKind.i64.min = -9223372036854775808 from rfl]; omega
  simp [Lit.wf, h3]
  omega
theorem keyOfI {k : Int} (h1 : -9223372036854775808 ≤ k) (h2 : k ≤ 9223372036854775807) : keyOf Try.prog 3 (.int .i64 k) = some (.int .i64 k) := keyOf_int_mk Try.underlying3 (wf64 h1 h2)
/-- Block b is a map of numbers; for each it tells f. -/
structure MapAt (w : World) (O : Paint) (c b N : Nat) (te : TypeId) (lz : Lit) (f : Int → Lit) : Prop where
  own : ∃ D : Du, w.ownsMap Try.prog 3 (plainElem Try.prog te) b N D ∧ ∀ k, -9223372036854775808 ≤ k → k ≤ 9223372036854775807 → D.atKey (.int .i64 k) (.lit lz) = .lit (f k)
  col : O b = c
section
variable {cs : List Nat} {w w' : World} {O O' : Paint} {c b N N' : Nat} {te : TypeId} {lz : Lit} {f : Int → Lit}
theorem MapAt.lt (h : MapAt w O c b N te lz f) : b < w.heap.size := by
  obtain ⟨D, hD, _⟩ := h.own
  exact hD.lt
theorem MapAt.step (h : MapAt w O c b N te lz f) (hs : Step cs w O w' O') (hc : c ∉ cs) : MapAt w' O' c b N te lz f := by
  have hl := h.lt
  obtain ⟨D, ⟨es, clock, hb, hF, g1, g2⟩, hT⟩ := h.own
  exact ⟨⟨D, ⟨es, clock, (hs.block hl (by rw [h.col]; exact hc)).trans hb, hF, g1, g2⟩, hT⟩, (hs.ext b hl).trans h.col⟩
theorem MapAt.mono (h : MapAt w O c b N te lz f) (hN : N ≤ N') : MapAt w O c b N' te lz f := by
  obtain ⟨D, hD, hT⟩ := h.own
  exact ⟨⟨D, hD.mono hN, hT⟩, h.col⟩
theorem MapAt.congr {g : Int → Lit} (h : MapAt w O c b N te lz f) (hg : ∀ k, g k = f k) : MapAt w O c b N te lz g := by
  obtain ⟨D, hD, hT⟩ := h.own
  exact ⟨⟨D, hD, fun k h1 h2 => by rw [hg k]; exact hT k h1 h2⟩, h.col⟩
theorem map_new (w : World) (O : Paint) (c : Nat) (te : TypeId) (lz : Lit) : Step [] w O (w.alloc (.map #[] 0)) (Step.paint O w c) ∧ MapAt (w.alloc (.map #[] 0)) (Step.paint O w c) c w.heap.size 0 te lz (fun _ => lz) :=
  ⟨((Step.refl [] w O).alloc _).repaint c, ⟨_, World.ownsMap_made w Try.prog 3 (plainElem (H := Unit) Try.prog te), fun _ _ _ => rfl⟩, Step.paint_new (Nat.le_refl _)⟩
/-- What is set behind a map's update. -/
theorem MapAt.put {l : Lit} {k : Int} {D : Du} (h : MapAt w O c b N te lz f) (h1 : -9223372036854775808 ≤ k) (h2 : k ≤ 9223372036854775807) (hm : IsMap D) (hT : ∀ k, -9223372036854775808 ≤ k → k ≤ 9223372036854775807 → D.atKey (.int .i64 k) (.lit lz) = .lit (f k))
    (ho : w'.ownsMap Try.prog 3 (plainElem Try.prog te) b (N + 1) (D.put (.int .i64 k) (.lit l))) (hg : w.grownBy w' (some b)) : Step [c] w O w' O ∧ MapAt w' O c b (N + 1) te lz (fun j => if j = k then l else f j) := by
  have hst : Step [c] w O w' O := (Step.refl [c] w O).grown hg (fun j hj => by cases hj; exact .inl (by simp [h.col]))
  refine ⟨hst, ⟨_, ho, fun j j1 j2 => ?_⟩, h.col⟩
  have hk : WideAt.IsKeyLit (.int .i64 k) := keyI.key (keyOfI h1 h2)
  by_cases e : j = k
  · subst e
    rw [Maps.atKey_put_same hm hk]
    simp
  · rw [Maps.atKey_put_other (fun hh => e (by simpa using hh))]
    simp only [if_neg e]
    exact hT j j1 j2
end
section
variable {cs : List Nat} {w w' : World} {O O' : Paint} {c b N : Nat}
theorem bool_inv {P : Program} {e : TypeId} (he : P.underlying e = some .bool) {v : Value} {x : Bool} {ps : List MemPlace} (h : plainElem (H := Unit) P e v = some (.lit (.bool x), ps)) : v = .bool x := by
  unfold plainElem at h
  rw [he] at h
  cases v <;> simp at h
  rw [h.1]
set_option maxRecDepth 100000 in
theorem zeroB (w : World) : (zeroValue 4).run Try.prog w = .ok (.bool false) w := by kernel_rfl
set_option maxRecDepth 100000 in
theorem zeroI (w : World) : (zeroValue 3).run Try.prog w = .ok (.int .i64 0) w := by kernel_rfl
set_option maxRecDepth 100000 in
theorem MapAt.lookB {f : Int → Bool} (h : MapAt w O c b N 4 (.bool false) (fun k => .bool (f k))) {k : Int} (h1 : -9223372036854775808 ≤ k) (h2 : k ≤ 9223372036854775807) : (Instr.lookup 54 (.map (some b)) (.int .i64 k) false).run Try.prog w = .ok (.bool (f k)) w := by
  obtain ⟨D, hD, hT⟩ := h.own
  obtain ⟨v, ps, hrun, hv⟩ := hD.lookup keyI Try.underlying54 (zeroB w) (plainElem_bool Try.underlying4 false) (keyOfI h1 h2)
  rw [hT k h1 h2] at hv
  rw [hrun]
  rw [bool_inv Try.underlying4 hv]
set_option maxRecDepth 100000 in
theorem MapAt.lookI {f : Int → Int} (h : MapAt w O c b N 3 (.int .i64 0) (fun k => .int .i64 (f k))) {k : Int} (h1 : -9223372036854775808 ≤ k) (h2 : k ≤ 9223372036854775807) : (Instr.lookup 55 (.map (some b)) (.int .i64 k) false).run Try.prog w = .ok (.int .i64 (f k)) w := by
  obtain ⟨D, hD, hT⟩ := h.own
  obtain ⟨y, h3, h4, h5⟩ := hD.lookup_int keyI Try.underlying55 Try.underlying3 (zeroI w) (keyOfI h1 h2)
  rw [hT k h1 h2] at h4
  simp only [DataW.lit.injEq, Lit.int.injEq, true_and] at h4
  rw [h4]
  exact h3
/-- The operation's equation: a truth is set. -/
theorem MapAt.setB {f : Int → Bool} (h : MapAt w O c b N 4 (.bool false) (fun k => .bool (f k))) (hN : N ≤ 1000000) {k : Int} (h1 : -9223372036854775808 ≤ k) (h2 : k ≤ 9223372036854775807) (x : Bool) : ∃ w', (Instr.mapUpdate 54 (.map (some b)) (.int .i64 k) (.bool x)).run Try.prog w = .ok () w' ∧ Step [c] w O w' O ∧ MapAt w' O c b (N + 1) 4 (.bool false) (fun j => .bool (if j = k then x else f j)) := by
  obtain ⟨D, hD, hT⟩ := h.own
  obtain ⟨w', hrun, ho, hg⟩ := hD.update keyI Try.underlying54 (by unfold maxLen; omega) (keyOfI h1 h2) (plainElem_bool Try.underlying4 x)
  obtain ⟨hs, hm⟩ := h.put h1 h2 hD.isMap hT ho hg
  exact ⟨w', hrun, hs, hm.congr (fun j => by split <;> rfl)⟩
theorem MapAt.setI {f : Int → Int} (h : MapAt w O c b N 3 (.int .i64 0) (fun k => .int .i64 (f k))) (hN : N ≤ 1000000) {k x : Int} (h1 : -9223372036854775808 ≤ k) (h2 : k ≤ 9223372036854775807) (h3 : -9223372036854775808 ≤ x) (h4 : x ≤ 9223372036854775807) : ∃ w', (Instr.mapUpdate 55 (.map (some b)) (.int .i64 k) (.int .i64 x)).run Try.prog w = .ok () w' ∧ Step [c] w O w' O ∧ MapAt w' O c b (N + 1) 3 (.int .i64 0) (fun j => .int .i64 (if j = k then x else f j)) := by
  obtain ⟨D, hD, hT⟩ := h.own
  obtain ⟨w', hrun, ho, hg⟩ := hD.update keyI Try.underlying55 (by unfold maxLen; omega) (keyOfI h1 h2) (plainElem_int Try.underlying3 (wf64 h3 h4))
  obtain ⟨hs, hm⟩ := h.put h1 h2 hD.isMap hT ho hg
  exact ⟨w', hrun, hs, hm.congr (fun j => by split <;> rfl)⟩
end
end Go.Proofs.Ytollngjnoccmfaa.Im
