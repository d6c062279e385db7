/-
  Contracts of the developers' encoder of layer 3, more: Bit, Direct, Part, End, NewEncoder; and of none.
-/
import Derived.Test.YthejbnodalnnpaaRcEncT
namespace Go.Proofs.Ythejbnodalnnpaa.Rc
open Go.RowKit
theorem ret_bool {a b : Bool} (h : a = b) : Ending.returned (.bool a) = .returned (.bool b) := by rw [h]
theorem ret_num {k : IntKind} {a b : Int} (h : a = b) : Ending.returned (.int k a) = .returned (.int k b) := by rw [h]
theorem _root_.Go.Proofs.Ythejbnodalnnpaa.Step.store (w : World) (O : Paint) (p : Addr) (u : Value) : Step [O p.block] w O (w.setCell p u) O := (Step.refl _ w O).setCell (.inl (by simp)) u
theorem EncRaw.width {w : World} {O : Paint} {c a : Nat} {e : Enc} (h : EncRaw w O c a e) (s : Nat) : EncRaw (w.setCell ⟨a, 2, none⟩ (.int .u32 (s : Int))) O c a ⟨e.low, s, e.turns⟩ ∧ Step [c] w O (w.setCell ⟨a, 2, none⟩ (.int .u32 (s : Int))) O := by
  obtain ⟨g, cap, hb, hr⟩ := h
  refine ⟨⟨g, cap, ?_, ?_⟩, (Step.refl [c] w O).setCell (p := ⟨a, 2, none⟩) (.inl (by simp [hb.2])) _⟩
  · simpa using hb.setCell 2 (.int .u32 (s : Int))
  · exact hr.setCell_other (p := ⟨a, 2, none⟩) (fun e1 => hr.ne hb.1 (by decide) (by simpa [Value.ownBlock] using e1)) _
theorem EncRaw.cells {w : World} {O : Paint} {c a : Nat} {e : Enc} (h : EncRaw w O c a e) : w.cell? ⟨a, 2, none⟩ = some (.int .u32 (e.size : Int)) ∧ w.frozen? ⟨a, 2, none⟩ = false ∧ a < w.heap.size ∧ O a = c := by
  obtain ⟨g, cap, hb, hr⟩ := h
  obtain ⟨_, _, h2, _, _, f2⟩ := three hb.1
  exact ⟨h2, f2, hb.lt, hb.2⟩
theorem EncRaw.other {w : World} {O : Paint} {c a : Nat} {e : Enc} (h : EncRaw w O c a e) {p : Addr} (hp : O p.block ≠ c) (u : Value) : EncRaw (w.setCell p u) O c a e := h.step (Step.store w O p u) (by simpa using Ne.symm hp)
theorem EncRaw.drewN {w : World} {O : Paint} {c a : Nat} {e : Enc} (h : EncRaw w O c a e) (n : Nat) : EncRaw (w.drewN n) O c a e := h.step ((Step.refl [] w O).drewN n) (by simp)
theorem EncRaw.drew {w : World} {O : Paint} {c a : Nat} {e : Enc} (h : EncRaw w O c a e) : EncRaw w.drew O c a e := h.step ((Step.refl [] w O).drew) (by simp)
/-- What a bit does to the encoder; the probability's cell is set ahead of it. -/
def Bitten (w : World) (O : Paint) (c a : Nat) (q : Addr) (p b : Nat) (e : Enc) (x : Ending) (w' : World) : Prop :=
  x = .returned (.tuple #[]) ∧ ∃ O', Step [c] (w.setCell q (.int .u16 ((learn p b : Nat) : Int))) O w' O' ∧ EncAt w' O' c a (e.bit p b)
theorem EncRaw.apart {w w1 : World} {O : Paint} {c : Nat} {q : Addr} {v : Value} (hs : Step [c] w O w1 O) (hO : O q.block ≠ c) (hq : w.cell? q = some v) (hf : w.frozen? q = false) : w1.cell? q = some v ∧ w1.frozen? q = false :=
  have hl := block_lt_of_cell hq
  ⟨(hs.cell hl (by simpa using hO)).trans hq, (hs.frozen hl (by simpa using hO)).trans hf⟩
end Go.Proofs.Ythejbnodalnnpaa.Rc
