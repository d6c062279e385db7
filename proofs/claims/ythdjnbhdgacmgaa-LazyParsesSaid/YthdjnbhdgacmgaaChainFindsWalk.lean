/-
  The walk of the statement ChainFinds: for every text, window and cut it returns true, and writes nothing that was there.
-/
import Derived.Test.YthdjnbhdgacmgaaChainSpeaks
import Derived.Laws.StructEq
namespace Go.Proofs.Ythdjnbhdgacmgaa.Ch
open Go.RowKit Go.Maps
open Mt
theorem eq_fd (n d : Int) (w : World) : (Op.equalIn 10000 54 (.agg #[.int .i64 n, .int .i64 d]) (.agg #[.int .i64 n, .int .i64 d])).run Try.prog w = .ok true w := by
  rw [run_equalIn_struct (P := Try.prog) w 9999 54 _ _ (by kernel_rfl) (by kernel_rfl)]
  simp [go_sem, Try.underlying54, Try.underlying3]
theorem Founds.small {t : TypeId} {w0 w : World} {v : Value} {l : List (Nat × Nat)} (h : Founds t w0 w v l) : l.length ≤ 9223372036854775807 := by
  rcases h.row.2 with ⟨_, h2⟩ | ⟨g, cap, cur, _, _, _, h1, h2, _⟩
  · omega
  · unfold maxLen at h2; omega
theorem Founds.cells {t : TypeId} {w0 w : World} {A : Option Addr} {n cap : Nat} {l : List (Nat × Nat)} (h : Founds t w0 w (.slice A n cap) l) (hn : 0 < l.length) : ∃ g, A = some ⟨g, 0, none⟩ ∧ ∀ i (hi : i < l.length), w.cell? ⟨g, i * 2, none⟩ = some (.int .i64 (l[i].1 : Int)) ∧ w.cell? ⟨g, i * 2 + 1, none⟩ = some (.int .i64 (l[i].2 : Int)) := by
  rcases h.form with ⟨_, rfl⟩ | ⟨g, cap', e, _⟩
  · simp at hn
  · have e' := e
    simp only [Value.slice.injEq] at e'
    obtain ⟨rfl, _, _⟩ := e'
    exact ⟨g, rfl, fun i hi => h.cell i hi⟩
theorem ret_bool {a b : Bool} (h : a = b) : Ending.returned (.bool a) = .returned (.bool b) := by rw [h]
theorem FinOk.below {w0 w : World} {O : Paint} {c a : Nat} {s : ByteArray} {window cut : Int} {p B : Nat} {v : Value} (h : FinOk w0 O c a s window cut p B v w) : Below w0.heap.size w0 w := by
  obtain ⟨_, _, _, hb, _⟩ := h
  exact hb
end Go.Proofs.Ythdjnbhdgacmgaa.Ch
