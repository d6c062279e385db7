/-
  Layer 6's statement PacketApplies: the list that came in; Repeat of any list; equal packets compare equal.
-/
import Derived.Test.YthdjnbhdgacmgaaPackLawFits
import Derived.Test.YthdjnbhdgacmgaaPackTold
import Derived.Test.YthdjnbhdgacmgaaPackRepeatEnd
import Derived.Test.YthdjnbhdgacmgaaPackRepeatNil
import Derived.Test.YthdjnbhdgacmgaaPackRefApply
import Derived.Test.YthdjnbhdgacmgaaPackRefRepeat
namespace Go.Proofs.Ythdjnbhdgacmgaa.Pk
open Go.RowKit
theorem rrep_length : ∀ (ps : List Pt) (r old : Rp), (rrep ps r old).length = ps.length
  | [], _, _ => rfl
  | p :: ps, r, old => by
    rw [rrep]
    split <;> simp [rrep_length ps]
theorem rrep_bytes : ∀ (ps : List Pt) (r old : Rp), (∀ p ∈ ps, p.b < 256) → ∀ p ∈ rrep ps r old, p.b < 256
  | [], _, _, _ => by simp [rrep]
  | p :: ps, r, old, h => by
    have h1 := h p (by simp)
    have h2 := fun r old => rrep_bytes ps r old (fun q hq => h q (by simp [hq]))
    rw [rrep]
    split
    · intro q hq
      rcases List.mem_cons.1 hq with rfl | hq
      · exact h1
      · exact h2 _ _ q hq
    · intro q hq
      rcases List.mem_cons.1 hq with rfl | hq
      · rw [retell_b]; omega
      · exact h2 _ _ q hq
/-- A list that came in, of which so many packets are taken. -/
theorem pts_of {w : World} {b off len : Nat} (key : ∀ i, i < len → ∃ p, IsPt w b (off + i * 4) p) (n : Nat) (hn : n ≤ len) : ∃ ps : List Pt, ps.length = n ∧ IsPts w (some ⟨b, off, none⟩) ps := by
  refine ⟨List.ofFn (fun i : Fin n => Classical.choose (key i.1 (by omega))), by simp, .inr ⟨b, off, rfl, fun i hi => ?_⟩⟩
  rw [List.getElem_ofFn]
  exact Classical.choose_spec (key i (by simp at hi; omega))
/-- An answer of Repeat. -/
theorem repeat_any {W : World} {a : Option Addr} {ps : List Pt} (h : IsPts W a ps) (hl : ps.length ≤ 60) (cap : Nat) (hb : ∀ p ∈ repL ps 0 ⟨1, 1, 1, 1⟩ ⟨1, 1, 1, 1⟩, p.b < 256) (hlen : (repL ps 0 ⟨1, 1, 1, 1⟩ ⟨1, 1, 1, 1⟩).length = ps.length) :
    Calls Try.prog 49 #[.slice a ps.length cap] W fun x w' => ∃ Z, x = .returned (.slice (some ⟨Z, 0, none⟩) ps.length ps.length) ∧ Below W.heap.size W w' ∧ IsPts w' (some ⟨Z, 0, none⟩) (repL ps 0 ⟨1, 1, 1, 1⟩ ⟨1, 1, 1, 1⟩) := by
  by_cases hn : 0 < ps.length
  · rcases h with h | ⟨b, off, rfl, h⟩
    · rw [h] at hn; simp at hn
    · refine (repeat_more h hn (by omega) cap).mono fun x w' ⟨Z, hx, hb', _, arr, g1, g2, g3⟩ => ⟨Z, hx, hb', .inr ⟨Z, 0, rfl, fun i hi => ?_⟩⟩
      obtain ⟨q0, q1, q2, q3⟩ := g3 i hi
      refine ⟨?_, ?_, ?_, ?_, hb _ (List.getElem_mem hi)⟩
      · simp only [World.cell?, g1, Nat.zero_add]; exact q0
      · simp only [World.cell?, g1, Nat.zero_add]; exact q1
      · simp only [World.cell?, g1, Nat.zero_add]; exact q2
      · simp only [World.cell?, g1, Nat.zero_add]; exact q3
  · obtain rfl : ps = [] := by cases ps <;> simp_all
    exact (repeat_nil a cap W).mono fun x w' ⟨Z, hx, hb', _⟩ => ⟨Z, hx, hb', .inl rfl⟩
theorem eq_pt (p : Pt) (w : World) : (Op.equalIn 10000 51 (.agg #[.int .i64 p.k, .int .i64 p.d, .int .i64 p.n, .int .u8 (p.b : Int)]) (.agg #[.int .i64 p.k, .int .i64 p.d, .int .i64 p.n, .int .u8 (p.b : Int)])).run Try.prog w = .ok true w := by
  rw [run_equalIn_struct (P := Try.prog) w 9999 51 _ _ (by kernel_rfl) (by kernel_rfl)]
  simp [go_sem, Try.underlying51, Try.underlying3, Try.underlying5]
end Go.Proofs.Ythdjnbhdgacmgaa.Pk
