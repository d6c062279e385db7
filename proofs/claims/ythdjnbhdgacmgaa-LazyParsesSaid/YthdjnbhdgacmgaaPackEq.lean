/-
  Two equal arrays of four integers compare equal.
-/
import Derived.Test.YthdjnbhdgacmgaaPackBase
import Derived.ChangeKeysEq
namespace Go.Proofs.Ythdjnbhdgacmgaa.Pk
open Go.RowKit
theorem infoI4 : (Try.prog.info? 3).map (fun i => (i.zero, i.size, i.bytes)) = some (some (.int .i64 0), 1, 8) := by kernel_rfl
theorem cellsI4 : Try.prog.cellsOf 3 = 1 := by kernel_rfl
theorem eq_deep (D : Nat) (a b c d : Int) (w : World) : (Op.equalIn (D + 1 + 1) 68 (.agg #[.int .i64 a, .int .i64 b, .int .i64 c, .int .i64 d]) (.agg #[.int .i64 a, .int .i64 b, .int .i64 c, .int .i64 d])).run Try.prog w = .ok true w := by
  obtain ⟨i0, hi, hz0, hz1, hz2⟩ := info_parts infoI4
  rw [run_equalIn_array (P := Try.prog) w (D + 1) (t := 68) (e := 3) (n := 4) (i := i0) _ _ Try.underlying68 hi, cellsI4]
  have hq : ∀ x : Int, (Op.equalIn (D + 1) 3 (.int .i64 x) (.int .i64 x)).run Try.prog w = .ok true w := fun x => by rw [run_equalIn_int w D 3 .i64 .i64 x x Try.underlying3]; simp
  simp [Op.eqItems, List.range, List.range.loop, part, isAgg, run_underlying Try.underlying3, hq]
theorem eq_four (a b c d : Int) (w : World) : (binOp .eql 68 (.agg #[.int .i64 a, .int .i64 b, .int .i64 c, .int .i64 d]) (.agg #[.int .i64 a, .int .i64 b, .int .i64 c, .int .i64 d])).run Try.prog w = .ok (.bool true) w := by
  rw [run_eql_struct, eq_deep 9998 a b c d w]
  rfl
end Go.Proofs.Ythdjnbhdgacmgaa.Pk
