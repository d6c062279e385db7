/-
  Package piece: contracts of Size, Packet, New and Next.
-/
import Derived.Test.YteacmcckhjabmaaGreedyMath
import Derived.Test.YteacmcckhjabmaaChainSeen
import Derived.Deep.QuietTactic
import Derived.BigQuiet
import Derived.Laws.StructEq
set_option linter.unusedVariables false
namespace Go.Proofs.Yteacmcckhjabmaa.Gr
open Go.RowKit
open Mt
open Ch
open Pk (Rp Pt four four_heap below_four)
theorem eq_piece (n d : Nat) (w : World) : (Op.equalIn 10000 46 (.agg #[.int .i64 (n : Int), .int .i64 (d : Int)]) (.agg #[.int .i64 0, .int .i64 0])).run Try.prog w = .ok (decide ((n, d) = (0, 0))) w := by
  rw [run_equalIn_struct (P := Try.prog) w 9999 46 _ _ (by kernel_rfl) (by kernel_rfl)]
  have hcase : n ≠ 0 ∨ (n = 0 ∧ d ≠ 0) ∨ (n = 0 ∧ d = 0) := by omega
  rcases hcase with h1 | ⟨h1, h2⟩ | ⟨h1, h2⟩ <;> simp [go_sem, Try.underlying46, Try.underlying3, *]
/-- A piece's value. -/
def pv (x : Nat × Nat) : Value := .agg #[.int .i64 (x.1 : Int), .int .i64 (x.2 : Int)]
theorem two_cells {w : World} {X : Nat} {a b : Value} {t : TypeId} (h : w.heap[X]? = some (.cells #[a, b] t (0, 0))) : (w.cell? ⟨X, 0, none⟩ = some a ∧ w.cell? ⟨X, 1, none⟩ = some b) ∧ w.frozen? ⟨X, 0, none⟩ = false ∧ w.frozen? ⟨X, 1, none⟩ = false ∧ X < w.heap.size :=
  ⟨⟨by simp [World.cell?, h], by simp [World.cell?, h]⟩, by simp [World.frozen?, h], by simp [World.frozen?, h], lt_of_heap h⟩
theorem psize_any (x : Nat × Nat) (w : World) : Calls Try.prog 17 #[.agg #[.int .i64 (x.1 : Int), .int .i64 (x.2 : Int)]] w fun e w' => e = .returned (.int .i64 (size1 x : Int)) ∧ Below w.heap.size w w' := by
  obtain ⟨n, d⟩ := x
  have hq := eq_piece n d
  have HS : Hid (size1 (n, d) = if decide ((n, d) = (0, 0)) = true then 1 else n) := Lib.hid (by unfold size1; simp)
  simp only
  generalize decide ((n, d) = (0, 0)) = b at *
  have hb1 : Below w.heap.size w (w.alloc (.cells #[.int .i64 (n : Int), .int .i64 (d : Int)] 46)) := (Below.refl _ _).alloc (Nat.le_refl _) _
  have HB1 := Lib.hid hb1
  obtain ⟨⟨p0, p1⟩, _, _, hl⟩ := two_cells (heap_alloc_new w (.cells #[.int .i64 (n : Int), .int .i64 (d : Int)] 46))
  clear hb1
  go_enter Try.func17, Try.ntmps17
  go_upto_region 1 with (fail)
  generalize w.alloc (.cells #[.int .i64 (n : Int), .int .i64 (d : Int)] 46) = W1 at *
  generalize hP : w.heap.size = P at *
  cases b with
  | true =>
    go_wp2_with fail
    go_ret
    exact ⟨by rw [HS.out]; rfl, by first | exact HB1.out | (rw [hP]; exact HB1.out)⟩
  | false =>
    go_wp2_with fail
    go_ret
    exact ⟨by rw [HS.out]; rfl, by first | exact HB1.out | (rw [hP]; exact HB1.out)⟩
/-- The packet of a piece that begins with the byte b. -/
def pktB (b : Nat) (x : Nat × Nat) : Pt := if x = (0, 0) then ⟨1, 0, 0, b⟩ else ⟨2, (x.2 : Int), (x.1 : Int), 0⟩
theorem pktB_val (b : Nat) (x : Nat × Nat) : (pktB b x).val = if decide (x = (0, 0)) = true then .agg #[.int .i64 1, .int .i64 0, .int .i64 0, .int .u8 (b : Int)] else .agg #[.int .i64 2, .int .i64 (x.2 : Int), .int .i64 (x.1 : Int), .int .u8 0] := by
  unfold pktB Pt.val
  by_cases h : x = (0, 0)
  · simp [h]
  · simp [h]
set_option maxHeartbeats 1000000 in
theorem ppacket_any (b : Nat) (x : Nat × Nat) (w : World) : Calls Try.prog 18 #[.agg #[.int .i64 (x.1 : Int), .int .i64 (x.2 : Int)], .int .u8 (b : Int)] w fun e w' => e = .returned (pktB b x).val ∧ Below w.heap.size w w' := by
  rw [pktB_val]
  obtain ⟨n, d⟩ := x
  have hq := eq_piece n d
  simp only
  generalize decide ((n, d) = (0, 0)) = c at *
  have hb1 : Below w.heap.size w ((w.alloc (.cells #[.int .i64 (n : Int), .int .i64 (d : Int)] 46)).alloc (.cells #[.int .i64 0, .int .i64 0, .int .i64 0, .int .u8 0] 32)) := ((Below.refl _ _).alloc (Nat.le_refl _) _).alloc (by simp) _
  have HB1 := Lib.hid hb1
  have hx := heap_alloc_new w (.cells #[.int .i64 (n : Int), .int .i64 (d : Int)] 46)
  have hx2 := (Below.heap_alloc (w.alloc (.cells #[.int .i64 (n : Int), .int .i64 (d : Int)] 46)) (.cells #[.int .i64 0, .int .i64 0, .int .i64 0, .int .u8 0] 32) _ (lt_of_heap hx)).trans hx
  have hz := heap_alloc_new (w.alloc (.cells #[.int .i64 (n : Int), .int .i64 (d : Int)] 46)) (.cells #[.int .i64 0, .int .i64 0, .int .i64 0, .int .u8 0] 32)
  rw [World.size_alloc] at hz
  clear hb1 hx
  go_enter Try.func18, Try.ntmps18
  go_upto_region 1 with (fail)
  generalize (w.alloc (.cells #[.int .i64 (n : Int), .int .i64 (d : Int)] 46)).alloc (.cells #[.int .i64 0, .int .i64 0, .int .i64 0, .int .u8 0] 32) = W1 at *
  obtain ⟨⟨p0, p1⟩, _, _, hl⟩ := two_cells hx2
  have HZ := Lib.hid hz
  obtain ⟨⟨z0, z1, z2, z3⟩, ⟨y0, y1, y2, y3⟩, hlz⟩ := four hz
  clear hx2 hz
  generalize hP : w.heap.size = P at *
  have hPw : P ≤ w.heap.size := by omega
  cases c with
  | true =>
    go_wp2_with fail
    have hh := four_heap HZ.out (.int .i64 1) (.int .i64 0) (.int .i64 0) (.int .u8 (b : Int))
    obtain ⟨⟨r0, r1, r2, r3⟩, _, _⟩ := four hh
    have hb := below_four (X := P + 1) HB1.out (by omega) (.int .i64 1) (.int .i64 0) (.int .i64 0) (.int .u8 (b : Int))
    clear hh z0 z1 z2 z3 y0 y1 y2 y3 p0 p1
    refine bodyPost_ret (v := .agg #[.int .i64 1, .int .i64 0, .int .i64 0, .int .u8 (b : Int)]) ?_ rfl ?_
    · simp [results, Try.results18, go_sem, r0, r1, r2, r3]
    · first | exact ⟨rfl, hb⟩ | (rw [hP]; exact ⟨rfl, hb⟩)
  | false =>
    go_wp2_with fail
    have hh := four_heap HZ.out (.int .i64 2) (.int .i64 (d : Int)) (.int .i64 (n : Int)) (.int .u8 0)
    obtain ⟨⟨r0, r1, r2, r3⟩, _, _⟩ := four hh
    have hb := below_four (X := P + 1) HB1.out (by omega) (.int .i64 2) (.int .i64 (d : Int)) (.int .i64 (n : Int)) (.int .u8 0)
    clear hh z0 z1 z2 z3 y0 y1 y2 y3 p0 p1
    refine bodyPost_ret (v := .agg #[.int .i64 2, .int .i64 (d : Int), .int .i64 (n : Int), .int .u8 0]) ?_ rfl ?_
    · simp [results, Try.results18, go_sem, r0, r1, r2, r3]
    · first | exact ⟨rfl, hb⟩ | (rw [hP]; exact ⟨rfl, hb⟩)
section
variable {cs : List Nat} {w w' : World} {O O' : Paint} {F p : Nat} {s : ByteArray} {window cut : Int}
end
end Go.Proofs.Yteacmcckhjabmaa.Gr
