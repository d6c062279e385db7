/-
  Package packet: the contract of retell.
-/
import Derived.Test.YtfpoabeihpfeiaaGreatPk09

set_option maxRecDepth 100000
set_option maxHeartbeats 16000000
set_option linter.unusedVariables false
set_option linter.unusedSimpArgs false
open Go.Lib (hid)
namespace Go.Proofs.YtfpoabeihpfeiaaGreat.Pk
open Go.RowKit
def Rp.retell (r : Rp) (d n : Int) : Pt × Rp := if (r.find d).2 = true then (⟨3, (r.find d).1, n, 0⟩, r.front (r.find d).1) else (⟨2, d, n, 0⟩, r.push d)
structure Rt (w w1 : World) (X : Nat) (r : Rp) : Prop where
 below : Below w.heap.size w w1
 eqX : w.heap.size = X
 hr : w1.heap[X]? = some (.cells #[.int .i64 r.a, .int .i64 r.b, .int .i64 r.c, .int .i64 r.d] 70 (0, 0))
 hp : w1.heap[X + 1]? = some (.cells #[.int .i64 0, .int .i64 0, .int .i64 0, .int .u8 0] 37 (0, 0))
 hz : w1.heap[X + 1 + 1]? = some (.cells #[.int .i64 0, .int .i64 0, .int .i64 0, .int .i64 0] 70 (0, 0))
theorem Rt.next {w w1 w2 : World} {X : Nat} {r : Rp} (h : Rt w w1 X r) (hb : Below w1.heap.size w1 w2) : Rt w w2 X r :=
 ⟨h.below.trans (hb.mono h.below.size), h.eqX, (hb.block _ (lt_of_heap h.hr)).trans h.hr, (hb.block _ (lt_of_heap h.hp)).trans h.hp, (hb.block _ (lt_of_heap h.hz)).trans h.hz⟩
theorem set_other {w : World} {k : Nat} {p : Addr} (hk : k ≠ p.block) (v : Value) : (w.setCell p v).heap[k]? = w.heap[k]? := Below.heap_setCell _ _ _ _ hk
theorem retell_done {w w1 : World} {X : Nat} {r : Rp} (h : Rt w w1 X r) (k d n s0 s1 s2 s3 : Int) :
  ∃ W : World, (((((((w1.setCell ⟨X + 1, 0, none⟩ (.int .i64 k)).setCell ⟨X + 1, 1, none⟩ (.int .i64 d)).setCell ⟨X + 1, 2, none⟩ (.int .i64 n)).setCell ⟨X + 1, 3, none⟩ (.int .u8 0)).setCell ⟨X + 1 + 1, 0, none⟩ (.int .i64 s0)).setCell ⟨X + 1 + 1, 1, none⟩ (.int .i64 s1)).setCell ⟨X + 1 + 1, 2, none⟩ (.int .i64 s2)).setCell ⟨X + 1 + 1, 3, none⟩ (.int .i64 s3) = W /\
  Below w.heap.size w W /\ W.heap[X + 1]? = some (.cells #[.int .i64 k, .int .i64 d, .int .i64 n, .int .u8 0] 37 (0, 0)) /\ W.heap[X + 1 + 1]? = some (.cells #[.int .i64 s0, .int .i64 s1, .int .i64 s2, .int .i64 s3] 70 (0, 0)) := by
 have e := h.eqX
 refine ⟨_, rfl, below_four (below_four h.below (by omega) _ _ _ _) (by omega) _ _ _ _, ?_, ?_⟩
 · show (World.setCell _ _ _).heap[X + 1]? = _
   rw [set_other (by simp), set_other (by simp), set_other (by simp), set_other (by simp)]
   exact four_heap h.hp _ _ _ _
 · refine four_heap (z0 := .int .i64 0) (z1 := .int .i64 0) (z2 := .int .i64 0) (z3 := .int .i64 0) ?_ _ _ _ _
   rw [set_other (by simp), set_other (by simp), set_other (by simp), set_other (by simp)]
   exact h.hz
theorem retell_any (r : Rp) (d n : Int) (w : World) : Calls Tryz.prog 26 #[.agg #[.int .i64 r.a, .int .i64 r.b, .int .i64 r.c, .int .i64 r.d], .int .i64 d, .int .i64 n] w fun x w' =>
  x = .returned (.tuple #[.agg #[.int .i64 (r.retell d n).1.k, .int .i64 (r.retell d n).1.d, .int .i64 (r.retell d n).1.n, .int .u8 0], .agg #[.int .i64 (r.retell d n).2.a, .int .i64 (r.retell d n).2.b, .int .i64 (r.retell d n).2.c, .int .i64 (r.retell d n).2.d]]) /\ Below w.heap.size w w' := by
 have HFD := hid (find_any r d)
 unfold Rp.retell
 generalize hgi : (r.find d).1 = i at *
 cases hb : (r.find d).2 with
 | true =>
  rw [hb] at HFD
  simp only [if_true]
  have HFR : Hid (∀ W : World, Calls Tryz.prog 49 #[.agg #[.int .i64 r.a, .int .i64 r.b, .int .i64 r.c, .int .i64 r.d], .int .i64 i] W fun x w' => x = .returned (.agg #[.int .i64 (r.front i).a, .int .i64 (r.front i).b, .int .i64 (r.front i).c, .int .i64 (r.front i).d]) /\ Below W.heap.size W w') := hid (fun W => front_any r i W)
  generalize r.front i = s at *
  clear hgi hb
  go_enter Tryz.func26, Tryz.ntmps26
  go_wp2_with fail
  obtain ⟨q0, q1, q2, hb, hl⟩ := three_alloc w (.cells #[.int .i64 r.a, .int .i64 r.b, .int .i64 r.c, .int .i64 r.d] 70) (.cells #[.int .i64 0, .int .i64 0, .int .i64 0, .int .u8 0] 37) (.cells #[.int .i64 0, .int .i64 0, .int .i64 0, .int .i64 0] 70)
  generalize ((w.alloc (.cells #[.int .i64 r.a, .int .i64 r.b, .int .i64 r.c, .int .i64 r.d] 70)).alloc (.cells #[.int .i64 0, .int .i64 0, .int .i64 0, .int .u8 0] 37)).alloc (.cells #[.int .i64 0, .int .i64 0, .int .i64 0, .int .i64 0] 70) = W at *
  generalize hX : w.heap.size = X at *
  have HR0 := hid (show Rt w W X r from ⟨by rw [hX]; exact hb, hX, q0, q1, q2⟩)
  clear hb hl q0 q1 q2
  refine (HFD.out W).mono ?_
  rintro x w1 ⟨rfl, hb1⟩
  have HR1 := hid (HR0.out.next hb1)
  clear hb1 HR0 HFD
  obtain ⟨⟨a0, a1, a2, a3⟩, _, al⟩ := four HR1.out.hr
  go_wp2_with fail
  refine (HFR.out _).mono ?_
  rintro x w2 ⟨rfl, hb2⟩
  have HR2 := hid (HR1.out.next hb2)
  clear hb2 HR1 HFR a0 a1 a2 a3 al
  obtain ⟨⟨p0, p1, p2, p3⟩, ⟨f0, f1, f2, f3⟩, pl⟩ := four HR2.out.hp
  obtain ⟨⟨z0, z1, z2, z3⟩, ⟨g0, g1, g2, g3⟩, zl⟩ := four HR2.out.hz
  have HDN := hid (retell_done HR2.out 3 i n s.a s.b s.c s.d)
  go_wp2_with fail
  obtain ⟨WW, hWW, hbw, hpw, hzw⟩ := HDN.out
  rw [hWW]
  clear hWW HDN p0 p1 p2 p3 f0 f1 f2 f3 pl z0 z1 z2 z3 g0 g1 g2 g3 zl
  obtain ⟨⟨p0, p1, p2, p3⟩, _, _⟩ := four hpw
  obtain ⟨⟨z0, z1, z2, z3⟩, _, _⟩ := four hzw
  refine bodyPost_ret (v := .tuple #[.agg #[.int .i64 3, .int .i64 i, .int .i64 n, .int .u8 0], .agg #[.int .i64 s.a, .int .i64 s.b, .int .i64 s.c, .int .i64 s.d]]) ?_ rfl ?_
  · simp [results, Tryz.results26, go_sem, p0, p1, p2, p3, z0, z1, z2, z3]
  · exact ⟨rfl, hbw⟩
 | false =>
  rw [hb] at HFD
  simp only [Bool.false_eq_true, if_false]
  have HFR : Hid (∀ W : World, Calls Tryz.prog 47 #[.agg #[.int .i64 r.a, .int .i64 r.b, .int .i64 r.c, .int .i64 r.d], .int .i64 d] W fun x w' => x = .returned (.agg #[.int .i64 (r.push d).a, .int .i64 (r.push d).b, .int .i64 (r.push d).c, .int .i64 (r.push d).d]) /\ Below W.heap.size W w') := hid (fun W => push_any r d W)
  generalize r.push d = s at *
  clear hgi hb
  go_enter Tryz.func26, Tryz.ntmps26
  go_wp2_with fail
  obtain ⟨q0, q1, q2, hb, hl⟩ := three_alloc w (.cells #[.int .i64 r.a, .int .i64 r.b, .int .i64 r.c, .int .i64 r.d] 70) (.cells #[.int .i64 0, .int .i64 0, .int .i64 0, .int .u8 0] 37) (.cells #[.int .i64 0, .int .i64 0, .int .i64 0, .int .i64 0] 70)
  generalize ((w.alloc (.cells #[.int .i64 r.a, .int .i64 r.b, .int .i64 r.c, .int .i64 r.d] 70)).alloc (.cells #[.int .i64 0, .int .i64 0, .int .i64 0, .int .u8 0] 37)).alloc (.cells #[.int .i64 0, .int .i64 0, .int .i64 0, .int .i64 0] 70) = W at *
  generalize hX : w.heap.size = X at *
  have HR0 := hid (show Rt w W X r from ⟨by rw [hX]; exact hb, hX, q0, q1, q2⟩)
  clear hb hl q0 q1 q2
  refine (HFD.out W).mono ?_
  rintro x w1 ⟨rfl, hb1⟩
  have HR1 := hid (HR0.out.next hb1)
  clear hb1 HR0 HFD
  obtain ⟨⟨a0, a1, a2, a3⟩, _, al⟩ := four HR1.out.hr
  go_wp2_with fail
  refine (HFR.out _).mono ?_
  rintro x w2 ⟨rfl, hb2⟩
  have HR2 := hid (HR1.out.next hb2)
  clear hb2 HR1 HFR a0 a1 a2 a3 al
  obtain ⟨⟨p0, p1, p2, p3⟩, ⟨f0, f1, f2, f3⟩, pl⟩ := four HR2.out.hp
  obtain ⟨⟨z0, z1, z2, z3⟩, ⟨g0, g1, g2, g3⟩, zl⟩ := four HR2.out.hz
  have HDN := hid (retell_done HR2.out 2 d n s.a s.b s.c s.d)
  go_wp2_with fail
  obtain ⟨WW, hWW, hbw, hpw, hzw⟩ := HDN.out
  rw [hWW]
  clear hWW HDN p0 p1 p2 p3 f0 f1 f2 f3 pl z0 z1 z2 z3 g0 g1 g2 g3 zl
  obtain ⟨⟨p0, p1, p2, p3⟩, _, _⟩ := four hpw
  obtain ⟨⟨z0, z1, z2, z3⟩, _, _⟩ := four hzw
  refine bodyPost_ret (v := .tuple #[.agg #[.int .i64 2, .int .i64 d, .int .i64 n, .int .u8 0], .agg #[.int .i64 s.a, .int .i64 s.b, .int .i64 s.c, .int .i64 s.d]]) ?_ rfl ?_
  · simp [results, Tryz.results26, go_sem, p0, p1, p2, p3, z0, z1, z2, z3]
  · exact ⟨rfl, hbw⟩
end Go.Proofs.YtfpoabeihpfeiaaGreat.Pk
