/-
  Package packet: the last distances; contracts of First, Push, Front, Find, isPlace, isLen; and of the document's Push and Front.
  Package packet: the contracts of Find, isLen, isPlain; what a packet is.
  Package packet: the contract of Fits.
-/
import Derived.Test.YtfpoabeihpfeiaaGreatPk03
import Derived.Laws.CopyOwn
import Derived.Deep.RegionLaw
import Derived.StillTailTactics
import Derived.LoopN
import Derived.Deep.RegionWith
import Derived.Deep.RegionHeld3
set_option maxRecDepth 100000
set_option maxHeartbeats 16000000
set_option linter.unusedVariables false
set_option linter.unusedSimpArgs false
open Go.Lib (hid)
section
namespace Go.Proofs.YtfpoabeihpfeiaaGreat.Pk
open Go.RowKit
structure Rp where
 a : Int
 b : Int
 c : Int
 d : Int
def Rp.val (r : Rp) : Value := .agg #[.int .i64 r.a, .int .i64 r.b, .int .i64 r.c, .int .i64 r.d]
def Rp.push (r : Rp) (x : Int) : Rp := ⟨x, r.a, r.b, r.c⟩
def Rp.at (r : Rp) (i : Int) : Int := if i = 0 then r.a else if i = 1 then r.b else if i = 2 then r.c else r.d
def Rp.front (r : Rp) (i : Int) : Rp := if i = 1 then ⟨r.b, r.a, r.c, r.d⟩ else if i = 2 then ⟨r.c, r.a, r.b, r.d⟩ else if i = 3 then ⟨r.d, r.a, r.b, r.c⟩ else r
theorem ret_bool {a b : Bool} (h : a = b) : Ending.returned (.bool a) = .returned (.bool b) := by rw [h]
theorem place_any (i : Int) (w : World) : Calls Tryz.prog 48 #[.int .i64 i] w fun x w' => x = .returned (.bool (decide (0 <= i /\ i < 4))) /\ w = w' := by
 by_cases h : 0 <= i
 · by_cases h2 : i < 4
   · have e : decide (0 <= i /\ i < 4) = true := by simp; omega
     rw [e]
     go_enter Tryz.func48, Tryz.ntmps48
     go_wp2
     go_ret
     exact ⟨ret_bool (by simp), rfl⟩
   · have e : decide (0 <= i /\ i < 4) = false := by simp; omega
     rw [e]
     have hd : decide (i < 4) = false := by simpa using h2
     go_enter Tryz.func48, Tryz.ntmps48
     go_wp2
     go_ret
     exact ⟨ret_bool (by simp), rfl⟩
 · have e : decide (0 <= i /\ i < 4) = false := by simp; omega
   rw [e]
   have hd : decide (0 <= i) = false := by simpa using h
   go_enter Tryz.func48, Tryz.ntmps48
   go_wp2
   go_ret
   exact ⟨ret_bool (by simp), rfl⟩
theorem first_any (w : World) : Calls Tryz.prog 24 #[] w fun x w' => x = .returned (Rp.val ⟨1, 1, 1, 1⟩) /\ Below w.heap.size w w' := by
 go_enter Tryz.func24, Tryz.ntmps24
 go_wp2
 refine bodyPost_ret (v := .agg #[.int .i64 1, .int .i64 1, .int .i64 1, .int .i64 1]) ?_ rfl ?_
 · simp [results, Tryz.results24, go_sem]
 · exact ⟨rfl, (Below.refl _ _).alloc (Nat.le_refl _) _⟩
theorem three_alloc (w : World) (o1 o2 o3 : Obj) : (((w.alloc o1).alloc o2).alloc o3).heap[w.heap.size]? = some o1 /\ (((w.alloc o1).alloc o2).alloc o3).heap[w.heap.size + 1]? = some o2 /\ (((w.alloc o1).alloc o2).alloc o3).heap[w.heap.size + 1 + 1]? = some o3 /\ Below w.heap.size w (((w.alloc o1).alloc o2).alloc o3) /\ w.heap.size + 1 + 1 < (((w.alloc o1).alloc o2).alloc o3).heap.size := by
 have h1 := heap_alloc_new (w.alloc o1) o2
 rw [World.size_alloc] at h1
 have h2 := heap_alloc_new ((w.alloc o1).alloc o2) o3
 rw [World.size_alloc, World.size_alloc] at h2
 refine ⟨?_, ?_, h2, ((((Below.refl _ _).alloc (Nat.le_refl _) o1).alloc (by simp) o2).alloc (by simp; omega) o3), by simp⟩
 · rw [Below.heap_alloc _ o3 _ (by simp; omega), Below.heap_alloc _ o2 _ (by simp)]
   exact heap_alloc_new w o1
 · rw [Below.heap_alloc _ o3 _ (by simp)]
   exact h1
theorem four {w : World} {X : Nat} {a b c d : Value} {t : TypeId} (h : w.heap[X]? = some (.cells #[a, b, c, d] t (0, 0))) :
  (w.cell? ⟨X, 0, none⟩ = some a /\ w.cell? ⟨X, 1, none⟩ = some b /\ w.cell? ⟨X, 2, none⟩ = some c /\ w.cell? ⟨X, 3, none⟩ = some d) /\ (w.frozen? ⟨X, 0, none⟩ = false /\ w.frozen? ⟨X, 1, none⟩ = false /\ w.frozen? ⟨X, 2, none⟩ = false /\ w.frozen? ⟨X, 3, none⟩ = false) /\ X < w.heap.size :=
 ⟨⟨by simp [World.cell?, h], by simp [World.cell?, h], by simp [World.cell?, h], by simp [World.cell?, h]⟩, ⟨by simp [World.frozen?, h], by simp [World.frozen?, h], by simp [World.frozen?, h], by simp [World.frozen?, h]⟩, lt_of_heap h⟩
theorem ints_one (l : List Int) : ∀ v ∈ l.map (Value.int .i64), v.oneCell' = true := by
 intro v hv
 obtain ⟨x, _, rfl⟩ := List.mem_map.1 hv
 rfl
theorem sizeI : (Tryz.prog.info? 3).map (·.size) = some 1 := by kernel_rfl
theorem below_four {B : Nat} {w W : World} {X : Nat} (h : Below B w W) (hX : B <= X) (a b c d : Value) : Below B w ((((W.setCell ⟨X, 0, none⟩ a).setCell ⟨X, 1, none⟩ b).setCell ⟨X, 2, none⟩ c).setCell ⟨X, 3, none⟩ d) :=
 (((h.setCell (p := ⟨X, 0, none⟩) hX a).setCell (p := ⟨X, 1, none⟩) hX b).setCell (p := ⟨X, 2, none⟩) hX c).setCell (p := ⟨X, 3, none⟩) hX d
theorem reps_cell {w : World} {X : Nat} {r0 r1 r2 r3 : Int} {t : TypeId} (h : w.heap[X]? = some (.cells #[.int .i64 r0, .int .i64 r1, .int .i64 r2, .int .i64 r3] t (0, 0))) (j : Nat) (v : Value) (hv : ([r0, r1, r2].map (Value.int .i64))[j]? = some v) : w.cell? ((⟨X, 0, none⟩ : Addr).add j) = some v := by
 have hadd : (⟨X, 0, none⟩ : Addr).add j = ⟨X, j, none⟩ := by unfold Addr.add; split <;> simp_all
 rw [hadd]
 obtain ⟨⟨h0, h1, h2, h3⟩, _, _⟩ := four h
 match j, hv with
 | 0, hv => simp at hv; rw [h0, hv]
 | 1, hv => simp at hv; rw [h1, hv]
 | 2, hv => simp at hv; rw [h2, hv]
 | k + 3, hv => simp at hv
theorem push_any (r : Rp) (d : Int) (w : World) : Calls Tryz.prog 47 #[r.val, .int .i64 d] w fun x w' => x = .returned (r.push d).val /\ Below w.heap.size w w' := by
 obtain ⟨r0, r1, r2, r3⟩ := r
 show Calls _ _ #[.agg #[.int .i64 r0, .int .i64 r1, .int .i64 r2, .int .i64 r3], _] _ _
 go_enter Tryz.func47, Tryz.ntmps47
 go_wp2
 obtain ⟨q0, q1, q2, hb, hl⟩ := three_alloc w (.cells #[.int .i64 r0, .int .i64 r1, .int .i64 r2, .int .i64 r3] 70) (.cells #[.int .i64 0, .int .i64 0, .int .i64 0, .int .i64 0] 70) (.cells #[.int .i64 d, .int .i64 0, .int .i64 0, .int .i64 0] 70)
 generalize ((w.alloc (.cells #[.int .i64 r0, .int .i64 r1, .int .i64 r2, .int .i64 r3] 70)).alloc (.cells #[.int .i64 0, .int .i64 0, .int .i64 0, .int .i64 0] 70)).alloc (.cells #[.int .i64 d, .int .i64 0, .int .i64 0, .int .i64 0] 70) = W at *
 have HB := hid hb
 have Q0 := hid q0
 have Q1 := hid q1
 have Q2 := hid q2
 have HBD : Hid (Below (w.heap.size + 1 + 1) W W.drew) := hid ⟨rfl, rfl, rfl, Nat.le_refl _, fun _ _ => rfl⟩
 clear hb q0 q1 q2
 have hl1 : w.heap.size < W.heap.size := by omega
 go_region_law ((refine step_copy_splice rfl (.tmp 8) (.tmp 9) 132 132 rfl 3 Tryz.underlying132 sizeI (some ⟨w.heap.size + 1 + 1, 1, none⟩) (some ⟨w.heap.size, 0, none⟩) 3 3 4 4 rfl rfl (w.heap.size + 1 + 1) 1 [.int .i64 d, .int .i64 0, .int .i64 0, .int .i64 0] 70 (show W.drew.heap[w.heap.size + 1 + 1]? = _ from Q2.out) ([r0, r1, r2].map (Value.int .i64)) rfl (fun _ => ⟨rfl, _, rfl, fun j v hv => reps_cell (show W.drew.heap[w.heap.size]? = _ from Q0.out) j v hv⟩) (Nat.le_refl 4) (ints_one _) (w.heap.size + 1 + 1) W HBD.out (Nat.le_refl _) ?_); intro w4 hg4 hb4)
 all_goals
  have hX1 := (hb4.block (w.heap.size + 1) (by omega)).trans Q1.out
  have hg5 : w4.heap[w.heap.size + 1 + 1]? = some (.cells #[.int .i64 d, .int .i64 r0, .int .i64 r1, .int .i64 r2] 70 (0, 0)) := hg4.out
  obtain ⟨⟨a0, a1, a2, a3⟩, _, _⟩ := four hg5
  obtain ⟨⟨b0, b1, b2, b3⟩, ⟨f0, f1, f2, f3⟩, hl2⟩ := four hX1
  have HB4 := hid (below_four (X := w.heap.size + 1) (HB.out.trans (hb4.mono (by omega))) (by omega) (.int .i64 d) (.int .i64 r0) (.int .i64 r1) (.int .i64 r2))
  clear hX1 hg5 hg4 hb4
  go_wp2
  refine bodyPost_ret (v := .agg #[.int .i64 d, .int .i64 r0, .int .i64 r1, .int .i64 r2]) ?_ rfl ?_
  · simp [results, Tryz.results47, go_sem, b0, b1, b2, b3]
  · exact ⟨rfl, HB4.out⟩
theorem rpush_any (r : Rp) (d : Int) (w : World) : Calls Tryz.prog 33 #[r.val, .int .i64 d] w fun x w' => x = .returned (r.push d).val /\ Below w.heap.size w w' := by
 obtain ⟨r0, r1, r2, r3⟩ := r
 show Calls _ _ #[.agg #[.int .i64 r0, .int .i64 r1, .int .i64 r2, .int .i64 r3], _] _ _
 go_enter Tryz.func33, Tryz.ntmps33
 go_wp2
 refine bodyPost_ret (v := .agg #[.int .i64 d, .int .i64 r0, .int .i64 r1, .int .i64 r2]) ?_ rfl ?_
 · simp [results, Tryz.results33, go_sem]
 · exact ⟨rfl, ((Below.refl _ _).alloc (Nat.le_refl _) _).alloc (by simp) _⟩
theorem reps_take {w : World} {X : Nat} {r0 r1 r2 r3 : Int} {t : TypeId} (i : Nat) (h : w.heap[X]? = some (.cells #[.int .i64 r0, .int .i64 r1, .int .i64 r2, .int .i64 r3] t (0, 0))) (j : Nat) (v : Value) (hv : (([r0, r1, r2].take i).map (Value.int .i64))[j]? = some v) : w.cell? ((⟨X, 0, none⟩ : Addr).add j) = some v := by
 rw [List.map_take] at hv
 rw [List.getElem?_take] at hv
 split at hv
 · exact reps_cell h j v hv
 · cases hv
theorem front_0 (r0 r1 r2 r3 : Int) (w : World) : Calls Tryz.prog 49 #[.agg #[.int .i64 r0, .int .i64 r1, .int .i64 r2, .int .i64 r3], .int .i64 0] w fun x w' => x = .returned (.agg #[.int .i64 r0, .int .i64 r1, .int .i64 r2, .int .i64 r3]) /\ Below w.heap.size w w' := by
 go_enter Tryz.func49, Tryz.ntmps49
 go_wp2_with fail
 refine (place_any 0 _).mono ?_
 rintro x w1 ⟨rfl, rfl⟩
 rw [show decide ((0 : Int) <= 0 /\ (0 : Int) < 4) = true from by decide]
 go_wp2_with fail
 obtain ⟨q0, q1, q2, hb, hl⟩ := three_alloc w (.cells #[.int .i64 r0, .int .i64 r1, .int .i64 r2, .int .i64 r3] 70) (.cells #[.int .i64 0, .int .i64 0, .int .i64 0, .int .i64 0] 70) (.cells #[.int .i64 r0, .int .i64 r1, .int .i64 r2, .int .i64 r3] 70)
 generalize ((w.alloc (.cells #[.int .i64 r0, .int .i64 r1, .int .i64 r2, .int .i64 r3] 70)).alloc (.cells #[.int .i64 0, .int .i64 0, .int .i64 0, .int .i64 0] 70)).alloc (.cells #[.int .i64 r0, .int .i64 r1, .int .i64 r2, .int .i64 r3] 70) = W at *
 have HB := hid hb
 have Q0 := hid q0
 have Q1 := hid q1
 have Q2 := hid q2
 have HBD : Hid (Below (w.heap.size + 1 + 1) W W.drew) := hid ⟨rfl, rfl, rfl, Nat.le_refl _, fun _ _ => rfl⟩
 clear hb q0 q1 q2
 have hl1 : w.heap.size < W.heap.size := by omega
 go_region_law ((refine step_copy_splice rfl (.tmp 15) (.tmp 17) 132 132 rfl 3 Tryz.underlying132 sizeI (some ⟨w.heap.size + 1 + 1, 1, none⟩) (some ⟨w.heap.size, 0, none⟩) 3 3 0 4 rfl rfl (w.heap.size + 1 + 1) 1 [.int .i64 r0, .int .i64 r1, .int .i64 r2, .int .i64 r3] 70 (show W.drew.heap[w.heap.size + 1 + 1]? = _ from Q2.out) ([].map (Value.int .i64)) rfl (fun _ => ⟨rfl, _, rfl, fun j v hv => reps_take 0 (show W.drew.heap[w.heap.size]? = _ from Q0.out) j v hv⟩) (by simp) (ints_one _) (w.heap.size + 1 + 1) W HBD.out (Nat.le_refl _) ?_); intro w4 hg4 hb4)
 all_goals
  have hX1 := (hb4.block (w.heap.size + 1) (by omega)).trans Q1.out
  have hg5 : w4.heap[w.heap.size + 1 + 1]? = some (.cells #[.int .i64 r0, .int .i64 r1, .int .i64 r2, .int .i64 r3] 70 (0, 0)) := hg4.out
  obtain ⟨⟨a0, a1, a2, a3⟩, _, _⟩ := four hg5
  obtain ⟨⟨b0, b1, b2, b3⟩, ⟨f0, f1, f2, f3⟩, hl2⟩ := four hX1
  have HB4 := hid (below_four (X := w.heap.size + 1) (HB.out.trans (hb4.mono (by omega))) (by omega) (.int .i64 r0) (.int .i64 r1) (.int .i64 r2) (.int .i64 r3))
  clear hX1 hg5 hg4 hb4
  go_wp2
  refine bodyPost_ret (v := .agg #[.int .i64 r0, .int .i64 r1, .int .i64 r2, .int .i64 r3]) ?_ rfl ?_
  · simp [results, Tryz.results49, go_sem, b0, b1, b2, b3]
  · exact ⟨rfl, HB4.out⟩
theorem rfront_0 (r0 r1 r2 r3 : Int) (w : World) : Calls Tryz.prog 34 #[.agg #[.int .i64 r0, .int .i64 r1, .int .i64 r2, .int .i64 r3], .int .i64 0] w fun x w' => x = .returned (.agg #[.int .i64 r0, .int .i64 r1, .int .i64 r2, .int .i64 r3]) /\ Below w.heap.size w w' := by
 go_enter Tryz.func34, Tryz.ntmps34
 go_wp2_with fail
 refine wp_loop_rounds 1 ?_
 repeat (rw [rounds_succ]; go_wp2_with fail)
 refine bodyPost_ret (v := .agg #[.int .i64 r0, .int .i64 r1, .int .i64 r2, .int .i64 r3]) ?_ rfl ?_
 · simp [results, Tryz.results34, go_sem]
 · exact ⟨rfl, (((Below.refl _ _).alloc (Nat.le_refl _) _).alloc (by simp) _).alloc (by simp; omega) _⟩
theorem front_1 (r0 r1 r2 r3 : Int) (w : World) : Calls Tryz.prog 49 #[.agg #[.int .i64 r0, .int .i64 r1, .int .i64 r2, .int .i64 r3], .int .i64 1] w fun x w' => x = .returned (.agg #[.int .i64 r1, .int .i64 r0, .int .i64 r2, .int .i64 r3]) /\ Below w.heap.size w w' := by
 go_enter Tryz.func49, Tryz.ntmps49
 go_wp2_with fail
 refine (place_any 1 _).mono ?_
 rintro x w1 ⟨rfl, rfl⟩
 rw [show decide ((0 : Int) <= 1 /\ (1 : Int) < 4) = true from by decide]
 go_wp2_with fail
 obtain ⟨q0, q1, q2, hb, hl⟩ := three_alloc w (.cells #[.int .i64 r0, .int .i64 r1, .int .i64 r2, .int .i64 r3] 70) (.cells #[.int .i64 0, .int .i64 0, .int .i64 0, .int .i64 0] 70) (.cells #[.int .i64 r1, .int .i64 r1, .int .i64 r2, .int .i64 r3] 70)
 generalize ((w.alloc (.cells #[.int .i64 r0, .int .i64 r1, .int .i64 r2, .int .i64 r3] 70)).alloc (.cells #[.int .i64 0, .int .i64 0, .int .i64 0, .int .i64 0] 70)).alloc (.cells #[.int .i64 r1, .int .i64 r1, .int .i64 r2, .int .i64 r3] 70) = W at *
 have HB := hid hb
 have Q0 := hid q0
 have Q1 := hid q1
 have Q2 := hid q2
 have HBD : Hid (Below (w.heap.size + 1 + 1) W W.drew) := hid ⟨rfl, rfl, rfl, Nat.le_refl _, fun _ _ => rfl⟩
 clear hb q0 q1 q2
 have hl1 : w.heap.size < W.heap.size := by omega
 go_region_law ((refine step_copy_splice rfl (.tmp 15) (.tmp 17) 132 132 rfl 3 Tryz.underlying132 sizeI (some ⟨w.heap.size + 1 + 1, 1, none⟩) (some ⟨w.heap.size, 0, none⟩) 3 3 1 4 rfl rfl (w.heap.size + 1 + 1) 1 [.int .i64 r1, .int .i64 r1, .int .i64 r2, .int .i64 r3] 70 (show W.drew.heap[w.heap.size + 1 + 1]? = _ from Q2.out) ([r0].map (Value.int .i64)) rfl (fun _ => ⟨rfl, _, rfl, fun j v hv => reps_take 1 (show W.drew.heap[w.heap.size]? = _ from Q0.out) j v hv⟩) (by simp) (ints_one _) (w.heap.size + 1 + 1) W HBD.out (Nat.le_refl _) ?_); intro w4 hg4 hb4)
 all_goals
  have hX1 := (hb4.block (w.heap.size + 1) (by omega)).trans Q1.out
  have hg5 : w4.heap[w.heap.size + 1 + 1]? = some (.cells #[.int .i64 r1, .int .i64 r0, .int .i64 r2, .int .i64 r3] 70 (0, 0)) := hg4.out
  obtain ⟨⟨a0, a1, a2, a3⟩, _, _⟩ := four hg5
  obtain ⟨⟨b0, b1, b2, b3⟩, ⟨f0, f1, f2, f3⟩, hl2⟩ := four hX1
  have HB4 := hid (below_four (X := w.heap.size + 1) (HB.out.trans (hb4.mono (by omega))) (by omega) (.int .i64 r1) (.int .i64 r0) (.int .i64 r2) (.int .i64 r3))
  clear hX1 hg5 hg4 hb4
  go_wp2
  refine bodyPost_ret (v := .agg #[.int .i64 r1, .int .i64 r0, .int .i64 r2, .int .i64 r3]) ?_ rfl ?_
  · simp [results, Tryz.results49, go_sem, b0, b1, b2, b3]
  · exact ⟨rfl, HB4.out⟩
theorem rfront_1 (r0 r1 r2 r3 : Int) (w : World) : Calls Tryz.prog 34 #[.agg #[.int .i64 r0, .int .i64 r1, .int .i64 r2, .int .i64 r3], .int .i64 1] w fun x w' => x = .returned (.agg #[.int .i64 r1, .int .i64 r0, .int .i64 r2, .int .i64 r3]) /\ Below w.heap.size w w' := by
 go_enter Tryz.func34, Tryz.ntmps34
 go_wp2_with fail
 refine wp_loop_rounds 2 ?_
 repeat (rw [rounds_succ]; go_wp2_with fail)
 refine bodyPost_ret (v := .agg #[.int .i64 r1, .int .i64 r0, .int .i64 r2, .int .i64 r3]) ?_ rfl ?_
 · simp [results, Tryz.results34, go_sem]
 · exact ⟨rfl, (((Below.refl _ _).alloc (Nat.le_refl _) _).alloc (by simp) _).alloc (by simp; omega) _⟩
theorem front_2 (r0 r1 r2 r3 : Int) (w : World) : Calls Tryz.prog 49 #[.agg #[.int .i64 r0, .int .i64 r1, .int .i64 r2, .int .i64 r3], .int .i64 2] w fun x w' => x = .returned (.agg #[.int .i64 r2, .int .i64 r0, .int .i64 r1, .int .i64 r3]) /\ Below w.heap.size w w' := by
 go_enter Tryz.func49, Tryz.ntmps49
 go_wp2_with fail
 refine (place_any 2 _).mono ?_
 rintro x w1 ⟨rfl, rfl⟩
 rw [show decide ((0 : Int) <= 2 /\ (2 : Int) < 4) = true from by decide]
 go_wp2_with fail
 obtain ⟨q0, q1, q2, hb, hl⟩ := three_alloc w (.cells #[.int .i64 r0, .int .i64 r1, .int .i64 r2, .int .i64 r3] 70) (.cells #[.int .i64 0, .int .i64 0, .int .i64 0, .int .i64 0] 70) (.cells #[.int .i64 r2, .int .i64 r1, .int .i64 r2, .int .i64 r3] 70)
 generalize ((w.alloc (.cells #[.int .i64 r0, .int .i64 r1, .int .i64 r2, .int .i64 r3] 70)).alloc (.cells #[.int .i64 0, .int .i64 0, .int .i64 0, .int .i64 0] 70)).alloc (.cells #[.int .i64 r2, .int .i64 r1, .int .i64 r2, .int .i64 r3] 70) = W at *
 have HB := hid hb
 have Q0 := hid q0
 have Q1 := hid q1
 have Q2 := hid q2
 have HBD : Hid (Below (w.heap.size + 1 + 1) W W.drew) := hid ⟨rfl, rfl, rfl, Nat.le_refl _, fun _ _ => rfl⟩
 clear hb q0 q1 q2
 have hl1 : w.heap.size < W.heap.size := by omega
 go_region_law ((refine step_copy_splice rfl (.tmp 15) (.tmp 17) 132 132 rfl 3 Tryz.underlying132 sizeI (some ⟨w.heap.size + 1 + 1, 1, none⟩) (some ⟨w.heap.size, 0, none⟩) 3 3 2 4 rfl rfl (w.heap.size + 1 + 1) 1 [.int .i64 r2, .int .i64 r1, .int .i64 r2, .int .i64 r3] 70 (show W.drew.heap[w.heap.size + 1 + 1]? = _ from Q2.out) ([r0, r1].map (Value.int .i64)) rfl (fun _ => ⟨rfl, _, rfl, fun j v hv => reps_take 2 (show W.drew.heap[w.heap.size]? = _ from Q0.out) j v hv⟩) (by simp) (ints_one _) (w.heap.size + 1 + 1) W HBD.out (Nat.le_refl _) ?_); intro w4 hg4 hb4)
 all_goals
  have hX1 := (hb4.block (w.heap.size + 1) (by omega)).trans Q1.out
  have hg5 : w4.heap[w.heap.size + 1 + 1]? = some (.cells #[.int .i64 r2, .int .i64 r0, .int .i64 r1, .int .i64 r3] 70 (0, 0)) := hg4.out
  obtain ⟨⟨a0, a1, a2, a3⟩, _, _⟩ := four hg5
  obtain ⟨⟨b0, b1, b2, b3⟩, ⟨f0, f1, f2, f3⟩, hl2⟩ := four hX1
  have HB4 := hid (below_four (X := w.heap.size + 1) (HB.out.trans (hb4.mono (by omega))) (by omega) (.int .i64 r2) (.int .i64 r0) (.int .i64 r1) (.int .i64 r3))
  clear hX1 hg5 hg4 hb4
  go_wp2
  refine bodyPost_ret (v := .agg #[.int .i64 r2, .int .i64 r0, .int .i64 r1, .int .i64 r3]) ?_ rfl ?_
  · simp [results, Tryz.results49, go_sem, b0, b1, b2, b3]
  · exact ⟨rfl, HB4.out⟩
theorem rfront_2 (r0 r1 r2 r3 : Int) (w : World) : Calls Tryz.prog 34 #[.agg #[.int .i64 r0, .int .i64 r1, .int .i64 r2, .int .i64 r3], .int .i64 2] w fun x w' => x = .returned (.agg #[.int .i64 r2, .int .i64 r0, .int .i64 r1, .int .i64 r3]) /\ Below w.heap.size w w' := by
 go_enter Tryz.func34, Tryz.ntmps34
 go_wp2_with fail
 refine wp_loop_rounds 3 ?_
 repeat (rw [rounds_succ]; go_wp2_with fail)
 refine bodyPost_ret (v := .agg #[.int .i64 r2, .int .i64 r0, .int .i64 r1, .int .i64 r3]) ?_ rfl ?_
 · simp [results, Tryz.results34, go_sem]
 · exact ⟨rfl, (((Below.refl _ _).alloc (Nat.le_refl _) _).alloc (by simp) _).alloc (by simp; omega) _⟩
theorem front_3 (r0 r1 r2 r3 : Int) (w : World) : Calls Tryz.prog 49 #[.agg #[.int .i64 r0, .int .i64 r1, .int .i64 r2, .int .i64 r3], .int .i64 3] w fun x w' => x = .returned (.agg #[.int .i64 r3, .int .i64 r0, .int .i64 r1, .int .i64 r2]) /\ Below w.heap.size w w' := by
 go_enter Tryz.func49, Tryz.ntmps49
 go_wp2_with fail
 refine (place_any 3 _).mono ?_
 rintro x w1 ⟨rfl, rfl⟩
 rw [show decide ((0 : Int) <= 3 /\ (3 : Int) < 4) = true from by decide]
 go_wp2_with fail
 obtain ⟨q0, q1, q2, hb, hl⟩ := three_alloc w (.cells #[.int .i64 r0, .int .i64 r1, .int .i64 r2, .int .i64 r3] 70) (.cells #[.int .i64 0, .int .i64 0, .int .i64 0, .int .i64 0] 70) (.cells #[.int .i64 r3, .int .i64 r1, .int .i64 r2, .int .i64 r3] 70)
 generalize ((w.alloc (.cells #[.int .i64 r0, .int .i64 r1, .int .i64 r2, .int .i64 r3] 70)).alloc (.cells #[.int .i64 0, .int .i64 0, .int .i64 0, .int .i64 0] 70)).alloc (.cells #[.int .i64 r3, .int .i64 r1, .int .i64 r2, .int .i64 r3] 70) = W at *
 have HB := hid hb
 have Q0 := hid q0
 have Q1 := hid q1
 have Q2 := hid q2
 have HBD : Hid (Below (w.heap.size + 1 + 1) W W.drew) := hid ⟨rfl, rfl, rfl, Nat.le_refl _, fun _ _ => rfl⟩
 clear hb q0 q1 q2
 have hl1 : w.heap.size < W.heap.size := by omega
 go_region_law ((refine step_copy_splice rfl (.tmp 15) (.tmp 17) 132 132 rfl 3 Tryz.underlying132 sizeI (some ⟨w.heap.size + 1 + 1, 1, none⟩) (some ⟨w.heap.size, 0, none⟩) 3 3 3 4 rfl rfl (w.heap.size + 1 + 1) 1 [.int .i64 r3, .int .i64 r1, .int .i64 r2, .int .i64 r3] 70 (show W.drew.heap[w.heap.size + 1 + 1]? = _ from Q2.out) ([r0, r1, r2].map (Value.int .i64)) rfl (fun _ => ⟨rfl, _, rfl, fun j v hv => reps_take 3 (show W.drew.heap[w.heap.size]? = _ from Q0.out) j v hv⟩) (by simp) (ints_one _) (w.heap.size + 1 + 1) W HBD.out (Nat.le_refl _) ?_); intro w4 hg4 hb4)
 all_goals
  have hX1 := (hb4.block (w.heap.size + 1) (by omega)).trans Q1.out
  have hg5 : w4.heap[w.heap.size + 1 + 1]? = some (.cells #[.int .i64 r3, .int .i64 r0, .int .i64 r1, .int .i64 r2] 70 (0, 0)) := hg4.out
  obtain ⟨⟨a0, a1, a2, a3⟩, _, _⟩ := four hg5
  obtain ⟨⟨b0, b1, b2, b3⟩, ⟨f0, f1, f2, f3⟩, hl2⟩ := four hX1
  have HB4 := hid (below_four (X := w.heap.size + 1) (HB.out.trans (hb4.mono (by omega))) (by omega) (.int .i64 r3) (.int .i64 r0) (.int .i64 r1) (.int .i64 r2))
  clear hX1 hg5 hg4 hb4
  go_wp2
  refine bodyPost_ret (v := .agg #[.int .i64 r3, .int .i64 r0, .int .i64 r1, .int .i64 r2]) ?_ rfl ?_
  · simp [results, Tryz.results49, go_sem, b0, b1, b2, b3]
  · exact ⟨rfl, HB4.out⟩
theorem rfront_3 (r0 r1 r2 r3 : Int) (w : World) : Calls Tryz.prog 34 #[.agg #[.int .i64 r0, .int .i64 r1, .int .i64 r2, .int .i64 r3], .int .i64 3] w fun x w' => x = .returned (.agg #[.int .i64 r3, .int .i64 r0, .int .i64 r1, .int .i64 r2]) /\ Below w.heap.size w w' := by
 go_enter Tryz.func34, Tryz.ntmps34
 go_wp2_with fail
 refine wp_loop_rounds 4 ?_
 repeat (rw [rounds_succ]; go_wp2_with fail)
 refine bodyPost_ret (v := .agg #[.int .i64 r3, .int .i64 r0, .int .i64 r1, .int .i64 r2]) ?_ rfl ?_
 · simp [results, Tryz.results34, go_sem]
 · exact ⟨rfl, (((Below.refl _ _).alloc (Nat.le_refl _) _).alloc (by simp) _).alloc (by simp; omega) _⟩
theorem front_out (r0 r1 r2 r3 i : Int) (hi : ¬ (0 <= i /\ i < 4)) (w : World) : Calls Tryz.prog 49 #[.agg #[.int .i64 r0, .int .i64 r1, .int .i64 r2, .int .i64 r3], .int .i64 i] w fun x w' => x = .returned (.agg #[.int .i64 r0, .int .i64 r1, .int .i64 r2, .int .i64 r3]) /\ Below w.heap.size w w' := by
 have hp := fun W => place_any i W
 rw [show decide (0 <= i /\ i < 4) = false from by simp; omega] at hp
 have HP := hid hp
 clear hp hi
 go_enter Tryz.func49, Tryz.ntmps49
 go_wp2_with fail
 refine (HP.out _).mono ?_
 rintro x w1 ⟨rfl, rfl⟩
 go_wp2_with fail
 refine bodyPost_ret (v := .agg #[.int .i64 r0, .int .i64 r1, .int .i64 r2, .int .i64 r3]) ?_ rfl ?_
 · simp [results, Tryz.results49, go_sem]
 · exact ⟨rfl, ((Below.refl _ _).alloc (Nat.le_refl _) _).alloc (by simp) _⟩
theorem rfront_out (r0 r1 r2 r3 i : Int) (hi : ¬ (0 <= i /\ i < 4)) (w : World) : Calls Tryz.prog 34 #[.agg #[.int .i64 r0, .int .i64 r1, .int .i64 r2, .int .i64 r3], .int .i64 i] w fun x w' => x = .returned (.agg #[.int .i64 r0, .int .i64 r1, .int .i64 r2, .int .i64 r3]) /\ Below w.heap.size w w' := by
 by_cases h : i < 0
 · have hd : decide (i < 0) = true := by simpa using h
   clear hi h
   go_enter Tryz.func34, Tryz.ntmps34
   go_wp2_with fail
   refine bodyPost_ret (v := .agg #[.int .i64 r0, .int .i64 r1, .int .i64 r2, .int .i64 r3]) ?_ rfl ?_
   · simp [results, Tryz.results34, go_sem]
   · exact ⟨rfl, (((Below.refl _ _).alloc (Nat.le_refl _) _).alloc (by simp) _).alloc (by simp; omega) _⟩
 · have hd : decide (i < 0) = false := by simpa using h
   have hd2 : decide (3 < i) = true := by simp; omega
   clear hi h
   go_enter Tryz.func34, Tryz.ntmps34
   go_wp2_with fail
   refine bodyPost_ret (v := .agg #[.int .i64 r0, .int .i64 r1, .int .i64 r2, .int .i64 r3]) ?_ rfl ?_
   · simp [results, Tryz.results34, go_sem]
   · exact ⟨rfl, (((Below.refl _ _).alloc (Nat.le_refl _) _).alloc (by simp) _).alloc (by simp; omega) _⟩
theorem front_any (r : Rp) (i : Int) (w : World) : Calls Tryz.prog 49 #[r.val, .int .i64 i] w fun x w' => x = .returned (r.front i).val /\ Below w.heap.size w w' := by
 obtain ⟨r0, r1, r2, r3⟩ := r
 by_cases h : 0 <= i /\ i < 4
 · rcases (show i = 0 \/ i = 1 \/ i = 2 \/ i = 3 by omega) with rfl | rfl | rfl | rfl
   · exact front_0 r0 r1 r2 r3 w
   · exact front_1 r0 r1 r2 r3 w
   · exact front_2 r0 r1 r2 r3 w
   · exact front_3 r0 r1 r2 r3 w
 · have e : (⟨r0, r1, r2, r3⟩ : Rp).front i = ⟨r0, r1, r2, r3⟩ := by unfold Rp.front; rw [if_neg (by omega), if_neg (by omega), if_neg (by omega)]
   rw [e]
   exact front_out r0 r1 r2 r3 i h w
theorem rfront_any (r : Rp) (i : Int) (w : World) : Calls Tryz.prog 34 #[r.val, .int .i64 i] w fun x w' => x = .returned (r.front i).val /\ Below w.heap.size w w' := by
 obtain ⟨r0, r1, r2, r3⟩ := r
 by_cases h : 0 <= i /\ i < 4
 · rcases (show i = 0 \/ i = 1 \/ i = 2 \/ i = 3 by omega) with rfl | rfl | rfl | rfl
   · exact rfront_0 r0 r1 r2 r3 w
   · exact rfront_1 r0 r1 r2 r3 w
   · exact rfront_2 r0 r1 r2 r3 w
   · exact rfront_3 r0 r1 r2 r3 w
 · have e : (⟨r0, r1, r2, r3⟩ : Rp).front i = ⟨r0, r1, r2, r3⟩ := by unfold Rp.front; rw [if_neg (by omega), if_neg (by omega), if_neg (by omega)]
   rw [e]
   exact rfront_out r0 r1 r2 r3 i h w
end Go.Proofs.YtfpoabeihpfeiaaGreat.Pk
end
section
namespace Go.Proofs.YtfpoabeihpfeiaaGreat.Pk
open Go.RowKit
def Rp.find (r : Rp) (d : Int) : Int × Bool := if r.a = d then (0, true) else if r.b = d then (1, true) else if r.c = d then (2, true) else if r.d = d then (3, true) else (0, false)
theorem find_0 (r0 r1 r2 r3 d : Int) (h0 : (r0 == d) = true) (w : World) : Calls Tryz.prog 50 #[.agg #[.int .i64 r0, .int .i64 r1, .int .i64 r2, .int .i64 r3], .int .i64 d] w fun x w' => x = .returned (.tuple #[.int .i64 0, .bool true]) /\ Below w.heap.size w w' := by
 have i0 : ∀ w, (Instr.index 70 (.agg #[.int .i64 r0, .int .i64 r1, .int .i64 r2, .int .i64 r3]) (.int .i64 0)).run Tryz.prog w = .ok (.int .i64 r0) w := fun _ => by kernel_rfl
 go_enter Tryz.func50, Tryz.ntmps50
 go_wp2_with fail
 refine wp_loop_rounds 1 ?_
 rw [rounds_succ]
 go_wp2_with fail
 go_ret2
 exact ⟨rfl, (Below.refl _ _).alloc (Nat.le_refl _) _⟩
theorem find_1 (r0 r1 r2 r3 d : Int) (h0 : (r0 == d) = false) (h1 : (r1 == d) = true) (w : World) : Calls Tryz.prog 50 #[.agg #[.int .i64 r0, .int .i64 r1, .int .i64 r2, .int .i64 r3], .int .i64 d] w fun x w' => x = .returned (.tuple #[.int .i64 1, .bool true]) /\ Below w.heap.size w w' := by
 have i0 : ∀ w, (Instr.index 70 (.agg #[.int .i64 r0, .int .i64 r1, .int .i64 r2, .int .i64 r3]) (.int .i64 0)).run Tryz.prog w = .ok (.int .i64 r0) w := fun _ => by kernel_rfl
 have i1 : ∀ w, (Instr.index 70 (.agg #[.int .i64 r0, .int .i64 r1, .int .i64 r2, .int .i64 r3]) (.int .i64 1)).run Tryz.prog w = .ok (.int .i64 r1) w := fun _ => by kernel_rfl
 go_enter Tryz.func50, Tryz.ntmps50
 go_wp2_with fail
 refine wp_loop_rounds 2 ?_
 rw [rounds_succ]
 go_wp2_with fail
 rw [rounds_succ]
 go_wp2_with fail
 go_ret2
 exact ⟨rfl, (Below.refl _ _).alloc (Nat.le_refl _) _⟩
theorem find_2 (r0 r1 r2 r3 d : Int) (h0 : (r0 == d) = false) (h1 : (r1 == d) = false) (h2 : (r2 == d) = true) (w : World) : Calls Tryz.prog 50 #[.agg #[.int .i64 r0, .int .i64 r1, .int .i64 r2, .int .i64 r3], .int .i64 d] w fun x w' => x = .returned (.tuple #[.int .i64 2, .bool true]) /\ Below w.heap.size w w' := by
 have i0 : ∀ w, (Instr.index 70 (.agg #[.int .i64 r0, .int .i64 r1, .int .i64 r2, .int .i64 r3]) (.int .i64 0)).run Tryz.prog w = .ok (.int .i64 r0) w := fun _ => by kernel_rfl
 have i1 : ∀ w, (Instr.index 70 (.agg #[.int .i64 r0, .int .i64 r1, .int .i64 r2, .int .i64 r3]) (.int .i64 1)).run Tryz.prog w = .ok (.int .i64 r1) w := fun _ => by kernel_rfl
 have i2 : ∀ w, (Instr.index 70 (.agg #[.int .i64 r0, .int .i64 r1, .int .i64 r2, .int .i64 r3]) (.int .i64 2)).run Tryz.prog w = .ok (.int .i64 r2) w := fun _ => by kernel_rfl
 go_enter Tryz.func50, Tryz.ntmps50
 go_wp2_with fail
 refine wp_loop_rounds 3 ?_
 rw [rounds_succ]
 go_wp2_with fail
 rw [rounds_succ]
 go_wp2_with fail
 rw [rounds_succ]
 go_wp2_with fail
 go_ret2
 exact ⟨rfl, (Below.refl _ _).alloc (Nat.le_refl _) _⟩
theorem find_3 (r0 r1 r2 r3 d : Int) (h0 : (r0 == d) = false) (h1 : (r1 == d) = false) (h2 : (r2 == d) = false) (h3 : (r3 == d) = true) (w : World) : Calls Tryz.prog 50 #[.agg #[.int .i64 r0, .int .i64 r1, .int .i64 r2, .int .i64 r3], .int .i64 d] w fun x w' => x = .returned (.tuple #[.int .i64 3, .bool true]) /\ Below w.heap.size w w' := by
 have i0 : ∀ w, (Instr.index 70 (.agg #[.int .i64 r0, .int .i64 r1, .int .i64 r2, .int .i64 r3]) (.int .i64 0)).run Tryz.prog w = .ok (.int .i64 r0) w := fun _ => by kernel_rfl
 have i1 : ∀ w, (Instr.index 70 (.agg #[.int .i64 r0, .int .i64 r1, .int .i64 r2, .int .i64 r3]) (.int .i64 1)).run Tryz.prog w = .ok (.int .i64 r1) w := fun _ => by kernel_rfl
 have i2 : ∀ w, (Instr.index 70 (.agg #[.int .i64 r0, .int .i64 r1, .int .i64 r2, .int .i64 r3]) (.int .i64 2)).run Tryz.prog w = .ok (.int .i64 r2) w := fun _ => by kernel_rfl
 have i3 : ∀ w, (Instr.index 70 (.agg #[.int .i64 r0, .int .i64 r1, .int .i64 r2, .int .i64 r3]) (.int .i64 3)).run Tryz.prog w = .ok (.int .i64 r3) w := fun _ => by kernel_rfl
 go_enter Tryz.func50, Tryz.ntmps50
 go_wp2_with fail
 refine wp_loop_rounds 4 ?_
 rw [rounds_succ]
 go_wp2_with fail
 rw [rounds_succ]
 go_wp2_with fail
 rw [rounds_succ]
 go_wp2_with fail
 rw [rounds_succ]
 go_wp2_with fail
 go_ret2
 exact ⟨rfl, (Below.refl _ _).alloc (Nat.le_refl _) _⟩
theorem find_4 (r0 r1 r2 r3 d : Int) (h0 : (r0 == d) = false) (h1 : (r1 == d) = false) (h2 : (r2 == d) = false) (h3 : (r3 == d) = false) (w : World) : Calls Tryz.prog 50 #[.agg #[.int .i64 r0, .int .i64 r1, .int .i64 r2, .int .i64 r3], .int .i64 d] w fun x w' => x = .returned (.tuple #[.int .i64 0, .bool false]) /\ Below w.heap.size w w' := by
 have i0 : ∀ w, (Instr.index 70 (.agg #[.int .i64 r0, .int .i64 r1, .int .i64 r2, .int .i64 r3]) (.int .i64 0)).run Tryz.prog w = .ok (.int .i64 r0) w := fun _ => by kernel_rfl
 have i1 : ∀ w, (Instr.index 70 (.agg #[.int .i64 r0, .int .i64 r1, .int .i64 r2, .int .i64 r3]) (.int .i64 1)).run Tryz.prog w = .ok (.int .i64 r1) w := fun _ => by kernel_rfl
 have i2 : ∀ w, (Instr.index 70 (.agg #[.int .i64 r0, .int .i64 r1, .int .i64 r2, .int .i64 r3]) (.int .i64 2)).run Tryz.prog w = .ok (.int .i64 r2) w := fun _ => by kernel_rfl
 have i3 : ∀ w, (Instr.index 70 (.agg #[.int .i64 r0, .int .i64 r1, .int .i64 r2, .int .i64 r3]) (.int .i64 3)).run Tryz.prog w = .ok (.int .i64 r3) w := fun _ => by kernel_rfl
 go_enter Tryz.func50, Tryz.ntmps50
 go_wp2_with fail
 refine wp_loop_rounds 5 ?_
 rw [rounds_succ]
 go_wp2_with fail
 rw [rounds_succ]
 go_wp2_with fail
 rw [rounds_succ]
 go_wp2_with fail
 rw [rounds_succ]
 go_wp2_with fail
 rw [rounds_succ]
 go_wp2_with fail
 go_ret2
 exact ⟨rfl, (Below.refl _ _).alloc (Nat.le_refl _) _⟩
theorem find_any (r : Rp) (d : Int) (w : World) : Calls Tryz.prog 50 #[r.val, .int .i64 d] w fun x w' => x = .returned (.tuple #[.int .i64 (r.find d).1, .bool (r.find d).2]) /\ Below w.heap.size w w' := by
 obtain ⟨r0, r1, r2, r3⟩ := r
 unfold Rp.find
 simp only
 by_cases h0 : r0 = d
 · rw [if_pos h0]; exact find_0 r0 r1 r2 r3 d (by simpa using h0) w
 rw [if_neg h0]
 by_cases h1 : r1 = d
 · rw [if_pos h1]; exact find_1 r0 r1 r2 r3 d (by simpa using h0) (by simpa using h1) w
 rw [if_neg h1]
 by_cases h2 : r2 = d
 · rw [if_pos h2]; exact find_2 r0 r1 r2 r3 d (by simpa using h0) (by simpa using h1) (by simpa using h2) w
 rw [if_neg h2]
 by_cases h3 : r3 = d
 · rw [if_pos h3]; exact find_3 r0 r1 r2 r3 d (by simpa using h0) (by simpa using h1) (by simpa using h2) (by simpa using h3) w
 rw [if_neg h3]
 exact find_4 r0 r1 r2 r3 d (by simpa using h0) (by simpa using h1) (by simpa using h2) (by simpa using h3) w
def lenB (n : Int) : Bool := decide (2 <= n) && decide (n <= 273)
theorem len_any (n : Int) (w : World) : Calls Tryz.prog 46 #[.int .i64 n] w fun x w' => x = .returned (.bool (lenB n)) /\ w = w' := by
 unfold lenB
 by_cases h : 2 <= n
 · go_enter Tryz.func46, Tryz.ntmps46
   go_wp2
   go_ret
   exact ⟨ret_bool (by simp [h]), rfl⟩
 · have hd : decide (2 <= n) = false := by simpa using h
   rw [hd]
   go_enter Tryz.func46, Tryz.ntmps46
   go_wp2
   go_ret
   exact ⟨ret_bool (by simp), rfl⟩
structure Pt where
 k : Int
 d : Int
 n : Int
 b : Nat
def Pt.val (p : Pt) : Value := .agg #[.int .i64 p.k, .int .i64 p.d, .int .i64 p.n, .int .u8 p.b]
def Pt.plain (p : Pt) : Bool := if p.k = 1 then decide (p.d = 0 /\ p.n = 0) else if p.k = 2 \/ p.k = 3 then decide (p.b = 0) else if p.k = 4 then decide (p.d = 0 /\ p.n = 0 /\ p.b = 0) else false
theorem plain_any (p : Pt) (w : World) : Calls Tryz.prog 45 #[p.val] w fun x w' => x = .returned (.bool p.plain) /\ Below w.heap.size w w' := by
 obtain ⟨k, d, n, b⟩ := p
 show Calls _ _ #[.agg #[.int .i64 k, .int .i64 d, .int .i64 n, .int .u8 b]] _ _
 unfold Pt.plain
 simp only
 have HB := hid ((Below.refl w.heap.size w).alloc (Nat.le_refl _) (.cells #[.int .i64 k, .int .i64 d, .int .i64 n, .int .u8 b] 37))
 by_cases h1 : k = 1
 · subst h1
   go_enter Tryz.func45, Tryz.ntmps45
   go_wp2
   all_goals
    go_ret
    exact ⟨ret_bool (by simp_all), (Below.refl _ _).alloc (Nat.le_refl _) _⟩
 by_cases h2 : k = 2
 · subst h2
   go_enter Tryz.func45, Tryz.ntmps45
   go_wp2
   all_goals
    go_ret
    exact ⟨ret_bool (by simp_all), (Below.refl _ _).alloc (Nat.le_refl _) _⟩
 by_cases h3 : k = 3
 · subst h3
   go_enter Tryz.func45, Tryz.ntmps45
   go_wp2
   all_goals
    go_ret
    exact ⟨ret_bool (by simp_all), (Below.refl _ _).alloc (Nat.le_refl _) _⟩
 by_cases h4 : k = 4
 · subst h4
   go_enter Tryz.func45, Tryz.ntmps45
   go_wp2
   all_goals
    go_ret
    exact ⟨ret_bool (by simp_all), (Below.refl _ _).alloc (Nat.le_refl _) _⟩
 · rw [if_neg h1, if_neg (by omega), if_neg h4]
   have e1 : (k == 1) = false := by simpa using h1
   have e2 : (k == 2) = false := by simpa using h2
   have e3 : (k == 3) = false := by simpa using h3
   have e4 : (k == 4) = false := by simpa using h4
   go_enter Tryz.func45, Tryz.ntmps45
   go_wp2
   go_ret
   exact ⟨rfl, HB.out⟩
end Go.Proofs.YtfpoabeihpfeiaaGreat.Pk
end
section
namespace Go.Proofs.YtfpoabeihpfeiaaGreat.Pk
open Go.RowKit
def Pt.fit (p : Pt) (hv : Int) (r : Rp) : Option (Int × Int × Rp) :=
 if p.plain = false then none
 else if p.k = 1 then some (0, 1, r)
 else if p.k = 2 then (if 1 <= p.d /\ p.d <= min hv 1048576 /\ lenB p.n = true then some (p.d, p.n, r.push p.d) else none)
 else if p.k = 3 then (if (0 <= p.d /\ p.d < 4) /\ r.at p.d <= hv /\ lenB p.n = true then some (r.at p.d, p.n, r.front p.d) else none)
 else if r.a <= hv then some (r.a, 1, r) else none
def fitVal (r : Rp) : Option (Int × Int × Rp) -> Value
 | none => .tuple #[.int .i64 0, .int .i64 0, r.val, .bool false]
 | some (d, n, s) => .tuple #[.int .i64 d, .int .i64 n, s.val, .bool true]
structure Mem (w w1 : World) (X : Nat) (p : Pt) (r : Rp) : Prop where
 below : Below w.heap.size w w1
 eqX : w.heap.size = X
 hp : w1.heap[X]? = some (.cells #[.int .i64 p.k, .int .i64 p.d, .int .i64 p.n, .int .u8 p.b] 37 (0, 0))
 hr : w1.heap[X + 1]? = some (.cells #[.int .i64 r.a, .int .i64 r.b, .int .i64 r.c, .int .i64 r.d] 70 (0, 0))
 hz : w1.heap[X + 1 + 1]? = some (.cells #[.int .i64 0, .int .i64 0, .int .i64 0, .int .i64 0] 70 (0, 0))
theorem Mem.next {w w1 w2 : World} {X : Nat} {p : Pt} {r : Rp} (h : Mem w w1 X p r) (hb : Below w1.heap.size w1 w2) : Mem w w2 X p r :=
 ⟨h.below.trans (hb.mono h.below.size), h.eqX, (hb.block _ (lt_of_heap h.hp)).trans h.hp, (hb.block _ (lt_of_heap h.hr)).trans h.hr, (hb.block _ (lt_of_heap h.hz)).trans h.hz⟩
theorem Mem.drew {w w1 : World} {X : Nat} {p : Pt} {r : Rp} (h : Mem w w1 X p r) : Mem w w1.drew X p r := h.next ⟨rfl, rfl, rfl, Nat.le_refl _, fun _ _ => rfl⟩
theorem Mem.done {w w1 : World} {X : Nat} {p : Pt} {r : Rp} (h : Mem w w1 X p r) (s : Rp) : Below w.heap.size w ((((w1.setCell ⟨X + 1 + 1, 0, none⟩ (.int .i64 s.a)).setCell ⟨X + 1 + 1, 1, none⟩ (.int .i64 s.b)).setCell ⟨X + 1 + 1, 2, none⟩ (.int .i64 s.c)).setCell ⟨X + 1 + 1, 3, none⟩ (.int .i64 s.d)) :=
 below_four h.below (by have := h.eqX; omega) _ _ _ _
theorem push_raw (r0 r1 r2 r3 d : Int) (w : World) : Calls Tryz.prog 47 #[.agg #[.int .i64 r0, .int .i64 r1, .int .i64 r2, .int .i64 r3], .int .i64 d] w fun x w' => x = .returned (.agg #[.int .i64 d, .int .i64 r0, .int .i64 r1, .int .i64 r2]) /\ Below w.heap.size w w' := push_any ⟨r0, r1, r2, r3⟩ d w
theorem set_keep {W : World} {X k : Nat} {a b c d : Value} (hk : k ≠ X) (j : Nat) : ((((W.setCell ⟨X, 0, none⟩ a).setCell ⟨X, 1, none⟩ b).setCell ⟨X, 2, none⟩ c).setCell ⟨X, 3, none⟩ d).cell? ⟨k, j, none⟩ = W.cell? ⟨k, j, none⟩ := by
 apply World.cell?_of_block
 show (World.setCell _ _ _).heap[k]? = _
 rw [Below.heap_setCell _ _ _ _ hk, Below.heap_setCell _ _ _ _ hk, Below.heap_setCell _ _ _ _ hk, Below.heap_setCell _ _ _ _ hk]
end Go.Proofs.YtfpoabeihpfeiaaGreat.Pk
end
