/-
  Package context: the contract of step.
-/
import Derived.Test.YteacmcckhjabmaaCtxDev
set_option linter.unusedVariables false
set_option linter.unusedSimpArgs false
namespace Go.Proofs.Yteacmcckhjabmaa.Cx
open Go.RowKit
open Rc Ar Fq
section
variable {cs : List Nat} {w w' : World} {O O' : Paint} {b d : Nat} {m : CM} {r : Rw}
theorem RwAt.vq_form (h : RwAt w O b d m r) (hn : 0 < r.pth.length) : ∃ g cap, m.vq = .slice (some ⟨g, 0, none⟩) r.pth.length cap := by
  obtain ⟨g, cap, e, _⟩ := h.pth.form (by rw [iv_len]; exact hn)
  rw [iv_len] at e
  exact ⟨g, cap, e⟩
theorem RwAt.vh_form (h : RwAt w O b d m r) (hn : 0 < r.hist.length) : ∃ g cap, m.vh = .slice (some ⟨g, 0, none⟩) r.hist.length cap := by
  obtain ⟨g, cap, e, _⟩ := h.hist.form (by rw [bv_len]; exact hn)
  rw [bv_len] at e
  exact ⟨g, cap, e⟩
theorem two_at {w : World} {X : Nat} {a b : Value} {t : TypeId} (h : w.heap[X]? = some (.cells #[a, b] t (0, 0))) : w.cell? ⟨X, 0, none⟩ = some a ∧ w.cell? ⟨X, 1, none⟩ = some b ∧ (∀ i, w.frozen? ⟨X, i, none⟩ = false) ∧ X < w.heap.size :=
  ⟨by simp [World.cell?, h], by simp [World.cell?, h], fun i => by simp [World.frozen?, h], lt_of_heap h⟩
set_option maxRecDepth 100000 in
set_option maxHeartbeats 1000000 in
theorem step_any (h : RwAt w O b d m r) {k p y : Nat} (h1 : 1 ≤ k) (hp : r.pth[k - 1]? = some p) (h3 : k ≤ r.hist.length) (hy : r.hist[r.hist.length - k]? = some y) :
    Calls Try.prog 100 #[.pointer (some ⟨d, 0, none⟩), .int .i64 (k : Int)] w fun x w' => x = .returned (val2 p y) ∧ Below w.heap.size w w' := by
  have hk := (List.getElem?_eq_some_iff.1 hp).1
  obtain ⟨gq, cq, eq⟩ := h.vq_form (by omega)
  obtain ⟨gh, ch, eh⟩ := h.vh_form (by omega)
  obtain ⟨e0, e1, e2, e3, e4, e5⟩ := six_at h.obj.1
  have hq := h.pth
  have hh := h.hist
  rw [eq] at hq e4
  rw [eh] at hh e3
  have c1 := hq.cell (j := k - 1) (x := .int .i64 (p : Int)) (by unfold iv; rw [List.getElem?_map, hp]; rfl)
  have c2 := hh.cell (j := r.hist.length - k) (x := .int .u8 (y : Int)) (by unfold bv; rw [List.getElem?_map, hy]; rfl)
  have b1 : gq < w.heap.size := hq.lt rfl
  have b2 : gh < w.heap.size := hh.lt rfl
  have hl1 : r.pth.length ≤ 18 := by have := h.ok.len; have := h.ok.hist.1; have := h.ok.order; omega
  have hl2 : r.hist.length ≤ 18 := by have := h.ok.hist.1; have := h.ok.order; omega
  generalize r.pth.length = PL at *
  generalize r.hist.length = HL at *
  have hd : d < w.heap.size := h.obj.lt
  have hb : Below w.heap.size w (w.alloc (.cells #[.int .i64 0, .int .u8 0] 163)) := (Below.refl _ _).alloc (Nat.le_refl _) _
  have HE := Lib.hid (show (w.alloc (.cells #[.int .i64 0, .int .u8 0] 163)).cell? ⟨d, 3, none⟩ = some (.slice (some ⟨gh, 0, none⟩) HL ch) ∧ (w.alloc (.cells #[.int .i64 0, .int .u8 0] 163)).cell? ⟨d, 4, none⟩ = some (.slice (some ⟨gq, 0, none⟩) PL cq) ∧ (w.alloc (.cells #[.int .i64 0, .int .u8 0] 163)).cell? ⟨gq, k - 1, none⟩ = some (.int .i64 (p : Int)) ∧ (w.alloc (.cells #[.int .i64 0, .int .u8 0] 163)).cell? ⟨gh, HL - k, none⟩ = some (.int .u8 (y : Int)) from ⟨(hb.cell hd).trans e3, (hb.cell hd).trans e4, (hb.cell b1).trans c1, (hb.cell b2).trans c2⟩)
  have HN := Lib.hid (heap_alloc_new w (.cells #[.int .i64 0, .int .u8 0] 163))
  have HB := Lib.hid hb
  clear h hq hh eq eh hp hy e0 e1 e2 e5 e3 e4 c1 c2 b1 b2 hb hd
  have w1 : IntKind.i64.wrap ((k : Int) - 1) = ((k - 1 : Nat) : Int) := by rw [IntKind.wrap_i64]; omega
  have w2 : IntKind.i64.wrap ((HL : Int) - (k : Int)) = ((HL - k : Nat) : Int) := by rw [IntKind.wrap_i64]; omega
  have w3 : wrap64 ((k : Int) - 1) = ((k - 1 : Nat) : Int) := by unfold wrap64; omega
  have w4 : wrap64 ((HL : Int) - (k : Int)) = ((HL - k : Nat) : Int) := by unfold wrap64; omega
  have g2 : ((k - 1 : Nat) : Int) < (PL : Int) := by omega
  have g4 : ((HL - k : Nat) : Int) < (HL : Int) := by omega
  generalize k - 1 = i at *
  generalize HL - k = j at *
  have g1 : (0 : Int) ≤ (i : Int) := by omega
  have g3 : (0 : Int) ≤ (j : Int) := by omega
  have g5 : (i : Int).toNat = i := rfl
  have g6 : (j : Int).toNat = j := rfl
  clear h3 hk h1 hl1 hl2
  go_enter Try.func100, Try.ntmps100
  go_wp2_with fail
  generalize w.alloc (.cells #[.int .i64 0, .int .u8 0] 163) = W at *
  obtain ⟨e3, e4, c1, c2⟩ := HE.out
  clear HE
  go_still_tail 21, (by kernel_rfl)
  change wpList _ _ _ _ _ W.drew
  have HN2 := Lib.hid (show W.drew.heap[w.heap.size]? = some (.cells #[.int .i64 0, .int .u8 0] 163 (0, 0)) from HN.out)
  have HB2 := Lib.hid (show Below w.heap.size w W.drew from HB.out.drew)
  clear e3 e4 c1 c2 HN HB
  generalize W.drew = W2 at *
  obtain ⟨n1, n2, n3, n4⟩ := two_at HN2.out
  go_wp2_with fail
  have hblk := ((show Blk W2 (fun _ => 0) 0 w.heap.size _ from ⟨HN2.out, rfl⟩).setCell 0 (.int .i64 (p : Int))).setCell 1 (.int .u8 (y : Int))
  obtain ⟨q1, q2, _, _⟩ := two_at hblk.1
  have hbl := (HB2.out.setCell (p := ⟨w.heap.size, 0, none⟩) (Nat.le_refl _) (.int .i64 (p : Int))).setCell (p := ⟨w.heap.size, 1, none⟩) (Nat.le_refl _) (.int .u8 (y : Int))
  generalize (W2.setCell ⟨w.heap.size, 0, none⟩ (.int .i64 (p : Int))).setCell ⟨w.heap.size, 1, none⟩ (.int .u8 (y : Int)) = W3 at *
  refine bodyPost_ret (v := val2 p y) ?_ rfl ⟨rfl, hbl⟩
  unfold val2
  simp [results, Try.results100, go_sem, q1, q2]
end
end Go.Proofs.Yteacmcckhjabmaa.Cx
