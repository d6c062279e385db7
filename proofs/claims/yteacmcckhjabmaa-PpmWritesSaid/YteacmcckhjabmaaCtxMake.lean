/-
  Package context: the contract of makeTables.
-/
import Derived.Test.YteacmcckhjabmaaCtxNeeds
set_option linter.unusedVariables false
set_option linter.unusedSimpArgs false
namespace Go.Proofs.Yteacmcckhjabmaa.Cx
open Go.RowKit
open Rc Ar Fq
theorem new_tab2 (w : World) (O : Paint) (c : Nat) : Calls Try.prog 99 #[] w fun x w' => ∃ a, x = .returned (.pointer (some ⟨a, 0, none⟩)) ∧ ∃ O', Step [] w O w' O' ∧ TabAt w' O' c a (.slice none 0 0) [] ∧ w.heap.size ≤ a := by
  go_enter Try.func99, Try.ntmps99
  go_wp2
  go_ret
  exact ⟨_, rfl, Step.paint O w c, ((Step.refl [] w O).alloc _).repaint c, ⟨⟨heap_alloc_new _ _, Step.paint_new (Nat.le_refl _)⟩, World.ownsRow_nil _ _ _ _, fun k hk => by simp [Value.ownBlock] at hk⟩, Nat.le_refl _⟩
namespace Rw
/-- A cell more is taken, for a new table. -/
def g1 (r : Rw) : Rw := ⟨r.order, r.cells, r.used + 1, r.rs, putK r.K (r.used + 1) [], r.f, r.hist, r.pth⟩
def g2 (r : Rw) (x y i : Nat) : Rw := ⟨r.order, r.cells, r.used, r.rs, r.K, fset r.f x y i, r.hist, r.pth⟩
def g3 (r : Rw) (i : Nat) : Rw := ⟨r.order, r.cells, r.used, r.rs, r.K, r.f, r.hist, r.pth ++ [i]⟩
variable {r : Rw}
theorem grow_zero (h : r.pth.length = 0) : r.grow = r.g1.g3 (r.used + 1) := by
  unfold grow g1 g3 putK
  simp only [if_pos h]
theorem grow_more {p y : Nat} (h : 0 < r.pth.length) (hp : r.pth[r.pth.length - 1]? = some p) (hy : r.hist[r.hist.length - r.pth.length]? = some y) : r.grow = (r.g1.g2 p y (r.used + 1)).g3 (r.used + 1) := by
  unfold grow g1 g2 g3 putK fset
  rw [List.getD_eq_getElem?_getD, List.getD_eq_getElem?_getD, hp, hy, if_neg (by omega)]
  rfl
theorem Ok.free (h : r.Ok) : r.K (r.used + 1) = none := by
  cases hq : r.K (r.used + 1) with
  | none => rfl
  | some l => have := (h.tab _ _ hq).2.1; omega
theorem putK_some {K : Nat → Option Tl} {i : Nat} {l : Tl} (j : Nat) (h : (K j).isSome = true) : (putK K i l j).isSome = true := by
  unfold putK
  split
  · rfl
  · exact h
theorem Ok.g1 (h : r.Ok) (hu : r.used < r.cells) : r.g1.Ok := by
  refine ⟨h.order, h.cells, hu, h.hist, h.len, fun i hi => putK_some i (h.pth i hi), fun i l hi => ?_, fun x y i hi => putK_some i (h.f x y i hi)⟩
  have hi2 : (if i = r.used + 1 then some [] else r.K i) = some l := hi
  split at hi2
  · rename_i e
    cases hi2
    exact ⟨by omega, by show i ≤ r.used + 1; omega, tok_nil⟩
  · have := h.tab i l hi2
    exact ⟨this.1, by show i ≤ r.used + 1; omega, this.2.2⟩
theorem Ok.g2 (h : r.Ok) {x y i : Nat} (hi : (r.K i).isSome = true) : (r.g2 x y i).Ok := by
  refine ⟨h.order, h.cells, h.used, h.hist, h.len, h.pth, h.tab, fun x' y' j hj => ?_⟩
  have hj2 : (if x' = x ∧ y' = y then some i else r.f x' y') = some j := hj
  split at hj2
  · cases hj2; exact hi
  · exact h.f x' y' j hj2
theorem Ok.g3 (h : r.Ok) {i : Nat} (hi : (r.K i).isSome = true) (hl : r.pth.length ≤ r.hist.length) : (r.g3 i).Ok := by
  refine ⟨h.order, h.cells, h.used, h.hist, by show (r.pth ++ [i]).length ≤ _; simp; exact hl, fun j hj => ?_, h.tab, h.f⟩
  rcases List.mem_append.1 hj with e | e
  · exact h.pth j e
  · simp at e; subst e; exact hi
end Rw
section
variable {cs : List Nat} {w w' : World} {O O' : Paint} {b d : Nat} {m : CM} {r : Rw}
theorem take_parts {z : Aren} (hF : z.F = []) (v : Value) : (z.take v).F = [] ∧ (z.take v).used = z.used + 1 ∧ (z.take v).cells = z.cells ∧ z.next = z.used + 1 ∧ ∀ i, (z.take v).C i = if i = z.used + 1 then (v, true) else z.C i := by
  have hn : z.next = z.used + 1 := by unfold Aren.next; rw [hF]; rfl
  refine ⟨by show z.F.dropLast = []; rw [hF]; rfl, by show max z.used z.next = _; omega, rfl, hn, fun i => ?_⟩
  show upd z.C z.next (v, true) i = _
  rw [hn]
  rfl
theorem RwAt.took {w6 w7 : World} {O6 O7 : Paint} {tb : Nat} {B' : Nat → Nat} {A' : Nat → Array Value} {vp' vf' : Value} (h : RwAt w O b d m r) (hu : r.used < r.cells) (hs6 : Step [] w O w6 O6) (ht : TabAt w6 O6 (b + 8) tb (.slice none 0 0) []) (hge : w.heap.size ≤ tb) (hs7 : Step [b + 1, b + 2, b + 4] w6 O6 w7 O7)
    (hA : ArAt w7 O7 b m.a (m.z.take (.pointer (some ⟨tb, 0, none⟩))) B' A' vp' vf') :
    Step (cols b) w O w7 O7 ∧ RwAt w7 O7 b d ⟨m.a, m.mb, m.z.take (.pointer (some ⟨tb, 0, none⟩)), B', A', vp', vf', m.vh, m.vq, putN m.tb (r.used + 1) tb, putV m.tv (r.used + 1) (.slice none 0 0)⟩ r.g1 := by
  obtain ⟨t1, t2, t3, t4, t5⟩ := take_parts h.free (.pointer (some ⟨tb, 0, none⟩))
  have hs : Step [b + 1, b + 2, b + 4] w O w7 O7 := hs6.nil.trans hs7
  refine ⟨hs.mono (fun c hc => by simp [cols] at hc ⊢; omega), ?_⟩
  refine ⟨h.obj.step hs (by simp), hA, t1, by rw [t3]; exact h.cells, by rw [t2, h.used]; rfl, h.hist.step hs (by simp), h.pth.step hs (by simp), (h.map.step hs (by simp)).mono (Nat.le_succ _), (h.tabs.more hs6 h.ok.free hge ht).step hs7 (by simp), fun i hi => ?_, h.ok.g1 hu⟩
  show (m.z.take _).C i = (.pointer (some ⟨putN m.tb (r.used + 1) tb i, 0, none⟩), true)
  rw [t5, h.used]
  unfold putN
  by_cases e : i = r.used + 1
  · rw [if_pos e, if_pos e]
  · rw [if_neg e, if_neg e]
    refine h.cont i ?_
    have hi2 : ((if i = r.used + 1 then some [] else r.K i) : Option Tl).isSome = true := hi
    rw [if_neg e] at hi2
    exact hi2
theorem RwAt.mapped {w7 : World} {O7 : Paint} {x y i N : Nat} (h : RwAt w O b d m r) (hs : Step [b + 7] w O w7 O7) (hm : StepAt w7 O7 (b + 7) m.mb N (fset r.f x y i)) (hN : N ≤ r.used) (hi : (r.K i).isSome = true) :
    Step (cols b) w O w7 O7 ∧ RwAt w7 O7 b d m (r.g2 x y i) :=
  ⟨hs.mono (fun c hc => by simp [cols] at hc ⊢; omega), ⟨h.obj.step hs (by simp), h.ar.step hs (by simp) (by simp) (by simp) (by simp), h.free, h.cells, h.used, h.hist.step hs (by simp), h.pth.step hs (by simp), hm.mono hN, h.tabs.step hs (by simp), h.cont, h.ok.g2 hi⟩⟩
/-- The path alone is another. -/
theorem RwAt.newPth {w7 : World} {O7 : Paint} {r' : Rw} {vq' : Value} (h : RwAt w O b d m r) (hs : Step [b + 6, b] w O w7 O7) (hb : Blk w7 O7 b d (.cells #[.int .i64 (r.order : Int), .pointer (some ⟨m.a, 0, none⟩), .map (some m.mb), m.vh, vq', .int .i64 (r.rs : Int)] 117 (0, 0)))
    (hh : Held w7 O7 (b + 6) 3 vq' (iv r'.pth)) (he : r' = { r with pth := r'.pth }) (hk : r'.Ok) : Step (cols b) w O w7 O7 ∧ RwAt w7 O7 b d { m with vq := vq' } r' := by
  have e1 : r'.order = r.order := by rw [he]
  have e2 : r'.cells = r.cells := by rw [he]
  have e3 : r'.used = r.used := by rw [he]
  have e4 : r'.rs = r.rs := by rw [he]
  have e5 : r'.K = r.K := by rw [he]
  have e6 : r'.f = r.f := by rw [he]
  have e7 : r'.hist = r.hist := by rw [he]
  refine ⟨hs.mono (fun c hc => by simp [cols] at hc ⊢; omega), ?_⟩
  refine ⟨by rw [e1, e4]; exact hb, h.ar.step hs (by simp) (by simp) (by simp) (by simp), h.free, by rw [e2]; exact h.cells, by rw [e3]; exact h.used, by rw [e7]; exact h.hist.step hs (by simp), hh, by rw [e3, e6]; exact h.map.step hs (by simp), by rw [e5]; exact h.tabs.step hs (by simp), by rw [e5]; exact h.cont, hk⟩
/-- Behind an append to the path, and its store. -/
theorem RwAt.pushed {W3 : World} {g cap i : Nat} {o : Obj} (h : RwAt w O b d m r) (hi : (r.K i).isSome = true) (hl : r.pth.length ≤ r.hist.length) (hr : W3.ownsRow 0 3 1 (.slice (some ⟨g, 0, none⟩) (r.pth.length + 1) cap) (r.pth.length + 1) (iv r.pth ++ [.int .i64 (i : Int)])) (hg : (w.alloc o).grownBy W3 m.vq.ownBlock) (hm : Moved (w.alloc o) m.vq (.slice (some ⟨g, 0, none⟩) (r.pth.length + 1) cap)) :
    (W3.cell? ⟨d, 4, none⟩ = some m.vq ∧ W3.frozen? ⟨d, 4, none⟩ = false) ∧ Step (cols b) w O (W3.setCell ⟨d, 4, none⟩ (.slice (some ⟨g, 0, none⟩) (r.pth.length + 1) cap)) (Step.paint O w (b + 6)) ∧ RwAt (W3.setCell ⟨d, 4, none⟩ (.slice (some ⟨g, 0, none⟩) (r.pth.length + 1) cap)) (Step.paint O w (b + 6)) b d { m with vq := .slice (some ⟨g, 0, none⟩) (r.pth.length + 1) cap } (r.g3 i) := by
  obtain ⟨k1, k2⟩ := held_more h.pth (iv_len _) hr hg hm
  have hb := h.obj.step k1 (by simp)
  have hb2 := (six_blk hb).2.1 (.slice (some ⟨g, 0, none⟩) (r.pth.length + 1) cap)
  have hs2 := (six_blk hb).2.2.2 4 (.slice (some ⟨g, 0, none⟩) (r.pth.length + 1) cap) [b] (by simp)
  have hq := h.newPth (r' := r.g3 i) ((k1.mono (ds := [b + 6, b]) (by simp)).trans (hs2.mono (by simp))) hb2 (by
    have := k2.step hs2 (by simp)
    unfold iv at this ⊢
    show Held _ _ _ _ _ ((r.pth ++ [i]).map _)
    simpa using this) rfl (h.ok.g3 hi hl)
  exact ⟨⟨(six_at hb.1).2.2.2.2.1, hb.free 4⟩, hq.1, hq.2⟩
end
end Go.Proofs.Yteacmcckhjabmaa.Cx
