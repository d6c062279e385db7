/-
  Layer 6's statements: fits: of packets that tell a text the program's answer and the document's are one.
-/
import Derived.Test.YthdjnbhdgacmgaaPackBackAll
import Derived.Test.YthdjnbhdgacmgaaPackRepMath
import Derived.Test.YthdjnbhdgacmgaaPackEq
import Derived.Test.YthdjnbhdgacmgaaPackDo
import Derived.Test.YthdjnbhdgacmgaaTail
import Derived.StillTailTactics
namespace Go.Proofs.Ythdjnbhdgacmgaa.Pk
open Go.RowKit
structure FitL (W wr : World) (R most : Nat) (t : List UInt8) (qs : List Pt) (l : List UInt8) (r : Rp) : Prop where
  below : Below W.heap.size W wr
  reps : wr.heap[R]? = some (.cells #[.int .i64 r.a, .int .i64 r.b, .int .i64 r.c, .int .i64 r.d] 68 (0, 0))
  ge : W.heap.size ≤ R
  pos : r.pos
  res : applyL most qs l r = (t, 0)
theorem fit_go {most : Nat} {t l : List UInt8} {p : Pt} {qs : List Pt} {r : Rp} (h : applyL most (p :: qs) l r = (t, 0)) (hp : r.pos) :
    ∃ d n s l', p.fit (l.length : Int) r = some (d, n, s) ∧ s.pos ∧ 0 ≤ n ∧ n ≤ 273 ∧ (l'.length : Int) = l.length + n ∧ applyL most qs l' s = (t, 0) := by
  cases hf : p.fit (l.length : Int) r with
  | none => rw [applyL_none hf] at h; cases h
  | some x =>
    obtain ⟨d, n, s⟩ := x
    obtain ⟨hs, hk⟩ := fit_some hf hp
    cases ht : p.tell most l d n with
    | none => rw [applyL_long hf ht] at h; cases h
    | some l' =>
      rw [applyL_more hf ht] at h
      refine ⟨d, n, s, l', rfl, hs, ?_, ?_, tell_more ht (by rcases hk with h | ⟨h1, _, _, h2, _⟩; exact .inl h; exact .inr ⟨h1, h2⟩), h⟩
      · rcases hk with ⟨_, h⟩ | ⟨_, _, _, h, _⟩ <;> omega
      · rcases hk with ⟨_, h⟩ | ⟨_, _, _, _, h⟩ <;> omega
theorem fit_neg {p : Pt} {r : Rp} (hk : p.k ≠ 1) (hr : r.pos) : p.fit (-1) r = none := by
  cases h : p.fit (-1) r with
  | none => rfl
  | some x =>
    obtain ⟨d, n, s⟩ := x
    rcases (fit_some h hr).2 with ⟨h1, _⟩ | ⟨_, h1, h2, _⟩
    · exact absurd h1 hk
    · omega
/-- The calls of a round. -/
structure FitC (p : Pt) (hv d n : Int) (r s : Rp) (d2 n2 : Int) (s2 : Rp) (ok2 : Bool) : Prop where
  one : ∀ W' : World, Calls Try.prog 29 #[.agg #[.int .i64 p.k, .int .i64 p.d, .int .i64 p.n, .int .u8 (p.b : Int)], .int .i64 hv, .agg #[.int .i64 r.a, .int .i64 r.b, .int .i64 r.c, .int .i64 r.d]] W' fun x w' => x = .returned (.tuple #[.int .i64 d, .int .i64 n, .agg #[.int .i64 s.a, .int .i64 s.b, .int .i64 s.c, .int .i64 s.d], .bool true]) ∧ Below W'.heap.size W' w'
  back : p.k ≠ 1 → ∀ W' : World, Calls Try.prog 35 #[.agg #[.int .i64 p.k, .int .i64 p.d, .int .i64 p.n, .int .u8 (p.b : Int)], .int .i64 hv, .agg #[.int .i64 r.a, .int .i64 r.b, .int .i64 r.c, .int .i64 r.d]] W' fun x w' => x = .returned (.tuple #[.int .i64 d, .int .i64 n, .agg #[.int .i64 s.a, .int .i64 s.b, .int .i64 s.c, .int .i64 s.d], .bool true]) ∧ Below W'.heap.size W' w'
  lit : p.k = 1 → d = 0 ∧ n = 1 ∧ s = r
  two : ∀ W' : World, Calls Try.prog 29 #[.agg #[.int .i64 p.k, .int .i64 p.d, .int .i64 p.n, .int .u8 (p.b : Int)], .int .i64 (-1), .agg #[.int .i64 s.a, .int .i64 s.b, .int .i64 s.c, .int .i64 s.d]] W' fun x w' => x = .returned (.tuple #[.int .i64 d2, .int .i64 n2, .agg #[.int .i64 s2.a, .int .i64 s2.b, .int .i64 s2.c, .int .i64 s2.d], .bool ok2]) ∧ Below W'.heap.size W' w'
  stay : p.k ≠ 1 → ok2 = false ∧ s2 = s
theorem fit_calls {p : Pt} {hv d n : Int} {r s : Rp} (hf : p.fit hv r = some (d, n, s)) (hs : s.pos) : ∃ d2 n2 s2 ok2, FitC p hv d n r s d2 n2 s2 ok2 := by
  obtain ⟨d2, n2, s2, e2, h2⟩ := fit_form p (-1) s
  have h1 := fun W' => fits_any p hv r W'
  have h3 := fun W' => fits_any p (-1) s W'
  rw [hf] at h1
  rw [e2] at h3
  refine ⟨d2, n2, s2, (p.fit (-1) s).isSome, h1, fun hk W' => (back_fit p hv r W' hk).mono ?_, fun hk => ?_, h3, fun hk => ?_⟩
  · rintro x w' ⟨d', n', s', ⟨rfl, hb⟩, hy⟩
    have := hy _ hf
    simp only [Prod.mk.injEq] at this
    obtain ⟨rfl, rfl, rfl⟩ := this
    rw [hf]
    exact ⟨rfl, hb⟩
  · rcases fit_form2 hf with ⟨_, h⟩ | ⟨h, _⟩ | ⟨h, _⟩ | ⟨h, _⟩
    · unfold Pt.fit at hf
      split at hf
      · cases hf
      · simp only [Option.some.injEq, Prod.mk.injEq] at hf
        exact ⟨hf.1.symm, hf.2.1.symm, hf.2.2.symm⟩
    · omega
    · omega
    · omega
  · have hn := fit_neg hk hs
    rw [hn] at e2 ⊢
    refine ⟨rfl, ?_⟩
    unfold fitVal at e2
    simp only [Rp.val, Value.tuple.injEq, Array.mk.injEq, List.cons.injEq, Value.agg.injEq, Value.int.injEq] at e2
    obtain ⟨_, _, ⟨⟨_, a⟩, ⟨_, b⟩, ⟨_, c⟩, ⟨_, d⟩, _⟩, _⟩ := e2
    cases s; cases s2; simp_all
/-- Behind the two answers. -/
structure Two (wr wc : World) (R X Y : Nat) (r s y : Rp) : Prop where
  below : Below wr.heap.size wr wc
  hX : wr.heap.size ≤ X
  hY : wr.heap.size ≤ Y
  reps : wc.heap[R]? = some (.cells #[.int .i64 r.a, .int .i64 r.b, .int .i64 r.c, .int .i64 r.d] 68 (0, 0))
  cX : wc.heap[X]? = some (.cells #[.int .i64 s.a, .int .i64 s.b, .int .i64 s.c, .int .i64 s.d] 69 (0, 0))
  cY : wc.heap[Y]? = some (.cells #[.int .i64 y.a, .int .i64 y.b, .int .i64 y.c, .int .i64 y.d] 68 (0, 0))
theorem two_new {wr wc : World} {R X : Nat} {r s : Rp} (h : Fitted wr wc X s) (hR : R < wr.heap.size) (hr : wr.heap[R]? = some (.cells #[.int .i64 r.a, .int .i64 r.b, .int .i64 r.c, .int .i64 r.d] 68 (0, 0))) :
    Two wr (wc.alloc (.cells #[.int .i64 r.a, .int .i64 r.b, .int .i64 r.c, .int .i64 r.d] 68)) R X wc.heap.size r s r :=
  ⟨h.1.alloc h.1.size _, h.2.1, h.1.size, by rw [Below.heap_alloc _ _ _ (by have := h.1.size; omega), h.1.block R hR, hr], by rw [Below.heap_alloc _ _ _ (lt_of_heap h.2.2), h.2.2], heap_alloc_new _ _⟩
theorem Two.set {wr wc wf : World} {R X Y : Nat} {r s y : Rp} (h : Two wr wc R X Y r s y) (hb : Below wc.heap.size wc wf) (hR : R < wr.heap.size) (z : Rp) :
    Two wr ((((wf.setCell ⟨Y, 0, none⟩ (.int .i64 z.a)).setCell ⟨Y, 1, none⟩ (.int .i64 z.b)).setCell ⟨Y, 2, none⟩ (.int .i64 z.c)).setCell ⟨Y, 3, none⟩ (.int .i64 z.d)) R X Y r s z := by
  have hXY : X ≠ Y := by
    rintro rfl
    have := h.cX
    rw [h.cY] at this
    simp at this
  have o : ∀ k, k ≠ Y → ((((wf.setCell ⟨Y, 0, none⟩ (.int .i64 z.a)).setCell ⟨Y, 1, none⟩ (.int .i64 z.b)).setCell ⟨Y, 2, none⟩ (.int .i64 z.c)).setCell ⟨Y, 3, none⟩ (.int .i64 z.d)).heap[k]? = wf.heap[k]? := fun k hk => by
    rw [Below.heap_setCell _ _ _ _ (by exact hk), Below.heap_setCell _ _ _ _ (by exact hk), Below.heap_setCell _ _ _ _ (by exact hk), Below.heap_setCell _ _ _ _ (by exact hk)]
  refine ⟨below_four (h.below.trans (hb.mono h.below.size)) h.hY _ _ _ _, h.hX, h.hY, ?_, ?_, ?_⟩
  · rw [o R (by have := h.hY; omega), hb.block R (by have := h.below.size; omega), h.reps]
  · rw [o X hXY, hb.block X (lt_of_heap h.cX), h.cX]
  · exact four_set ((hb.block Y (lt_of_heap h.cY)).trans h.cY) _ _ _ _
theorem Two.drew {wr wc : World} {R X Y : Nat} {r s y : Rp} (h : Two wr wc R X Y r s y) : Two wr wc.drew R X Y r s y := ⟨bel_drew h.below, h.hX, h.hY, h.reps, h.cX, h.cY⟩
theorem bel_from_drew {W W' : World} (h : Below W.drew.heap.size W.drew W') : Below W.heap.size W W' := ⟨h.os, h.tape, h.output, h.size, h.block⟩
end Go.Proofs.Ythdjnbhdgacmgaa.Pk
