/-
  Package packet: what Apply tells, and its objects in memory.
-/
import Derived.Test.YthejbnodalnnpaaPackFits
import Derived.Test.YthejbnodalnnpaaPackWrite
namespace Go.Proofs.Ythejbnodalnnpaa.Pk
open Go.RowKit
open Wnd (Win Grew Owns copied)
/-- The text that packets tell behind a text, and the error's number. -/
def applyL (most : Nat) : List Pt → List UInt8 → Rp → List UInt8 × Nat
  | [], l, _ => (l, 0)
  | p :: ps, l, r => match p.fit (l.length : Int) r with
    | none => ([], 6)
    | some (d, n, s) => match p.tell most l d n with
      | none => ([], 11)
      | some l' => applyL most ps l' s
def Rp.pos (r : Rp) : Prop := 1 ≤ r.a ∧ 1 ≤ r.b ∧ 1 ≤ r.c ∧ 1 ≤ r.d
theorem fit_some {p : Pt} {hv d n : Int} {r s : Rp} (h : p.fit hv r = some (d, n, s)) (hr : r.pos) : s.pos ∧ (p.k = 1 ∧ n = 1 ∨ p.k ≠ 1 ∧ 1 ≤ d ∧ d ≤ hv ∧ 1 ≤ n ∧ n ≤ 273) := by
  unfold Rp.pos at *
  unfold Pt.fit at h
  split at h
  · cases h
  · split at h
    · simp only [Option.some.injEq, Prod.mk.injEq] at h
      obtain ⟨rfl, rfl, rfl⟩ := h
      exact ⟨hr, .inl ⟨by assumption, rfl⟩⟩
    · split at h
      · split at h
        · rename_i hc
          simp only [Option.some.injEq, Prod.mk.injEq] at h
          obtain ⟨rfl, rfl, rfl⟩ := h
          obtain ⟨c1, c2, c3⟩ := hc
          unfold lenB at c3
          simp at c3
          exact ⟨⟨c1, hr.1, hr.2.1, hr.2.2.1⟩, .inr ⟨by assumption, c1, by omega, by omega, by omega⟩⟩
        · cases h
      · split at h
        · split at h
          · rename_i hc
            simp only [Option.some.injEq, Prod.mk.injEq] at h
            obtain ⟨rfl, rfl, rfl⟩ := h
            obtain ⟨c1, c2, c3⟩ := hc
            unfold lenB at c3
            simp at c3
            have ha : 1 ≤ r.at p.d := by unfold Rp.at; (repeat' split) <;> omega
            refine ⟨?_, .inr ⟨by assumption, ha, c2, by omega, by omega⟩⟩
            unfold Rp.front
            split
            · exact ⟨hr.2.1, hr.1, hr.2.2.1, hr.2.2.2⟩
            · split
              · exact ⟨hr.2.2.1, hr.1, hr.2.1, hr.2.2.2⟩
              · split
                · exact ⟨hr.2.2.2, hr.1, hr.2.1, hr.2.2.1⟩
                · exact hr
          · cases h
        · split at h
          · simp only [Option.some.injEq, Prod.mk.injEq] at h
            obtain ⟨rfl, rfl, rfl⟩ := h
            exact ⟨hr, .inr ⟨by assumption, hr.1, by assumption, by omega, by omega⟩⟩
          · cases h
theorem tell_len {p : Pt} {most : Nat} {l l' : List UInt8} {d n : Int} (h : p.tell most l d n = some l') (hn : p.k = 1 ∨ 0 ≤ n ∧ n ≤ 273) : l'.length ≤ most ∧ l'.length ≤ l.length + 273 := by
  unfold Pt.tell at h
  split at h
  · split at h
    · cases h; simp; omega
    · cases h
  · split at h
    · cases h; rw [Wnd.copied_length]; omega
    · cases h
theorem write_any {w : World} {b : Nat} {v : Value} {most : Nat} {l : List UInt8} (h : Win w b v most l) (hl : l.length ≤ most) (hm : most ≤ 9223372036854775807) (hs : l.length ≤ 1099511000000) {p : Pt} (hpb : p.b < 256) {d n : Int} (hf : p.k = 1 ∧ n = 1 ∨ p.k ≠ 1 ∧ 1 ≤ d ∧ d ≤ l.length ∧ 1 ≤ n ∧ n ≤ 273) :
    Calls Try.prog 73 #[.agg #[.int .i64 p.k, .int .i64 p.d, .int .i64 p.n, .int .u8 (p.b : Int)], .pointer (some ⟨b, 0, none⟩), .int .i64 d, .int .i64 n] w fun x w' =>
      x = .returned (.bool (p.tell most l d n).isSome) ∧ Grew w b most v ((p.tell most l d n).getD l) w' := by
  obtain ⟨pk, pd, pn, pb⟩ := p
  unfold Pt.tell
  rcases hf with ⟨hk, rfl⟩ | ⟨hk, h1, h2, h3, h4⟩
  · simp only at hk
    subst hk
    refine (write_lit h hl hm (by omega) pd pn pb hpb d 1).mono fun x w' hx => ?_
    simp only [if_true]
    split at hx <;> rename_i hc
    · rw [if_pos hc]; exact hx
    · rw [if_neg hc]; exact hx
  · simp only at hk
    refine (write_copy h hl hm hs pk pd pn pb hk d n h1 h2 (by omega) h4).mono fun x w' hx => ?_
    simp only [if_neg hk]
    split at hx <;> rename_i hc
    · rw [if_pos hc]; exact hx
    · rw [if_neg hc]; exact hx
/-- The objects of Apply. -/
structure ApLock (W w : World) (B R most : Nat) (v : Value) (l : List UInt8) (r : Rp) : Prop where
  below : Below W.heap.size W w
  win : Win w B v most l
  hB : W.heap.size ≤ B
  hR : W.heap.size ≤ R
  ne : R ≠ B
  own : ∀ k, v.ownBlock = some k → W.heap.size ≤ k ∧ k ≠ R
  reps : w.heap[R]? = some (.cells #[.int .i64 r.a, .int .i64 r.b, .int .i64 r.c, .int .i64 r.d] 78 (0, 0))
  len : l.length ≤ most
  pos : r.pos
theorem ApLock.news {W w w' : World} {B R most : Nat} {v : Value} {l : List UInt8} {r : Rp} (h : ApLock W w B R most v l r) (hb : Below w.heap.size w w') : ApLock W w' B R most v l r :=
  ⟨h.below.trans (hb.mono h.below.size), h.win.frame (own := fun _ => False) (Frame.of_below_size hb) (fun _ _ => id), h.hB, h.hR, h.ne, h.own, (hb.block R (lt_of_heap h.reps)).trans h.reps, h.len, h.pos⟩
theorem ApLock.grew {W w w' : World} {B R most : Nat} {v : Value} {l l' : List UInt8} {r : Rp} (h : ApLock W w B R most v l r) (hg : Grew w B most v l' w') (hl : l'.length ≤ most) : ∃ v', ApLock W w' B R most v' l' r := by
  obtain ⟨v', hw, hF, hM⟩ := hg
  have hno : ¬ Owns B v R := by
    rintro (e | e)
    · exact h.ne e
    · exact (h.own R e).2 rfl
  refine ⟨v', h.below.trans (hF.below h.below.size fun k hk ho => ?_), hw, h.hB, h.hR, h.ne, fun k hk => ?_, (hF.block R (lt_of_heap h.reps) hno).trans h.reps, hl, h.pos⟩
  · rcases ho with ho | ho
    · have := h.hB; omega
    · have := (h.own k ho).1; omega
  · rcases hM with hM | hM
    · rw [hM] at hk; exact h.own k hk
    · have h1 := hM k hk
      have h2 := h.below.size
      have h3 := lt_of_heap h.reps
      exact ⟨by omega, by omega⟩
theorem set_heap {w : World} {X : Nat} {cs : Array Value} {t : TypeId} (h : w.heap[X]? = some (.cells cs t (0, 0))) (j : Nat) (v : Value) : (w.setCell ⟨X, j, none⟩ v).heap[X]? = some (.cells (cs.setIfInBounds j v) t (0, 0)) := by
  simp [World.setCell, Array.getElem?_modify, h]
theorem four_heap {w : World} {X : Nat} {z0 z1 z2 z3 : Value} {t : TypeId} (h : w.heap[X]? = some (.cells #[z0, z1, z2, z3] t (0, 0))) (a b c d : Value) :
    ((((w.setCell ⟨X, 0, none⟩ a).setCell ⟨X, 1, none⟩ b).setCell ⟨X, 2, none⟩ c).setCell ⟨X, 3, none⟩ d).heap[X]? = some (.cells #[a, b, c, d] t (0, 0)) :=
  set_heap (set_heap (set_heap (set_heap h 0 a) 1 b) 2 c) 3 d
theorem four_frame (w : World) (X : Nat) (a b c d : Value) : Frame (fun k => k = X) w ((((w.setCell ⟨X, 0, none⟩ a).setCell ⟨X, 1, none⟩ b).setCell ⟨X, 2, none⟩ c).setCell ⟨X, 3, none⟩ d) :=
  ((((Frame.refl (fun k => k = X) w).setCell (p := ⟨X, 0, none⟩) (.inl rfl) a).setCell (p := ⟨X, 1, none⟩) (.inl rfl) b).setCell (p := ⟨X, 2, none⟩) (.inl rfl) c).setCell (p := ⟨X, 3, none⟩) (.inl rfl) d
theorem ApLock.store {W w : World} {B R most : Nat} {v : Value} {l : List UInt8} {r : Rp} (h : ApLock W w B R most v l r) {s : Rp} (hs : s.pos) :
    ApLock W ((((w.setCell ⟨R, 0, none⟩ (.int .i64 s.a)).setCell ⟨R, 1, none⟩ (.int .i64 s.b)).setCell ⟨R, 2, none⟩ (.int .i64 s.c)).setCell ⟨R, 3, none⟩ (.int .i64 s.d)) B R most v l s := by
  have hF := four_frame w R (.int .i64 s.a) (.int .i64 s.b) (.int .i64 s.c) (.int .i64 s.d)
  refine ⟨h.below.trans (hF.below h.below.size fun k hk ho => ?_), h.win.frame hF (fun k hk ho => ?_), h.hB, h.hR, h.ne, h.own, four_heap h.reps _ _ _ _, h.len, hs⟩
  · have := h.hR; omega
  · subst ho
    rcases hk with e | e
    · exact h.ne e
    · exact (h.own k e).2 rfl
/-- A packet in memory. -/
def IsPt (w : World) (b o : Nat) (p : Pt) : Prop :=
  w.cell? ⟨b, o, none⟩ = some (.int .i64 p.k) ∧ w.cell? ⟨b, o + 1, none⟩ = some (.int .i64 p.d) ∧ w.cell? ⟨b, o + 2, none⟩ = some (.int .i64 p.n) ∧ w.cell? ⟨b, o + 3, none⟩ = some (.int .u8 (p.b : Int)) ∧ p.b < 256
theorem IsPt.below {w w' : World} {b o : Nat} {p : Pt} (h : IsPt w b o p) (hb : Below w.heap.size w w') : IsPt w' b o p := by
  have hbl := World.block_lt_of_cell? _ _ h.1
  exact ⟨(hb.cell (p := ⟨b, o, none⟩) hbl).trans h.1, (hb.cell (p := ⟨b, o + 1, none⟩) hbl).trans h.2.1, (hb.cell (p := ⟨b, o + 2, none⟩) hbl).trans h.2.2.1, (hb.cell (p := ⟨b, o + 3, none⟩) hbl).trans h.2.2.2.1, h.2.2.2.2⟩
/-- What comes behind Fits: the result's distances in a new block. -/
def Fitted (W w : World) (X : Nat) (s : Rp) : Prop := Below W.heap.size W w ∧ W.heap.size ≤ X ∧ w.heap[X]? = some (.cells #[.int .i64 s.a, .int .i64 s.b, .int .i64 s.c, .int .i64 s.d] 78 (0, 0))
theorem fitted_new {W w : World} (h : Below W.heap.size W w) (s : Rp) : Fitted W (w.alloc (.cells #[.int .i64 s.a, .int .i64 s.b, .int .i64 s.c, .int .i64 s.d] 78 (0, 0))) w.heap.size s :=
  ⟨h.alloc h.size _, h.size, heap_alloc_new _ _⟩
theorem fitted_set {W w : World} {X : Nat} {z0 z1 z2 z3 : Value} (h : Below W.heap.size W w) (hX : W.heap.size ≤ X) (hz : w.heap[X]? = some (.cells #[z0, z1, z2, z3] 78 (0, 0))) (s : Rp) :
    Fitted W ((((w.setCell ⟨X, 0, none⟩ (.int .i64 s.a)).setCell ⟨X, 1, none⟩ (.int .i64 s.b)).setCell ⟨X, 2, none⟩ (.int .i64 s.c)).setCell ⟨X, 3, none⟩ (.int .i64 s.d)) X s :=
  ⟨below_four h hX _ _ _ _, hX, four_heap hz _ _ _ _⟩
theorem bel_drew {B : Nat} {W0 W : World} (h : Below B W0 W) : Below B W0 W.drew := ⟨h.os, h.tape, h.output, h.size, h.block⟩
theorem bel_alloc {W0 W : World} (o : Obj) (h : Below W0.heap.size W0 W) : Below W0.heap.size W0 (W.alloc o) := h.alloc h.size o
theorem bel_new {W0 W W' : World} (h2 : Below W.heap.size W W') (h : Below W0.heap.size W0 W) : Below W0.heap.size W0 W' := h.trans (h2.mono h.size)
theorem bel_set {W0 W : World} {p : Addr} (u : Value) (hp : W0.heap.size ≤ p.block) (h : Below W0.heap.size W0 W) : Below W0.heap.size W0 (W.setCell p u) := h.setCell hp u
theorem alloc_kept {W w' : World} {o : Obj} (h : Below (W.alloc o).heap.size (W.alloc o) w') : w'.heap[W.heap.size]? = some o :=
  (h.block W.heap.size (by simp)).trans (heap_alloc_new W o)
end Go.Proofs.Ythejbnodalnnpaa.Pk
