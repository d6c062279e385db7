/-
  Layer 6's statements: the list that came in, as the program's packets and as the document's.
-/
import Derived.Test.YthdjnbhdgacmgaaPackTells
import Derived.Test.YthdjnbhdgacmgaaPackRepeat
import Derived.Test.YthdjnbhdgacmgaaHead
import Derived.Deep.AppendLies
import Derived.Deep.RegionHeld3
import Derived.Deep.CutBlock
import Derived.Deep.DeepCutAuto
namespace Go.Proofs.Ythdjnbhdgacmgaa.Pk
open Go.RowKit
/-- A slice of a type t that owns just these packets. -/
def PtsT (t : TypeId) (w : World) (v : Value) (l : List Pt) : Prop := w.ownsRow 0 t 4 v l.length (flatP l)
theorem PtsT.slice {t : TypeId} {w : World} {v : Value} {l : List Pt} (h : PtsT t w v l) (hb : ∀ p ∈ l, p.b < 256) : ∃ a cap, v = .slice a l.length cap ∧ IsPts w a l := by
  rcases h.2 with ⟨h1, h2⟩ | ⟨g, cap, cur, rfl, _, hg, hnc, hcm, hcs, htake⟩
  · exact ⟨none, 0, by rw [h1, h2], .inl (List.eq_nil_of_length_eq_zero h2)⟩
  · refine ⟨_, cap, rfl, .inr ⟨g, 0, rfl, fun i hi => ?_⟩⟩
    obtain ⟨k0, k1, k2, k3⟩ := flatP_at l i hi
    have key : ∀ j x, (flatP l)[j]? = some x → w.cell? ⟨g, j, none⟩ = some x := fun j x hx => by
      have hj : j < (flatP l).length := (List.getElem?_eq_some_iff.1 hx).1
      rw [flatP_length] at hj
      rw [World.ownsRow.cellAt h j hj]
      exact hx
    rw [Nat.zero_add]
    exact ⟨key _ _ k0, key _ _ k1, key _ _ k2, key _ _ k3, hb _ (List.getElem_mem hi)⟩
theorem PtsT.below {t : TypeId} {w w' : World} {v : Value} {l : List Pt} (h : PtsT t w v l) (hb : Below w.heap.size w w') : PtsT t w' v l :=
  ownsRow_frame h (Frame.of_below_size (own := fun _ => False) hb) (fun _ _ => id)
theorem own4_drew {t : TypeId} {w : World} {v : Value} {n : Nat} {xs : List Value} (h : w.ownsRow 0 t 4 v n xs) : w.drew.ownsRow 0 t 4 v n xs := h
theorem own4_alloc {t : TypeId} {w : World} {v : Value} {n : Nat} {xs : List Value} (o : Obj) (h : w.ownsRow 0 t 4 v n xs) : (w.alloc o).ownsRow 0 t 4 v n xs := World.ownsRow.alloc h o
theorem own4_kept {t : TypeId} {w w' : World} {v u : Value} {n : Nat} {xs : List Value} (h : w.ownsRow 0 t 4 v n xs) (hg : w.grownBy w' u.ownBlock) (hn : ∀ k, v.ownBlock = some k → u.ownBlock ≠ some k) : w'.ownsRow 0 t 4 v n xs :=
  ownsRow_frame h ((Frame.refl (fun k => u.ownBlock = some k) w).grown hg (fun _ hk => .inl hk)) hn
theorem blk4_drew {w : World} {k : Nat} {o : Obj} (h : w.heap[k]? = some o) : w.drew.heap[k]? = some o := h
theorem blk4_alloc {w : World} {k : Nat} {o o' : Obj} (h : w.heap[k]? = some o) : (w.alloc o').heap[k]? = some o := (Below.heap_alloc w o' k (lt_of_heap h)).trans h
theorem blk4_here {w : World} {k : Nat} {o : Obj} (h : k = w.heap.size) : (w.alloc o).heap[k]? = some o := by subst h; exact heap_alloc_new w o
theorem blk4_grown {w w' : World} {v : Value} {X B : Nat} {o : Obj} (hg : w.grownBy w' v.ownBlock) (hv : ∀ k, v.ownBlock = some k → k < B) (hX : B ≤ X) (h : w.heap[X]? = some o) : w'.heap[X]? = some o :=
  (hg.block X (lt_of_heap h) (fun e => by have := hv X e.symm; omega)).trans h
theorem own4_ne {t u : TypeId} {w : World} {v1 v2 : Value} {n m : Nat} {xs ys : List Value} (h : w.ownsRow 0 t 4 v1 n xs) (k : w.ownsRow 0 u 4 v2 m ys) (ht : t ≠ u) : ∀ j, v1.ownBlock = some j → v2.ownBlock ≠ some j := by
  intro j h1 h2
  rcases h.2 with ⟨e1, _⟩ | ⟨g1, c1, cur1, e1, _, hg1, _⟩
  · rw [e1] at h1; simp [Value.ownBlock] at h1
  · rcases k.2 with ⟨e2, _⟩ | ⟨g2, c2, cur2, e2, _, hg2, _⟩
    · rw [e2] at h2; simp [Value.ownBlock] at h2
    · rw [e1] at h1
      rw [e2] at h2
      simp [Value.ownBlock] at h1 h2
      subst h1
      subst h2
      rw [hg1] at hg2
      simp only [Option.some.injEq, Obj.cells.injEq] at hg2
      exact ht hg2.2.1
theorem pt_news {w : World} {X : Nat} {a b c d : Value} {t : TypeId} (h : w.heap[X]? = some (.cells #[a, b, c, d] t (0, 0))) : ∀ j u, [a, b, c, d][j]? = some u → w.cell? ((⟨X, 0, none⟩ : Addr).add j) = some u := World.news_of_block h
/-- What the loop holds. -/
structure ToldAt (w0 : World) (va vb : Value) (psa psb : List Pt) (w : World) : Prop where
  rowA : PtsT 45 w va psa
  rowB : PtsT 51 w vb psb
  below : Below w0.heap.size w0 w
  ownA : ∀ k, va.ownBlock = some k → w0.heap.size ≤ k
  ownB : ∀ k, vb.ownBlock = some k → w0.heap.size ≤ k
theorem infoPr : (Try.prog.info? 51).map (fun i => (i.zero, i.size, i.bytes)) = some (some (.agg #[.int .i64 0, .int .i64 0, .int .i64 0, .int .u8 0]), 4, 32) := by kernel_rfl
theorem pt_one (a b c : Int) (d : Nat) : ∀ u ∈ [Value.int .i64 a, .int .i64 b, .int .i64 c, .int .u8 (d : Int)], u.oneCell' = true := by
  intro u hu
  simp at hu
  rcases hu with rfl | rfl | rfl | rfl <;> rfl
def ptCells (p : Pt) : List Value := [.int .i64 p.k, .int .i64 p.d, .int .i64 p.n, .int .u8 (p.b : Int)]
theorem take_flat (ps : List Pt) (k : Nat) (hk : k < ps.length) : flatP (ps.take (k + 1)) = flatP (ps.take k) ++ [.int .i64 ps[k].k, .int .i64 ps[k].d, .int .i64 ps[k].n, .int .u8 (ps[k].b : Int)] := by
  rw [List.take_succ_eq_append_getElem hk, flatP_append]; rfl
theorem take_len (ps : List Pt) (k : Nat) (hk : k ≤ ps.length) : (ps.take k).length = k := by simp; omega
/-- What both appends leave. -/
def BothAt (w0 : World) (va' vb' : Value) (n : Nat) (xs : List Value) (w : World) : Prop := w.ownsRow 0 45 4 va' n xs ∧ w.ownsRow 0 51 4 vb' n xs ∧ Below w0.heap.size w0 w ∧ (∀ k, va'.ownBlock = some k → w0.heap.size ≤ k) ∧ ∀ k, vb'.ownBlock = some k → w0.heap.size ≤ k
/-- Since w nothing that was there was written, but for the blocks of two rows. -/
def Since (w : World) (va vb : Value) (W : World) : Prop := Frame (fun k => va.ownBlock = some k ∨ vb.ownBlock = some k) w W
theorem Since.refl (w : World) (va vb : Value) : Since w va vb w := Frame.refl _ w
theorem Since.drew {w W : World} {va vb : Value} (h : Since w va vb W) : Since w va vb W.drew := Frame.drew h
theorem Since.alloc {w W : World} {va vb : Value} (o : Obj) (h : Since w va vb W) : Since w va vb (W.alloc o) := Frame.alloc h o
theorem Since.appA {w W W' : World} {va vb : Value} (h : Since w va vb W) (hg : W.grownBy W' va.ownBlock) : Since w va vb W' := Frame.grown h hg (fun _ hk => .inl (.inl hk))
theorem Since.appB {w W W' : World} {va vb : Value} (h : Since w va vb W) (hg : W.grownBy W' vb.ownBlock) : Since w va vb W' := Frame.grown h hg (fun _ hk => .inl (.inr hk))
theorem both_of {w0 w W : World} {va vb : Value} {n ga ca gb cb : Nat} {xs : List Value} (hb : Below w0.heap.size w0 w) (hA : ∀ k, va.ownBlock = some k → w0.heap.size ≤ k) (hB : ∀ k, vb.ownBlock = some k → w0.heap.size ≤ k) (hs : Since w va vb W)
    (r1 : W.ownsRow 0 45 4 (.slice (some ⟨ga, 0, none⟩) n ca) n xs) (r2 : W.ownsRow 0 51 4 (.slice (some ⟨gb, 0, none⟩) n cb) n xs) (h1 : w0.heap.size ≤ ga) (h2 : w0.heap.size ≤ gb) : BothAt w0 (.slice (some ⟨ga, 0, none⟩) n ca) (.slice (some ⟨gb, 0, none⟩) n cb) n xs W :=
  ⟨r1, r2, hb.trans (Frame.below hs hb.size (fun k hk ho => by rcases ho with e | e; (have := hA k e; omega); (have := hB k e; omega))), fun k hk => by simp [Value.ownBlock] at hk; omega, fun k hk => by simp [Value.ownBlock] at hk; omega⟩
theorem told_end {w w1 W : World} {u4 u5 va vb : Value} {ps : List Pt} {k : Nat} {ys : List Value} (_h : ToldAt w u4 u5 (ps.take k) (ps.take k) w1) (hf : flatP (ps.take (k + 1)) = ys) (hk : k + 1 ≤ ps.length) (hb : BothAt w va vb (k + 1) ys W) : ToldAt w va vb (ps.take (k + 1)) (ps.take (k + 1)) W := by
  obtain ⟨h1, h2, h3, h4, h5⟩ := hb
  have hl : (ps.take (k + 1)).length = k + 1 := take_len ps (k + 1) hk
  refine ⟨?_, ?_, h3, h4, h5⟩
  · unfold PtsT; rw [hl, hf]; exact h1
  · unfold PtsT; rw [hl, hf]; exact h2
end Go.Proofs.Ythdjnbhdgacmgaa.Pk
