/-
  The reference of layer 6: contract of Apply.
-/
import Derived.Test.YthdjnbhdgacmgaaPackBackAll
import Derived.Test.YthdjnbhdgacmgaaPackTold
import Derived.Test.YthdjnbhdgacmgaaRcEncs
namespace Go.Proofs.Ythdjnbhdgacmgaa.Pk
open Go.RowKit
open Wnd (copied copied_length)
open Rc (byte Row)
theorem row_not {w : World} {e t : TypeId} {v : Value} {n X size : Nat} {xs : List Value} {ds : Array Value} (h : w.ownsRow 0 e size v n xs) (hc : w.heap[X]? = some (.cells ds t (0, 0))) (ht : t ≠ e) : v.ownBlock ≠ some X := by
  intro hk
  rcases h.2 with ⟨e1, _⟩ | ⟨g', cap', cur, e1, _, hg, _⟩
  · rw [e1] at hk; simp [Value.ownBlock] at hk
  · rw [e1] at hk
    simp [Value.ownBlock] at hk
    subst hk
    rw [hg] at hc
    simp only [Option.some.injEq, Obj.cells.injEq] at hc
    exact ht hc.2.1.symm
theorem row_slice {w : World} {v : Value} {l : List UInt8} (h : Row w v l) : ∃ A c, v = .slice A l.length c := by
  rcases h.2 with ⟨e1, e2⟩ | ⟨g, p, cur, e1, _⟩
  · exact ⟨none, 0, by rw [e1, e2]⟩
  · exact ⟨_, p, e1⟩
/-- The reference's text and last distances. -/
structure RAt (W0 w : World) (v : Value) (l : List UInt8) (R : Nat) (r : Rp) : Prop where
  row : Row w v l
  reps : w.heap[R]? = some (.cells #[.int .i64 r.a, .int .i64 r.b, .int .i64 r.c, .int .i64 r.d] 68 (0, 0))
  below : Below W0.heap.size W0 w
  own : ∀ k, v.ownBlock = some k → W0.heap.size ≤ k
  hR : W0.heap.size ≤ R
theorem RAt.news {W0 w w' : World} {v : Value} {l : List UInt8} {R : Nat} {r : Rp} (h : RAt W0 w v l R r) (hb : Below w.heap.size w w') : RAt W0 w' v l R r :=
  ⟨h.row.below hb (fun k hk => ownsRow_lt h.row k hk), (hb.block R (lt_of_heap h.reps)).trans h.reps, h.below.trans (hb.mono h.below.size), h.own, h.hR⟩
theorem RAt.app {W0 w w' : World} {v v' : Value} {l : List UInt8} {R n : Nat} {r : Rp} {o : Obj} {x : UInt8} (h : RAt W0 w v l R r) (hn : l.length = n) (hown : w'.ownsRow 0 5 1 v' (n + 1) (l.map byte ++ [byte x])) (hg : (w.alloc o).grownBy w' v.ownBlock) (hm : Moved (w.alloc o) v v') : RAt W0 w' v' (l ++ [x]) R r := by
  have hno := row_not h.row h.reps (by decide)
  refine ⟨?_, ?_, ?_, ?_, h.hR⟩
  · unfold Row
    rw [List.length_append, List.map_append, hn]
    exact hown
  · have hb := hg.block R (by rw [World.size_alloc]; have := lt_of_heap h.reps; omega) (fun e => hno e.symm)
    rw [Below.heap_alloc w o R (lt_of_heap h.reps), h.reps] at hb
    exact hb
  · exact h.below.trans ((((Frame.refl (fun k => v.ownBlock = some k) w).alloc o).grown hg (fun k hk => .inl hk)).below h.below.size (fun k hk ho => by have := h.own k ho; omega))
  · intro k hk
    rcases hm with e | e
    · rw [e] at hk; exact h.own k hk
    · have h1 := e k hk
      rw [World.size_alloc] at h1
      have := h.below.size
      omega
theorem RAt.set {W0 w : World} {v : Value} {l : List UInt8} {R : Nat} {r : Rp} (h : RAt W0 w v l R r) (s : Rp) : RAt W0 ((((w.setCell ⟨R, 0, none⟩ (.int .i64 s.a)).setCell ⟨R, 1, none⟩ (.int .i64 s.b)).setCell ⟨R, 2, none⟩ (.int .i64 s.c)).setCell ⟨R, 3, none⟩ (.int .i64 s.d)) v l R s := by
  have hno := row_not h.row h.reps (by decide)
  exact ⟨h.row.frame (four_frame w R _ _ _ _) (fun k hk e => hno (by rw [hk, e])), four_heap h.reps _ _ _ _, below_four h.below h.hR _ _ _ _, h.own, h.hR⟩
theorem conv_row {w : World} {A : Option Addr} {c : Nat} {l : List UInt8} (h : Row w (.slice A l.length c) l) : (convert 77 9 (.slice A l.length c)).run Try.prog w = .ok (.string ⟨l.toArray⟩) w := by
  rcases h.2 with ⟨e1, e2⟩ | ⟨g, p, cur, e1, _⟩
  · have hl := List.eq_nil_of_length_eq_zero e2
    subst hl
    simp only [Value.slice.injEq] at e1
    obtain ⟨rfl, _, rfl⟩ := e1
    exact run_convert_bytes_nil w 77 5 Try.underlying77 Try.underlying5 0 0 9 Try.underlying9
  · simp only [Value.slice.injEq, true_and] at e1
    obtain ⟨rfl, rfl⟩ := e1
    have hh : Held w (fun _ => 0) 0 5 (.slice (some ⟨g, 0, none⟩) l.length c) (l.map byte) := ⟨by rw [List.length_map]; exact h, fun _ _ => rfl⟩
    exact hh.text rfl
theorem byte_of {b : Nat} (h : b < 256) : Value.int .u8 (b : Int) = byte (UInt8.ofNat b) := by
  unfold byte
  simp
  omega
theorem info8 : (Try.prog.info? 5).map (fun i => (i.zero, i.size, i.bytes)) = some (some (.int .u8 0), 1, 1) := by kernel_rfl
theorem b_one (b : Int) : ∀ u ∈ [Value.int .u8 b], u.oneCell' = true := by intro u hu; simp at hu; subst hu; rfl
theorem b_new (w : World) (b : Value) : ∀ j u, [b][j]? = some u → (w.alloc (.cells #[b] 5)).cell? ((⟨w.heap.size, 0, none⟩ : Addr).add j) = some u := World.news_of_block (heap_alloc_new _ _)
theorem blk_grown {w w' : World} {v : Value} {X : Nat} {o o' : Obj} (h : w.heap[X]? = some o') (hg : (w.alloc o).grownBy w' v.ownBlock) (hn : v.ownBlock ≠ some X) : w'.heap[X]? = some o' := by
  have hb := hg.block X (by rw [World.size_alloc]; have := lt_of_heap h; omega) (fun e => hn e.symm)
  rw [Below.heap_alloc w o X (lt_of_heap h), h] at hb
  exact hb
def RAp (W : World) (R most : Nat) (ps : List Pt) (k : Nat) (v : Value) (w : World) : Prop := ∃ l r, RAt W w v l R r ∧ l.length ≤ k * 273 ∧ l.length ≤ most ∧ r.pos ∧ applyL most (ps.drop k) l r = applyL most ps [] ⟨1, 1, 1, 1⟩
def ApplyTo (W : World) (x : List UInt8 × Nat) (e : Ending) (w' : World) : Prop := e = .returned (.tuple #[.string ⟨x.1.toArray⟩, .int .i64 (x.2 : Int)]) ∧ Below W.heap.size W w'
end Go.Proofs.Ythdjnbhdgacmgaa.Pk
