/-
  Plain laws on worlds: blocks that belong to somebody ('Paint': a number for each block), what a call may have written ('Step cs': only blocks of the colours cs, and new ones), and rows of numbers that belong to a colour. No program is named here.
-/
import Derived.Test.YtakbocaemlgbaaaOwn
namespace Go.Proofs.Ytakbocaemlgbaaa
open Go.RowKit

theorem still {P : Program} {f : FuncId} {args : Array Value} {w : World} {r : Ending} (h : Calls P f args w fun e w' => e = r ∧ w = w') : Calls P f args w fun e w' => e = r ∧ w' = w := h.mono fun _ _ ⟨a, b⟩ => ⟨a, b.symm⟩
/-- Whose a block is. -/
abbrev Paint := Nat → Nat
/-- From w to w' only blocks of the colours cs were written, and new ones were made; no block that was there has another colour. -/
structure Step (cs : List Nat) (w : World) (O : Paint) (w' : World) (O' : Paint) : Prop where
  frame : Frame (fun k => O k ∈ cs) w w'
  ext : ∀ k, k < w.heap.size → O' k = O k
namespace Step
variable {cs ds : List Nat} {w w' w'' : World} {O O' O'' : Paint}
theorem refl (cs : List Nat) (w : World) (O : Paint) : Step cs w O w O := ⟨Frame.refl _ w, fun _ _ => rfl⟩
theorem size (h : Step cs w O w' O') : w.heap.size ≤ w'.heap.size := h.frame.size
theorem trans (h : Step cs w O w' O') (k : Step cs w' O' w'' O'') : Step cs w O w'' O'' :=
  ⟨h.frame.trans k.frame (fun i hi ho => by rw [h.ext i hi] at ho; exact ho), fun i hi => (k.ext i (Nat.lt_of_lt_of_le hi h.frame.size)).trans (h.ext i hi)⟩
theorem mono (h : Step cs w O w' O') (hs : ∀ c, c ∈ cs → c ∈ ds) : Step ds w O w' O' := ⟨h.frame.mono (fun _ _ ho => hs _ ho), h.ext⟩
theorem block (h : Step cs w O w' O') {k : Nat} (hk : k < w.heap.size) (hn : O k ∉ cs) : w'.heap[k]? = w.heap[k]? := h.frame.block k hk hn
theorem cell (h : Step cs w O w' O') {p : Addr} (hk : p.block < w.heap.size) (hn : O p.block ∉ cs) : w'.cell? p = w.cell? p := h.frame.cell hk hn
theorem frozen (h : Step cs w O w' O') {p : Addr} (hk : p.block < w.heap.size) (hn : O p.block ∉ cs) : w'.frozen? p = w.frozen? p := by
  unfold World.frozen?; rw [h.block hk hn]
theorem drewN (h : Step cs w O w' O') (n : Nat) : Step cs w O (w'.drewN n) O' := ⟨h.frame.drewN n, h.ext⟩
theorem drew (h : Step cs w O w' O') : Step cs w O w'.drew O' := ⟨h.frame.drew, h.ext⟩
theorem from_drewN {n : Nat} (h : Step cs (w.drewN n) O w' O') : Step cs w O w' O' := ⟨h.frame.from_drewN, h.ext⟩
theorem from_drew (h : Step cs w.drew O w' O') : Step cs w O w' O' := ⟨Frame.from_drewN (n := 1) h.frame, h.ext⟩
theorem setCell (h : Step cs w O w' O') {p : Addr} (hp : O p.block ∈ cs ∨ w.heap.size ≤ p.block) (u : Value) : Step cs w O (w'.setCell p u) O' :=
  ⟨h.frame.setCell hp u, h.ext⟩
theorem alloc (h : Step cs w O w' O') (o : Obj) : Step cs w O (w'.alloc o) O' := ⟨h.frame.alloc o, h.ext⟩
theorem grown {row : Option Nat} (h : Step cs w O w' O') (hg : w'.grownBy w'' row) (hr : ∀ k, row = some k → O k ∈ cs ∨ w.heap.size ≤ k) : Step cs w O w'' O' :=
  ⟨h.frame.grown hg hr, h.ext⟩
/-- All new blocks get one colour. -/
def paint (O : Paint) (w : World) (c : Nat) : Paint := fun k => if k < w.heap.size then O k else c
theorem paint_old {c k : Nat} (hk : k < w.heap.size) : paint O w c k = O k := by unfold paint; rw [if_pos hk]
theorem paint_new {c k : Nat} (hk : w.heap.size ≤ k) : paint O w c k = c := by unfold paint; rw [if_neg (by omega)]
theorem repaint (h : Step cs w O w' O') (c : Nat) : Step cs w O w' (paint O w c) := ⟨h.frame, fun _ hk => paint_old hk⟩
theorem of_below (h : Below w.heap.size w w') (O : Paint) (c : Nat) : Step [] w O w' (paint O w c) := ⟨Frame.of_below_size h, fun _ hk => paint_old hk⟩
theorem of_below_same (h : Below w.heap.size w w') (O : Paint) : Step [] w O w' O := ⟨Frame.of_below_size h, fun _ _ => rfl⟩
theorem nil (h : Step [] w O w' O') : Step cs w O w' O' := h.mono (fun _ hc => by cases hc)
/-- A store into somebody else's block goes through. -/
theorem setCell_both (h : Step cs w O w' O') {p : Addr} (hn : O p.block ∉ cs) (u : Value) : Step cs (w.setCell p u) O (w'.setCell p u) O' := by
  refine ⟨⟨h.frame.os, h.frame.tape, h.frame.output, by simpa using h.frame.size, fun k hk hk2 => ?_⟩, fun k hk => h.ext k (by simpa using hk)⟩
  have hk' : k < w.heap.size := by simpa using hk
  by_cases e : k = p.block
  · subst e
    have hb := h.block hk' hn
    unfold World.setCell
    simp [Array.getElem?_modify, hb]
  · rw [Below.heap_setCell _ _ _ _ e, Below.heap_setCell _ _ _ _ e]
    exact h.block hk' hk2
theorem below {B : Nat} (h : Step cs w O w' O') (hB : B ≤ w.heap.size) (hn : ∀ k, k < B → O k ∉ cs) : Below B w w' := h.frame.below hB hn
end Step

/-- Below B no block belongs to anybody: colour 0. -/
def Clear (B : Nat) (O : Paint) : Prop := ∀ k, k < B → O k = 0
theorem Clear.step {B : Nat} {cs : List Nat} {w w' : World} {O O' : Paint} (h : Clear B O) (hs : Step cs w O w' O') (hB : B ≤ w.heap.size) : Clear B O' := fun k hk => (hs.ext k (by omega)).trans (h k hk)
theorem Clear.below {B : Nat} {cs : List Nat} {w0 w w' : World} {O O' : Paint} (h : Clear B O) (hs : Step cs w O w' O') (h0 : 0 ∉ cs) (hB : B ≤ w.heap.size) (hb : Below B w0 w) : Below B w0 w' :=
  hb.trans (hs.below hB (fun k hk hc => h0 (by rw [h k hk] at hc; exact hc)))

/-- Block k is o, and belongs to c. -/
def Blk (w : World) (O : Paint) (c k : Nat) (o : Obj) : Prop := w.heap[k]? = some o ∧ O k = c
namespace Blk
variable {cs : List Nat} {w w' : World} {O O' : Paint} {c k : Nat} {o : Obj}
theorem lt (h : Blk w O c k o) : k < w.heap.size := lt_of_heap h.1
theorem step (h : Blk w O c k o) (hs : Step cs w O w' O') (hc : c ∉ cs) : Blk w' O' c k o :=
  ⟨(hs.block h.lt (by rw [h.2]; exact hc)).trans h.1, (hs.ext k h.lt).trans h.2⟩
theorem cell {cells : Array Value} {t : TypeId} {fr : Nat × Nat} (h : Blk w O c k (.cells cells t fr)) (i : Nat) : w.cell? ⟨k, i, none⟩ = cells[i]? := by simp [World.cell?, h.1]
theorem free {cells : Array Value} {t : TypeId} (h : Blk w O c k (.cells cells t (0, 0))) (i : Nat) : w.frozen? ⟨k, i, none⟩ = false := by simp [World.frozen?, h.1]
theorem setCell {cells : Array Value} {t : TypeId} (h : Blk w O c k (.cells cells t (0, 0))) (i : Nat) (u : Value) : Blk (w.setCell ⟨k, i, none⟩ u) O c k (.cells (cells.setIfInBounds i u) t (0, 0)) := ⟨heap_setCell_same w k i _ _ u h.1, h.2⟩
theorem setCell_other (h : Blk w O c k o) {p : Addr} (hp : p.block ≠ k) (u : Value) : Blk (w.setCell p u) O c k o := ⟨(Below.heap_setCell _ _ _ _ (Ne.symm hp)).trans h.1, h.2⟩
end Blk

/-- A slice that owns just these cells, of one cell each; its block, where it has one, belongs to c. -/
structure Held (w : World) (O : Paint) (c : Nat) (e : TypeId) (v : Value) (xs : List Value) : Prop where
  row : w.ownsRow 0 e 1 v xs.length xs
  paint : ∀ k, v.ownBlock = some k → O k = c
namespace Held
variable {cs : List Nat} {w w' : World} {O O' : Paint} {c : Nat} {e : TypeId} {v : Value} {xs : List Value}
theorem lt (h : Held w O c e v xs) {k : Nat} (hk : v.ownBlock = some k) : k < w.heap.size := ownsRow_lt h.row k hk
theorem step (h : Held w O c e v xs) (hs : Step cs w O w' O') (hc : c ∉ cs) : Held w' O' c e v xs :=
  ⟨ownsRow_frame h.row hs.frame (fun k hk ho => hc (by rw [h.paint k hk] at ho; exact ho)), fun k hk => (hs.ext k (h.lt hk)).trans (h.paint k hk)⟩
theorem form (h : Held w O c e v xs) (hn : 0 < xs.length) : ∃ g cap, v = .slice (some ⟨g, 0, none⟩) xs.length cap ∧ xs.length ≤ cap ∧ cap ≤ maxLen ∧ O g = c ∧ g < w.heap.size := by
  rcases h.row.2 with ⟨_, h2⟩ | ⟨g, cap, cur, rfl, hb, hg, h1, h2, _⟩
  · omega
  · exact ⟨g, cap, rfl, h1, h2, h.paint g rfl, lt_of_heap hg⟩
theorem cell {g n cap : Nat} (h : Held w O c e (.slice (some ⟨g, 0, none⟩) n cap) xs) {j : Nat} {x : Value} (hx : xs[j]? = some x) : w.cell? ⟨g, j, none⟩ = some x := by
  have hn : n = xs.length := by
    rcases h.row.2 with ⟨e1, _⟩ | ⟨g', cap', cur, e1, _⟩
    · simp at e1
    · simp only [Value.slice.injEq] at e1; exact e1.2.1
  have hj : j < xs.length := (List.getElem?_eq_some_iff.1 hx).1
  have h1 := h.row
  rw [hn] at h1
  rw [World.ownsRow.cellAt h1 j (by omega)]
  exact hx
theorem free {g n cap : Nat} (h : Held w O c e (.slice (some ⟨g, 0, none⟩) n cap) xs) (j : Nat) : w.frozen? ⟨g, j, none⟩ = false := by
  rcases h.row.2 with ⟨e1, _⟩ | ⟨g', cap', cur, e1, _, hg, _⟩
  · simp at e1
  · simp only [Value.slice.injEq, Option.some.injEq, Addr.mk.injEq, and_true] at e1
    rw [← e1.1] at hg
    simp [World.frozen?, hg]
theorem ne {g n cap X : Nat} {ds : Array Value} {t : TypeId} (h : Held w O c e (.slice (some ⟨g, 0, none⟩) n cap) xs) (hc : w.heap[X]? = some (.cells ds t (0, 0))) (ht : t ≠ e) : g ≠ X := by
  rcases h.row.2 with ⟨e1, _⟩ | ⟨g', cap', cur, e1, _, hg, _⟩
  · simp at e1
  · simp only [Value.slice.injEq, Option.some.injEq, Addr.mk.injEq, and_true] at e1
    rintro rfl
    rw [e1.1, hg] at hc
    simp only [Option.some.injEq, Obj.cells.injEq] at hc
    exact ht hc.2.1.symm
theorem set {g n cap : Nat} (h : Held w O c e (.slice (some ⟨g, 0, none⟩) n cap) xs) (j : Nat) (x : Value) : Held (w.setCell ⟨g, j, none⟩ x) O c e (.slice (some ⟨g, 0, none⟩) n cap) (xs.set j x) := by
  have hn : n = xs.length := by
    rcases h.row.2 with ⟨e1, _⟩ | ⟨g', cap', cur, e1, _⟩
    · simp at e1
    · simp only [Value.slice.injEq] at e1; exact e1.2.1
  subst hn
  refine ⟨?_, h.paint⟩
  rw [List.length_set]
  exact (World.ownsRow.stored h.row j x).1
theorem alloc (h : Held w O c e v xs) (o : Obj) : Held (w.alloc o) O c e v xs := ⟨World.ownsRow.alloc h.row o, h.paint⟩
theorem setCell_other (h : Held w O c e v xs) {p : Addr} (hp : v.ownBlock ≠ some p.block) (u : Value) : Held (w.setCell p u) O c e v xs :=
  ⟨ownsRow_frame h.row ((Frame.refl (fun k => k = p.block) w).setCell (.inl rfl) u) (fun k hk e1 => hp (by rw [hk, e1])), h.paint⟩
/-- What was got by growth or by a call that moves it: painted anew. -/
theorem moved {v' : Value} {ys : List Value} (h : Held w O c e v xs) (hr : w'.ownsRow 0 e 1 v' ys.length ys) (hm : Moved w v v') : Held w' (Step.paint O w c) c e v' ys := by
  refine ⟨hr, fun k hk => ?_⟩
  rcases hm with e1 | e1
  · rw [e1] at hk
    rw [Step.paint_old (h.lt hk)]; exact h.paint k hk
  · exact Step.paint_new (e1 k hk)
theorem fresh {v' : Value} {ys : List Value} (hr : w'.ownsRow 0 e 1 v' ys.length ys) (hm : ∀ k, v'.ownBlock = some k → w.heap.size ≤ k) (O : Paint) : Held w' (Step.paint O w c) c e v' ys :=
  ⟨hr, fun k hk => Step.paint_new (hm k hk)⟩
end Held
end Go.Proofs.Ytakbocaemlgbaaa
