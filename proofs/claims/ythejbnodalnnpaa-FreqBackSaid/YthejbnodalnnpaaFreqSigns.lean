/-
  Package freq: the contract of Signs; and of none.
-/
import Derived.Test.YthejbnodalnnpaaFreqDev
import Derived.Laws.MakeOwn
namespace Go.Proofs.Ythejbnodalnnpaa.Fq
open Go.RowKit
def u8s (l : List Nat) : List Value := l.map fun (n : Nat) => Value.int .u8 (n : Int)
def i64s (l : List Nat) : List Value := l.map fun (n : Nat) => Value.int .i64 (n : Int)
theorem info8 : (Try.prog.info? 5).map (fun i => (i.zero, i.size, i.bytes)) = some (some (.int .u8 0), 1, 1) := by kernel_rfl
theorem infoI : (Try.prog.info? 3).map (fun i => (i.zero, i.size, i.bytes)) = some (some (.int .i64 0), 1, 8) := by kernel_rfl
/-- k signs and counts are written to two new rows. -/
structure Signing (w : World) (O : Paint) (c1 c2 g1 g2 : Nat) (l : List (Nat × Nat)) (k : Nat) (wr : World) (O' : Paint) : Prop where
  step : Step [] w O wr O'
  new1 : w.heap.size ≤ g1
  new2 : w.heap.size ≤ g2
  ne : g1 ≠ g2
  xs : ∃ xs : List Nat, xs.length = l.length ∧ (∀ j, j < k → xs[j]? = some (at' l j).1) ∧ Held wr O' c1 5 (.slice (some ⟨g1, 0, none⟩) l.length l.length) (u8s xs)
  ys : ∃ ys : List Nat, ys.length = l.length ∧ (∀ j, j < k → ys[j]? = some (at' l j).2) ∧ Held wr O' c2 3 (.slice (some ⟨g2, 0, none⟩) l.length l.length) (i64s ys)
namespace Signing
variable {w : World} {O : Paint} {c1 c2 g1 g2 : Nat} {l : List (Nat × Nat)} {k : Nat} {wr : World} {O' : Paint}
theorem idle {wr' : World} (h : Signing w O c1 c2 g1 g2 l k wr O') (hs : Step [] wr O' wr' O') : Signing w O c1 c2 g1 g2 l k wr' O' := by
  obtain ⟨a, b, c, d, ⟨xs, x1, x2, x3⟩, ⟨ys, y1, y2, y3⟩⟩ := h
  exact ⟨a.trans hs, b, c, d, ⟨xs, x1, x2, x3.step hs (by simp)⟩, ⟨ys, y1, y2, y3.step hs (by simp)⟩⟩
theorem start {cs1 cs2 : Array Value} {W : World} (h1 : W.heap[g1]? = some (.cells cs1 5 (0, 0))) (h2 : W.heap[g2]? = some (.cells cs2 3 (0, 0))) (e1 : cs1.toList = u8s (List.replicate l.length 0)) (e2 : cs2.toList = i64s (List.replicate l.length 0))
    (hl : l.length ≤ maxLen) (n1 : w.heap.size ≤ g1) (n2 : w.heap.size ≤ g2) (hne : g1 ≠ g2) (hs : ∀ O, Step [] w O W O) :
    ∃ O', Signing w O c1 c2 g1 g2 l 0 W O' := by
  have s1 : cs1.size = l.length := by rw [← Array.length_toList, e1]; simp [u8s]
  have s2 : cs2.size = l.length := by rw [← Array.length_toList, e2]; simp [i64s]
  refine ⟨fun k => if k < w.heap.size then O k else if k = g1 then c1 else c2, ⟨(hs O).frame, fun k hk => by simp [hk]⟩, n1, n2, hne, ⟨List.replicate l.length 0, by simp, fun j hj => by omega, ⟨?_, ?_⟩⟩, ⟨List.replicate l.length 0, by simp, fun j hj => by omega, ⟨?_, ?_⟩⟩⟩
  · refine ⟨by simp, .inr ⟨g1, l.length, cs1, by simp [u8s], Nat.zero_le _, h1, by simp [u8s], hl, by simp [s1], ?_⟩⟩
    rw [e1]; exact List.take_of_length_le (by simp)
  · intro j hj
    simp [Value.ownBlock] at hj; subst hj
    show (if g1 < w.heap.size then O g1 else if g1 = g1 then c1 else c2) = c1
    rw [if_neg (by omega), if_pos rfl]
  · refine ⟨by simp, .inr ⟨g2, l.length, cs2, by simp [i64s], Nat.zero_le _, h2, by simp [i64s], hl, by simp [s2], ?_⟩⟩
    rw [e2]; exact List.take_of_length_le (by simp)
  · intro j hj
    simp [Value.ownBlock] at hj; subst hj
    show (if g2 < w.heap.size then O g2 else if g2 = g1 then c1 else c2) = c2
    rw [if_neg (by omega), if_neg (fun e => hne e.symm)]
theorem put (h : Signing w O c1 c2 g1 g2 l k wr O') (hk : k < l.length) (u1 u2 : Value) (hu1 : u1 = .int .u8 ((at' l k).1 : Int)) (hu2 : u2 = .int .i64 ((at' l k).2 : Int)) :
    Signing w O c1 c2 g1 g2 l (k + 1) ((wr.setCell ⟨g1, k, none⟩ u1).setCell ⟨g2, k, none⟩ u2) O' ∧ Signing w O c1 c2 g1 g2 l (k + 1) ((wr.setCell ⟨g2, k, none⟩ u2).setCell ⟨g1, k, none⟩ u1) O' := by
  subst hu1 hu2
  obtain ⟨a, b, c, d, ⟨xs, x1, x2, x3⟩, ⟨ys, y1, y2, y3⟩⟩ := h
  have e1 : u8s (xs.set k (at' l k).1) = (u8s xs).set k (.int .u8 ((at' l k).1 : Int)) := by simp [u8s, List.map_set]
  have e2 : i64s (ys.set k (at' l k).2) = (i64s ys).set k (.int .i64 ((at' l k).2 : Int)) := by simp [i64s, List.map_set]
  have q1 : ∀ j, j < k + 1 → (xs.set k (at' l k).1)[j]? = some (at' l j).1 := by
    intro j hj
    by_cases e : j = k
    · subst e; rw [List.getElem?_set_self (by omega)]
    · rw [List.getElem?_set_ne (fun h => e h.symm)]; exact x2 j (by omega)
  have q2 : ∀ j, j < k + 1 → (ys.set k (at' l k).2)[j]? = some (at' l j).2 := by
    intro j hj
    by_cases e : j = k
    · subst e; rw [List.getElem?_set_self (by omega)]
    · rw [List.getElem?_set_ne (fun h => e h.symm)]; exact y2 j (by omega)
  have o1 : (Value.slice (some ⟨g1, 0, none⟩) l.length l.length).ownBlock ≠ some g2 := by simp [Value.ownBlock]; exact d
  have o2 : (Value.slice (some ⟨g2, 0, none⟩) l.length l.length).ownBlock ≠ some g1 := by simp [Value.ownBlock]; exact fun e => d e.symm
  refine ⟨⟨(a.setCell (p := ⟨g1, k, none⟩) (.inr b) _).setCell (p := ⟨g2, k, none⟩) (.inr c) _, b, c, d, ⟨xs.set k (at' l k).1, by simpa using x1, q1, ?_⟩, ⟨ys.set k (at' l k).2, by simpa using y1, q2, ?_⟩⟩, ⟨(a.setCell (p := ⟨g2, k, none⟩) (.inr c) _).setCell (p := ⟨g1, k, none⟩) (.inr b) _, b, c, d, ⟨xs.set k (at' l k).1, by simpa using x1, q1, ?_⟩, ⟨ys.set k (at' l k).2, by simpa using y1, q2, ?_⟩⟩⟩
  · rw [e1]; exact (x3.set k _).setCell_other (p := ⟨g2, k, none⟩) o1 _
  · rw [e2]; exact (y3.setCell_other (p := ⟨g1, k, none⟩) o2 _).set k _
  · rw [e1]; exact (x3.setCell_other (p := ⟨g2, k, none⟩) o1 _).set k _
  · rw [e2]; exact (y3.set k _).setCell_other (p := ⟨g1, k, none⟩) o2 _
theorem all (h : Signing w O c1 c2 g1 g2 l l.length wr O') : Held wr O' c1 5 (.slice (some ⟨g1, 0, none⟩) l.length l.length) (u8s (l.map (·.1))) ∧ Held wr O' c2 3 (.slice (some ⟨g2, 0, none⟩) l.length l.length) (i64s (l.map (·.2))) := by
  obtain ⟨a, b, c, d, ⟨xs, x1, x2, x3⟩, ⟨ys, y1, y2, y3⟩⟩ := h
  have e1 : xs = l.map (·.1) := by
    apply List.ext_getElem?
    intro j
    by_cases hj : j < l.length
    · rw [x2 j hj]; simp [at', List.getD, hj]
    · rw [List.getElem?_eq_none (by omega), List.getElem?_eq_none (by simp; omega)]
  have e2 : ys = l.map (·.2) := by
    apply List.ext_getElem?
    intro j
    by_cases hj : j < l.length
    · rw [y2 j hj]; simp [at', List.getD, hj]
    · rw [List.getElem?_eq_none (by omega), List.getElem?_eq_none (by simp; omega)]
  rw [← e1, ← e2]
  exact ⟨x3, y3⟩
theorem facts (h : Signing w O c1 c2 g1 g2 l k wr O') : wr.frozen? ⟨g1, k, none⟩ = false ∧ wr.frozen? ⟨g2, k, none⟩ = false ∧ g1 < wr.heap.size ∧ g2 < wr.heap.size := by
  obtain ⟨a, b, c, d, ⟨xs, x1, x2, x3⟩, ⟨ys, y1, y2, y3⟩⟩ := h
  exact ⟨x3.free k, y3.free k, x3.lt rfl, y3.lt rfl⟩
theorem cells (h : Signing w O c1 c2 g1 g2 l k wr O') (hk : k < l.length) : (∃ x : Nat, wr.cell? ⟨g1, k, none⟩ = some (.int .u8 (x : Int))) ∧ (∃ y : Nat, wr.cell? ⟨g2, k, none⟩ = some (.int .i64 (y : Int))) := by
  obtain ⟨a, b, c, d, ⟨xs, x1, x2, x3⟩, ⟨ys, y1, y2, y3⟩⟩ := h
  exact ⟨⟨_, x3.cell (j := k) (x := .int .u8 ((xs[k]'(by omega) : Nat) : Int)) (by simp [u8s, x1, hk])⟩, ⟨_, y3.cell (j := k) (x := .int .i64 ((ys[k]'(by omega) : Nat) : Int)) (by simp [i64s, y1, hk])⟩⟩
end Signing
theorem two_alloc (w : World) (o1 o2 : Obj) : ((w.alloc o1).alloc o2).drew.heap[w.heap.size]? = some o1 ∧ ((w.alloc o1).alloc o2).drew.heap[w.heap.size + 1]? = some o2 ∧ (∀ O, Step [] w O ((w.alloc o1).alloc o2).drew O) ∧ w.heap.size + 1 < ((w.alloc o1).alloc o2).drew.heap.size := by
  have h1 := heap_alloc_new (w.alloc o1) o2
  rw [World.size_alloc] at h1
  refine ⟨?_, h1, fun O => ((((Step.refl [] w O).alloc o1).alloc o2)).drew, ?_⟩
  · show ((w.alloc o1).alloc o2).heap[w.heap.size]? = some o1
    rw [Below.heap_alloc (w.alloc o1) o2 w.heap.size (by rw [World.size_alloc]; omega)]
    exact heap_alloc_new w o1
  · show w.heap.size + 1 < ((w.alloc o1).alloc o2).heap.size
    rw [World.size_alloc, World.size_alloc]; omega
end Go.Proofs.Ythejbnodalnnpaa.Fq
