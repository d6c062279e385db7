/-
  Package packet: the contract of retell.
  Package packet: the contract of Repeat.
-/
import Derived.Test.YtfpoabeihpfeiaaGreatPk16
import Derived.Deep.MidRow
section
namespace Go.Proofs.YtfpoabeihpfeiaaGreat.Pk
open Go.RowKit
def Rp.retell (r : Rp) (d n : Int) : Pt × Rp := if (r.find d).2 = true then (⟨3, (r.find d).1, n, 0⟩, r.front (r.find d).1) else (⟨2, d, n, 0⟩, r.push d)
structure Rt (w w1 : World) (X : Nat) (r : Rp) : Prop where
 below : Below w.heap.size w w1
 eqX : w.heap.size = X
 hr : w1.heap[X]? = some (.cells #[.int .i64 r.a, .int .i64 r.b, .int .i64 r.c, .int .i64 r.d] 70 (0, 0))
 hp : w1.heap[X + 1]? = some (.cells #[.int .i64 0, .int .i64 0, .int .i64 0, .int .u8 0] 37 (0, 0))
 hz : w1.heap[X + 1 + 1]? = some (.cells #[.int .i64 0, .int .i64 0, .int .i64 0, .int .i64 0] 70 (0, 0))
theorem Rt.next {w w1 w2 : World} {X : Nat} {r : Rp} (h : Rt w w1 X r) (hb : Below w1.heap.size w1 w2) : Rt w w2 X r :=
 ⟨h.below.trans (hb.mono h.below.size), h.eqX, (hb.block _ (lt_of_heap h.hr)).trans h.hr, (hb.block _ (lt_of_heap h.hp)).trans h.hp, (hb.block _ (lt_of_heap h.hz)).trans h.hz⟩
end Go.Proofs.YtfpoabeihpfeiaaGreat.Pk
end
section
namespace Go.Proofs.YtfpoabeihpfeiaaGreat.Pk
open Go.RowKit
def repL : List Pt → Int → Rp → Rp → List Pt
 | [], _, _, _ => []
 | p :: ps, hv, was, now => match p.fit hv was with
  | none => p :: repL ps hv was now
  | some (d, n, s) => if p.k = 2 ∨ p.k = 3 then (now.retell d n).1 :: repL ps (hv + n) s (now.retell d n).2 else p :: repL ps (hv + n) s now
def OutAt (w : World) (Z n : Nat) (qs : List Pt) : Prop :=
 ∃ arr, w.heap[Z]? = some (.cells arr 37 (0, 0)) ∧ arr.size = n * 4 ∧ ∀ j (h : j < qs.length), arr[j * 4]? = some (.int .i64 qs[j].k) ∧ arr[j * 4 + 1]? = some (.int .i64 qs[j].d) ∧ arr[j * 4 + 2]? = some (.int .i64 qs[j].n) ∧ arr[j * 4 + 3]? = some (.int .u8 (qs[j].b : Int))
theorem OutAt.set {w : World} {Z n : Nat} {qs : List Pt} (h : OutAt w Z n qs) {i : Nat} (hi : i ≤ qs.length) (hn : i < n) (q : Pt) :
  OutAt ((((w.setCell ⟨Z, i * 4, none⟩ (.int .i64 q.k)).setCell ⟨Z, i * 4 + 1, none⟩ (.int .i64 q.d)).setCell ⟨Z, i * 4 + 2, none⟩ (.int .i64 q.n)).setCell ⟨Z, i * 4 + 3, none⟩ (.int .u8 (q.b : Int))) Z n (qs.take i ++ [q]) := by
 obtain ⟨arr, h1, h2, h3⟩ := h
 refine ⟨_, set_heap (set_heap (set_heap (set_heap h1 _ _) _ _) _ _) _ _, by simp [h2], fun j hj => ?_⟩
 have hj' : j < i + 1 := by simp at hj; omega
 by_cases hji : j = i
 · subst hji
   have e : (qs.take j ++ [q])[j]'hj = q := by rw [List.getElem_append_right (by simp; omega)]; simp
   rw [e]
   refine ⟨?_, ?_, ?_, ?_⟩ <;> simp [Array.getElem?_setIfInBounds, h2] <;> omega
 · have e : (qs.take i ++ [q])[j]'hj = qs[j]'(by omega) := by rw [List.getElem_append_left (by simp; omega)]; simp
   rw [e]
   obtain ⟨g0, g1, g2, g3⟩ := h3 j (by omega)
   refine ⟨?_, ?_, ?_, ?_⟩
   · rw [Array.getElem?_setIfInBounds_ne (by omega), Array.getElem?_setIfInBounds_ne (by omega), Array.getElem?_setIfInBounds_ne (by omega), Array.getElem?_setIfInBounds_ne (by omega)]; exact g0
   · rw [Array.getElem?_setIfInBounds_ne (by omega), Array.getElem?_setIfInBounds_ne (by omega), Array.getElem?_setIfInBounds_ne (by omega), Array.getElem?_setIfInBounds_ne (by omega)]; exact g1
   · rw [Array.getElem?_setIfInBounds_ne (by omega), Array.getElem?_setIfInBounds_ne (by omega), Array.getElem?_setIfInBounds_ne (by omega), Array.getElem?_setIfInBounds_ne (by omega)]; exact g2
   · rw [Array.getElem?_setIfInBounds_ne (by omega), Array.getElem?_setIfInBounds_ne (by omega), Array.getElem?_setIfInBounds_ne (by omega), Array.getElem?_setIfInBounds_ne (by omega)]; exact g3
theorem OutAt.pts {w : World} {Z n : Nat} {qs : List Pt} (h : OutAt w Z n qs) (hb : ∀ q ∈ qs, q.b < 256) : IsPts w (some ⟨Z, 0, none⟩) qs := by
 obtain ⟨arr, h1, _, h3⟩ := h
 refine .inr ⟨Z, 0, rfl, fun j hj => ?_⟩
 obtain ⟨g0, g1, g2, g3⟩ := h3 j hj
 rw [Nat.zero_add]
 exact ⟨by simp [World.cell?, h1, g0], by simp [World.cell?, h1, g1], by simp [World.cell?, h1, g2], by simp [World.cell?, h1, g3], hb _ (List.getElem_mem hj)⟩
theorem OutAt.cells {w : World} {Z n : Nat} {qs : List Pt} (h : OutAt w Z n qs) {i : Nat} (hi : i < n) (c : Nat) (hc : c < 4) : (∃ v, w.cell? ⟨Z, i * 4 + c, none⟩ = some v) ∧ w.frozen? ⟨Z, i * 4 + c, none⟩ = false := by
 obtain ⟨arr, h1, h2, _⟩ := h
 have hlt : i * 4 + c < arr.size := by omega
 exact ⟨⟨arr[i * 4 + c], by simp [World.cell?, h1, hlt]⟩, by simp [World.frozen?, h1]⟩
theorem OutAt.below {w w' : World} {Z n : Nat} {qs : List Pt} (h : OutAt w Z n qs) (hb : w'.heap[Z]? = w.heap[Z]?) : OutAt w' Z n qs := by
 obtain ⟨arr, h1, h2, h3⟩ := h
 exact ⟨arr, hb.trans h1, h2, h3⟩
theorem retell_b (r : Rp) (d n : Int) : (r.retell d n).1.b = 0 := by unfold Rp.retell; split <;> rfl
theorem infoPk : (Tryz.prog.info? 37).map (fun i => (i.zero, i.size, i.bytes)) = some (some (.agg #[.int .i64 0, .int .i64 0, .int .i64 0, .int .u8 0]), 4, 32) := by kernel_rfl
structure ReLock (W w : World) (Z R Q n : Nat) (qs : List Pt) (was now : Rp) : Prop where
 below : Below W.heap.size W w
 hZ : W.heap.size ≤ Z
 hR : W.heap.size ≤ R
 hQ : W.heap.size ≤ Q
 ne1 : R ≠ Z
 ne2 : Q ≠ Z
 ne3 : R ≠ Q
 out : OutAt w Z n qs
 was : w.heap[R]? = some (.cells #[.int .i64 was.a, .int .i64 was.b, .int .i64 was.c, .int .i64 was.d] 70 (0, 0))
 now : w.heap[Q]? = some (.cells #[.int .i64 now.a, .int .i64 now.b, .int .i64 now.c, .int .i64 now.d] 70 (0, 0))
theorem OutAt.lt {w : World} {Z n : Nat} {qs : List Pt} (h : OutAt w Z n qs) : Z < w.heap.size := by
 obtain ⟨arr, h1, _⟩ := h
 exact lt_of_heap h1
theorem ReLock.news {W w w' : World} {Z R Q n : Nat} {qs : List Pt} {was now : Rp} (h : ReLock W w Z R Q n qs was now) (hb : Below w.heap.size w w') : ReLock W w' Z R Q n qs was now :=
 ⟨h.below.trans (hb.mono h.below.size), h.hZ, h.hR, h.hQ, h.ne1, h.ne2, h.ne3, h.out.below (hb.block Z h.out.lt), (hb.block R (lt_of_heap h.was)).trans h.was, (hb.block Q (lt_of_heap h.now)).trans h.now⟩
theorem OutAt.four {w : World} {Z n : Nat} {qs : List Pt} (h : OutAt w Z n qs) {i : Nat} (hi : i < n) :
  (∃ a b c d, w.cell? ⟨Z, i * 4, none⟩ = some a ∧ w.cell? ⟨Z, i * 4 + 1, none⟩ = some b ∧ w.cell? ⟨Z, i * 4 + 2, none⟩ = some c ∧ w.cell? ⟨Z, i * 4 + 3, none⟩ = some d) ∧ w.frozen? ⟨Z, i * 4, none⟩ = false ∧ w.frozen? ⟨Z, i * 4 + 1, none⟩ = false ∧ w.frozen? ⟨Z, i * 4 + 2, none⟩ = false ∧ w.frozen? ⟨Z, i * 4 + 3, none⟩ = false := by
 obtain ⟨⟨a, ha⟩, f0⟩ := h.cells hi 0 (by omega)
 obtain ⟨⟨b, hb⟩, f1⟩ := h.cells hi 1 (by omega)
 obtain ⟨⟨c, hc⟩, f2⟩ := h.cells hi 2 (by omega)
 obtain ⟨⟨d, hd⟩, f3⟩ := h.cells hi 3 (by omega)
 exact ⟨⟨a, b, c, d, ha, hb, hc, hd⟩, f0, f1, f2, f3⟩
theorem OutAt.there {w : World} {Z n : Nat} {qs : List Pt} (h : OutAt w Z n qs) {i : Nat} (hi : i < n) : w.there Z (i * 4) 4 := by
 intro j hj
 obtain ⟨⟨v, hv⟩, hf⟩ := h.cells hi j hj
 exact ⟨by rw [hv]; rfl, hf⟩
def ReAt (W : World) (Z R Q : Nat) (ps : List Pt) (k : Nat) (hv : Int) (w : World) : Prop :=
 ∃ qs was now, ReLock W w Z R Q ps.length qs was now ∧ qs.length = k ∧ was.pos ∧ 0 ≤ hv ∧ hv ≤ k * 273 ∧ qs ++ repL (ps.drop k) hv was now = repL ps 0 ⟨1, 1, 1, 1⟩ ⟨1, 1, 1, 1⟩
end Go.Proofs.YtfpoabeihpfeiaaGreat.Pk
end
