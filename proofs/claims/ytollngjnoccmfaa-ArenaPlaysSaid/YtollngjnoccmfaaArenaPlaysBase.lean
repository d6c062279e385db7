/-
  Layer 17's statement ArenaPlays: what the arena and the law's own maps hold together.
-/
import Derived.Test.YtollngjnoccmfaaArenaSpeaks
import Derived.Test.YtollngjnoccmfaaIntMap
set_option linter.unusedVariables false
set_option linter.unusedSimpArgs false
namespace Go.Proofs.Ytollngjnoccmfaa.Ar
open Go.RowKit
open Rc Im
theorem takenB_take {z : Aren} (hk : z.Ok) (hl : z.F ≠ [] ∨ z.used < z.cells) (v : Value) (k : Int) : (z.take v).takenB k = if k = (z.next : Int) then true else z.takenB k := by
  have hN : 1 ≤ z.next ∧ z.next ≤ (z.take v).used ∧ ((z.take v).used = z.used ∨ (z.take v).used = z.used + 1 ∧ z.next = z.used + 1) := by
    by_cases hF : z.F = []
    · obtain ⟨t1, t2, t3, t4⟩ := take_new hk hF (by rcases hl with h | h; exact absurd hF h; exact h) v
      omega
    · obtain ⟨t1, t2, t3, t4, t5, t6⟩ := take_free hk (List.dropLast_concat_getLast hF).symm v
      omega
  unfold Aren.takenB
  show (decide (1 ≤ k ∧ k ≤ ((z.take v).used : Int)) && (upd z.C z.next (v, true) k.toNat).2) = _
  by_cases hq : k = (z.next : Int)
  · subst hq
    rw [if_pos rfl, decide_eq_true (⟨by omega, by omega⟩ : 1 ≤ (z.next : Int) ∧ (z.next : Int) ≤ ((z.take v).used : Int))]
    simp [upd]
  · rw [if_neg hq]
    by_cases h1 : 1 ≤ k ∧ k ≤ ((z.take v).used : Int)
    · have hne : k.toNat ≠ z.next := by omega
      have h2 : 1 ≤ k ∧ k ≤ (z.used : Int) := by omega
      rw [decide_eq_true h1, decide_eq_true h2]
      simp [upd, hne]
    · have h2 : ¬ (1 ≤ k ∧ k ≤ (z.used : Int)) := by omega
      rw [decide_eq_false h1, decide_eq_false h2]
      simp
theorem takenB_nat {z : Aren} {k : Int} (h : z.takenB k = true) : 1 ≤ k ∧ k ≤ (z.used : Int) ∧ (z.C k.toNat).2 = true := by
  unfold Aren.takenB at h
  simp only [Bool.and_eq_true, decide_eq_true_eq] at h
  exact ⟨h.1.1, h.1.2, h.2⟩
theorem takenB_free {z : Aren} {i : Nat} (v0 : Value) (k : Int) : (z.free i v0).takenB k = if k = (i : Int) then false else z.takenB k := by
  unfold Aren.takenB
  show (decide (1 ≤ k ∧ k ≤ (z.used : Int)) && (upd z.C i (v0, false) k.toNat).2) = _
  by_cases hq : k = (i : Int)
  · subst hq
    rw [if_pos rfl]
    simp [upd]
  · rw [if_neg hq]
    by_cases h1 : 1 ≤ k ∧ k ≤ (z.used : Int)
    · have hne : k.toNat ≠ i := by omega
      simp [upd, hne]
    · rw [decide_eq_false h1]
      rfl
theorem takenB_set {z : Aren} {i : Nat} (v : Value) (k : Int) : (z.set i v).takenB k = z.takenB k := by
  unfold Aren.takenB
  show (decide (1 ≤ k ∧ k ≤ (z.used : Int)) && (upd z.C i (v, (z.C i).2) k.toNat).2) = _
  unfold upd
  by_cases hq : k.toNat = i
  · rw [if_pos hq, hq]
  · rw [if_neg hq]
theorem takenB_new (n : Nat) (k : Int) : (zNew n).takenB k = false := by
  unfold Aren.takenB
  show (decide (1 ≤ k ∧ k ≤ ((0 : Nat) : Int)) && false) = false
  simp
def updA1 (A : Nat → Array Value) (j k : Nat) (u : Value) : Nat → Array Value := fun i => if i = j then (A i).setIfInBounds (2 * k) u else A i
/-- A cell's value alone is set. -/
theorem ArenaAt.set1 {w : World} {O : Paint} {c1 c2 c3 c4 a : Nat} {ta tp tc : TypeId} {z : Aren} {B : Nat → Nat} {A : Nat → Array Value} {vp vf : Value} (h : ArenaAt w O c1 c2 c3 c4 a ta tp tc z 0 B A vp vf) {i : Nat} (h1 : 1 ≤ i) (h2 : i ≤ z.used) (v : Value) :
    Step [c4] w O (w.setCell ⟨B (lg i), 2 * pk i, none⟩ v) O ∧ ArenaAt (w.setCell ⟨B (lg i), 2 * pk i, none⟩ v) O c1 c2 c3 c4 a ta tp tc (z.set i v) 0 B (updA1 A (lg i) (pk i) v) vp vf := by
  obtain ⟨a0, a1, a2, a3, a4⟩ := here h.ok h1 h2
  obtain ⟨d1, d2, d3, d4, d5, d6⟩ := h.col
  have hm := h.ok.most
  have hle := h.ok.le
  have hB := (h.pg.blk _ a1).1
  have hs : Step [c4] w O (w.setCell ⟨B (lg i), 2 * pk i, none⟩ v) O := (Step.refl [c4] w O).setCell (p := ⟨B (lg i), 2 * pk i, none⟩) (.inl (by simp [hB.2])) _
  refine ⟨hs, ⟨h.ok.most, h.ok.le, h.ok.nodup, fun x hx => ?_⟩, h.col, h.obj.step hs (by simp; exact d3), h.pages.step hs (by simp; exact d5), h.freed.step hs (by simp; exact d6), ⟨fun j hj => ?_, h.pg.inj⟩, fun k k1 k2 k3 => ?_⟩
  · refine ⟨(h.ok.free x hx).1, ?_⟩
    show (upd z.C i (v, (z.C i).2) x).2 = false
    unfold upd
    by_cases hq : x = i
    · rw [if_pos hq, ← hq]; exact (h.ok.free x hx).2
    · rw [if_neg hq]; exact (h.ok.free x hx).2
  · have hj' : j < Lib.bitLen z.used := hj
    obtain ⟨e1, e2⟩ := h.pg.blk j hj'
    by_cases hq : j = lg i
    · subst hq
      unfold updA1
      rw [if_pos rfl]
      exact ⟨e1.setCell _ _, by rw [Array.size_setIfInBounds]; exact e2⟩
    · have hn : B (lg i) ≠ B j := fun e => hq (h.pg.inj _ _ a1 hj' e).symm
      unfold updA1
      rw [if_neg hq]
      exact ⟨e1.setCell_other hn _, e2⟩
  · have k2' : k ≤ z.used := k2
    have hsz := (h.pg.blk _ a1).2
    have hc := h.cont k k1 k2' (by omega)
    show _ = Option.some (upd z.C i (v, (z.C i).2) k).1 ∧ _ = Option.some (Value.bool (upd z.C i (v, (z.C i).2) k).2)
    by_cases hq : k = i
    · subst hq
      unfold updA1 upd
      rw [if_pos rfl, if_pos rfl]
      constructor
      · rw [Array.getElem?_setIfInBounds_self_of_lt (by omega)]
      · rw [Array.getElem?_setIfInBounds_ne (by omega)]
        exact hc.2
    · unfold upd updA1
      rw [if_neg hq]
      by_cases hg : lg k = lg i
      · have hp := apart h1 (by omega) k1 (by omega) hg hq
        rw [if_pos hg, Array.getElem?_setIfInBounds_ne (by omega), Array.getElem?_setIfInBounds_ne (by omega)]
        exact hc
      · rw [if_neg hg]
        exact hc
/-- The arena and the law's own maps. -/
structure Pl (w0 : World) (a : Nat) (z : Aren) (B : Nat → Nat) (A : Nat → Array Value) (vp vf : Value) (tb vb n : Nat) (fv : Value) (V : Int → Int) (w : World) (O : Paint) : Prop where
  run : Below w0.heap.size w0 w ∧ ∀ j, j < w0.heap.size → O j = 0
  ar : ArenaAt w O 1 2 3 4 a 141 212 143 z 0 B A vp vf
  tk : MapAt w O 5 tb n 4 (.bool false) (fun k => .bool (z.takenB k))
  va : MapAt w O 6 vb n 3 (.int .i64 0) (fun k => .int .i64 (V k))
  fr : Held w O 7 3 fv (z.F.map fun (i : Nat) => Value.int .i64 (i : Int))
  eq : ∀ k, z.takenB k = true → (z.C k.toNat).1 = .int .i64 (V k)
  bd : z.used ≤ n ∧ z.F.length ≤ n
section
variable {cs : List Nat} {w0 w w' : World} {O O' : Paint} {a tb vb n n' : Nat} {z : Aren} {B : Nat → Nat} {A : Nat → Array Value} {vp vf fv : Value} {V : Int → Int}
theorem Pl.step (h : Pl w0 a z B A vp vf tb vb n fv V w O) (hs : Step cs w O w' O') (h0 : 0 ∉ cs) (h1 : 1 ∉ cs) (h2 : 2 ∉ cs) (h3 : 3 ∉ cs) (h4 : 4 ∉ cs) (h5 : 5 ∉ cs) (h6 : 6 ∉ cs) (h7 : 7 ∉ cs) : Pl w0 a z B A vp vf tb vb n fv V w' O' :=
  ⟨run_step h.run hs h0, h.ar.step hs h1 h2 h3 h4, h.tk.step hs h5, h.va.step hs h6, h.fr.step hs h7, h.eq, h.bd⟩
theorem Pl.idle (h : Pl w0 a z B A vp vf tb vb n fv V w O) (hs : Step [] w O w' O') : Pl w0 a z B A vp vf tb vb n fv V w' O' := h.step hs (by simp) (by simp) (by simp) (by simp) (by simp) (by simp) (by simp) (by simp)
theorem Pl.mono (h : Pl w0 a z B A vp vf tb vb n fv V w O) (hn : n ≤ n') : Pl w0 a z B A vp vf tb vb n' fv V w O := ⟨h.run, h.ar, h.tk.mono hn, h.va.mono hn, h.fr, h.eq, by have := h.bd; omega⟩
theorem Pl.fvs (h : Pl w0 a z B A vp vf tb vb n fv V w O) : ∃ A9 p9, fv = .slice A9 z.F.length p9 := by
  rcases h.fr.row.2 with ⟨e1, e2⟩ | ⟨g, p, cur, e1, _⟩
  · exact ⟨none, 0, by rw [e1]; simp at e2; rw [e2]; rfl⟩
  · exact ⟨some ⟨g, 0, none⟩, p, by rw [e1]; simp⟩
end
theorem Pl.cleared {w0 w w' : World} {O : Paint} {a tb vb n : Nat} {z : Aren} {B : Nat → Nat} {A : Nat → Array Value} {vp vf fv : Value} {V : Int → Int} (h : Pl w0 a z B A vp vf tb vb n fv V w O) (hs : Step [1] w O w' O) (hA : ArenaAt w' O 1 2 3 4 a 141 212 143 (zNew z.cells) 0 B A (.slice none 0 0) (.slice none 0 0)) :
    Pl w0 a (zNew z.cells) B A (.slice none 0 0) (.slice none 0 0) w'.heap.size vb (n + 1) (.slice none 0 0) V (w'.alloc (.map #[] 0)) (Step.paint O w' 5) := by
  obtain ⟨sA, mA⟩ := map_new w' O 5 4 (.bool false)
  exact ⟨run_step (run_step h.run hs (by simp)) sA (by simp), hA.idle sA, (mA.congr (fun k => by rw [takenB_new])).mono (by omega), ((h.va.step hs (by simp)).step sA (by simp)).mono (by omega), ⟨World.ownsRow_nil _ _ _ _, fun k hk => by simp [Value.ownBlock] at hk⟩, (fun k hk => by rw [takenB_new] at hk; simp at hk), ⟨Nat.zero_le _, Nat.zero_le _⟩⟩
theorem Pl.setted {w0 w w' : World} {O : Paint} {a tb vb n i : Nat} {z : Aren} {B : Nat → Nat} {A A' : Nat → Array Value} {vp vf fv : Value} {V : Int → Int} {x y : Int} (h : Pl w0 a z B A vp vf tb vb n fv V w O) (hi : x = (i : Int)) (hs : Step [4, 6] w O w' O) (hA : ArenaAt w' O 1 2 3 4 a 141 212 143 (z.set i (.int .i64 y)) 0 B A' vp vf)
    (hm : MapAt w' O 6 vb (n + 1) 3 (.int .i64 0) (fun j => .int .i64 (if j = x then y else V j))) : Pl w0 a (z.set i (.int .i64 y)) B A' vp vf tb vb (n + 1) fv (fun j => if j = x then y else V j) w' O := by
  refine ⟨run_step h.run hs (by simp), hA, ((h.tk.step hs (by simp)).mono (by omega)).congr (fun k => by rw [takenB_set]), hm, h.fr.step hs (by simp), fun k hk => ?_, by have := h.bd; exact ⟨by show z.used ≤ n + 1; omega, by show z.F.length ≤ n + 1; omega⟩⟩
  rw [takenB_set] at hk
  obtain ⟨h1, h2, h3⟩ := takenB_nat hk
  show (upd z.C i (.int .i64 y, (z.C i).2) k.toNat).1 = _
  unfold upd
  by_cases e : k = x
  · rw [if_pos (by omega : k.toNat = i)]
    simp only [if_pos e]
  · rw [if_neg (by omega : ¬ k.toNat = i)]
    simp only [if_neg e]
    exact h.eq k hk
theorem take_facts {z : Aren} (hk : z.Ok) (hl : z.F ≠ [] ∨ z.used < z.cells) (v : Value) : 1 ≤ z.next ∧ z.next ≤ z.cells ∧ (z.take v).used ≤ z.used + 1 ∧ (z.take v).F.length ≤ z.F.length := by
  by_cases hF : z.F = []
  · obtain ⟨t1, t2, t3, t4⟩ := take_new hk hF (by rcases hl with h | h; exact absurd hF h; exact h) v
    have := t4.le
    rw [t3] at this
    rw [t2]
    exact ⟨by omega, by rw [t1]; exact this, by omega, by simp⟩
  · obtain ⟨t1, t2, t3, t4, t5, t6⟩ := take_free hk (List.dropLast_concat_getLast hF).symm v
    have := hk.le
    refine ⟨by omega, by omega, by omega, ?_⟩
    rw [t2, List.length_dropLast]
    omega
theorem Pl.took {w0 w w1 : World} {O O1 : Paint} {a tb vb n : Nat} {z : Aren} {B B' : Nat → Nat} {A A' : Nat → Array Value} {vp vf vp' vf' fv fv' : Value} {V : Int → Int} {y : Int} (h : Pl w0 a z B A vp vf tb vb n fv V w O) (hn : n ≤ 1000) (hl : z.F ≠ [] ∨ z.used < z.cells) (h1 : -9223372036854775808 ≤ y) (h2 : y ≤ 9223372036854775807)
    (hs : Step [1, 2, 4] w O w1 O1) (hA : ArenaAt w1 O1 1 2 3 4 a 141 212 143 (z.take (.int .i64 y)) 0 B' A' vp' vf') (hF : Held w O 7 3 fv' ((z.take (.int .i64 y)).F.map fun (i : Nat) => Value.int .i64 (i : Int))) :
    ∃ w2 w3, (Instr.mapUpdate 54 (.map (some tb)) (.int .i64 (z.next : Int)) (.bool true)).run Try.prog w1 = .ok () w2 ∧ (Instr.mapUpdate 55 (.map (some vb)) (.int .i64 (z.next : Int)) (.int .i64 y)).run Try.prog w2 = .ok () w3 ∧ Step [5] w1 O1 w2 O1 ∧ Pl w0 a (z.take (.int .i64 y)) B' A' vp' vf' tb vb (n + 1) fv' (fun j => if j = (z.next : Int) then y else V j) w3 O1 := by
  obtain ⟨f1, f2, f3, f4⟩ := take_facts h.ar.ok hl (.int .i64 y)
  have hm := h.ar.ok.most
  obtain ⟨w2, u2, s2, m2⟩ := (h.tk.step hs (by simp)).setB (by omega) (k := (z.next : Int)) (by omega) (by omega) true
  obtain ⟨w3, u3, s3, m3⟩ := ((h.va.step hs (by simp)).step s2 (by simp)).setI (by omega) (k := (z.next : Int)) (by omega) (by omega) h1 h2
  refine ⟨w2, w3, u2, u3, s2, run_step (run_step (run_step h.run hs (by simp)) s2 (by simp)) s3 (by simp), (hA.step s2 (by simp) (by simp) (by simp) (by simp)).step s3 (by simp) (by simp) (by simp) (by simp), (m2.step s3 (by simp)).congr (fun k => by rw [takenB_take h.ar.ok hl]), m3, ((hF.step hs (by simp)).step s2 (by simp)).step s3 (by simp), fun k hk => ?_, by have := h.bd; omega⟩
  rw [takenB_take h.ar.ok hl] at hk
  show (upd z.C z.next (.int .i64 y, true) k.toNat).1 = _
  unfold upd
  by_cases e : k = (z.next : Int)
  · rw [if_pos (by omega : k.toNat = z.next)]
    simp only [if_pos e]
  · rw [if_neg e] at hk
    obtain ⟨g1, g2, g3⟩ := takenB_nat hk
    rw [if_neg (by omega : ¬ k.toNat = z.next)]
    simp only [if_neg e]
    exact h.eq k hk
theorem w_succ {j : Int} (h1 : -2 ≤ j) (h2 : j ≤ 1000000) : wrap64 (j + 1) = j + 1 ∧ IntKind.i64.wrap (j + 1) = j + 1 := by
  constructor
  · unfold wrap64; omega
  · rw [IntKind.wrap_i64]; omega
theorem w_left {R u f : Nat} (h : R < 9223372036854775808) (hu : u ≤ R) (hf : f ≤ u) : (wrap64 ((R : Int) - (u : Int)) = (R : Int) - (u : Int) ∧ wrap64 ((R : Int) - (u : Int) + (f : Int)) = (R : Int) - (u : Int) + (f : Int)) ∧ (IntKind.i64.wrap ((R : Int) - (u : Int)) = (R : Int) - (u : Int) ∧ IntKind.i64.wrap ((R : Int) - (u : Int) + (f : Int)) = (R : Int) - (u : Int) + (f : Int)) := by
  refine ⟨⟨?_, ?_⟩, ?_, ?_⟩
  · unfold wrap64; omega
  · unfold wrap64; omega
  · rw [IntKind.wrap_i64]; omega
  · rw [IntKind.wrap_i64]; omega
theorem w_pred {n m : Nat} (h : n = m + 1) (hm : m ≤ 1000000) : (wrap64 ((n : Int) - 1) = (m : Int) ∧ IntKind.i64.wrap ((n : Int) - 1) = (m : Int)) ∧ ((m : Int) < (n : Int) ∧ (0 : Int) < (n : Int)) := by
  refine ⟨⟨?_, ?_⟩, ?_, ?_⟩
  · unfold wrap64; omega
  · rw [IntKind.wrap_i64]; omega
  · omega
  · omega
theorem left_new {z : Aren} (hF : z.F = []) (h : z.used < z.cells) : z.left ≠ 0 := by
  unfold Aren.left
  rw [hF, List.length_nil]
  omega
theorem left_none {z : Aren} (hk : z.Ok) (hF : z.F = []) (h : ¬ z.used < z.cells) : z.left = 0 := by
  have := hk.le
  unfold Aren.left
  rw [hF, List.length_nil]
  omega
theorem left_free {z : Aren} (hk : z.Ok) (hF : z.F ≠ []) : z.left ≠ 0 := by
  have := hk.le
  have h2 : 0 < z.F.length := List.length_pos_iff.2 hF
  unfold Aren.left
  omega
theorem r_ne {r : Nat} (h3 : ¬ r = 3) (h4 : ¬ r = 4) (h5 : ¬ r = 5) : ((r : Int) == 3) = false ∧ ((r : Int) == 4) = false ∧ ((r : Int) == 5) = false := by
  refine ⟨?_, ?_, ?_⟩ <;> simp <;> omega
theorem lt_cast {a b : Nat} (h : a < b) : (a : Int) < (b : Int) := by omega
theorem nlt_cast {a b : Nat} (h : ¬ a < b) : ¬ (a : Int) < (b : Int) := by omega
theorem le_cast {a b : Nat} (h : a ≤ b) : (a : Int) ≤ (b : Int) := by omega
theorem pos_succ (a : Nat) : (0 : Int) < (a : Int) + 1 := by omega
/-- A cell was freed: the arena, the map of what is taken, and the list of what is free. -/
theorem Pl.freed {w0 w w1 : World} {O O1 : Paint} {a tb vb n i : Nat} {z : Aren} {B : Nat → Nat} {A A' : Nat → Array Value} {vp vf vf' fv : Value} {V : Int → Int} {x : Int} (h : Pl w0 a z B A vp vf tb vb n fv V w O) (hn : n ≤ 1000) (hi : x = (i : Int)) (h1 : -9223372036854775808 ≤ x) (h2 : x ≤ 9223372036854775807)
    (hs : Step [1, 3, 4] w O w1 O1) (hA : ArenaAt w1 O1 1 2 3 4 a 141 212 143 (z.free i (.int .i64 0)) 0 B A' vp vf') :
    ∃ w2, (Instr.mapUpdate 54 (.map (some tb)) (.int .i64 x) (.bool false)).run Try.prog w1 = .ok () w2 ∧ Step [5] w1 O1 w2 O1 ∧ Held w2 O1 7 3 fv (z.F.map fun (i : Nat) => Value.int .i64 (i : Int)) ∧
      ∀ (w3 : World) (O3 : Paint) (fv' : Value), Step [] w2 O1 w3 O3 → Held w3 O3 7 3 fv' ((z.F ++ [i]).map fun (i : Nat) => Value.int .i64 (i : Int)) → Pl w0 a (z.free i (.int .i64 0)) B A' vp vf' tb vb (n + 1) fv' V w3 O3 := by
  obtain ⟨w2, u2, s2, m2⟩ := (h.tk.step hs (by simp)).setB (by omega) (k := x) h1 h2 false
  refine ⟨w2, u2, s2, (h.fr.step hs (by simp)).step s2 (by simp), fun w3 O3 fv' s3 hF => ⟨run_step (run_step (run_step h.run hs (by simp)) s2 (by simp)) s3 (by simp), (hA.step s2 (by simp) (by simp) (by simp) (by simp)).idle s3, (m2.step s3 (by simp)).congr (fun k => by rw [takenB_free, hi]), (((h.va.step hs (by simp)).step s2 (by simp)).step s3 (by simp)).mono (by omega), hF, fun k hk => ?_, ?_⟩⟩
  · rw [takenB_free] at hk
    by_cases e : k = (i : Int)
    · rw [if_pos e] at hk; cases hk
    · rw [if_neg e] at hk
      obtain ⟨g1, g2, g3⟩ := takenB_nat hk
      show (upd z.C i (.int .i64 0, false) k.toNat).1 = _
      unfold upd
      rw [if_neg (by omega : ¬ k.toNat = i)]
      exact h.eq k hk
  · have := h.bd
    refine ⟨?_, ?_⟩
    · show z.used ≤ n + 1
      omega
    · show (z.F ++ [i]).length ≤ n + 1
      rw [List.length_append]
      simp only [List.length_cons, List.length_nil]
      omega
theorem held_news {w : World} {O : Paint} {c : Nat} {A : Option Addr} {m cap : Nat} {xs : List Value} (h : Held w O c 3 (.slice A m cap) xs) : xs.length = m ∧ (m = 0 ∨ ∃ g, A = some ⟨g, 0, none⟩ ∧ ∀ j u, xs[j]? = some u → w.cell? ((⟨g, 0, none⟩ : Addr).add j) = some u) := by
  rcases h.row.2 with ⟨e1, e2⟩ | ⟨g, p, cur, e1, e2, e3, e4, e5, e6, e7⟩
  · simp only [Value.slice.injEq] at e1
    exact ⟨by omega, .inl e1.2.1⟩
  · simp only [Value.slice.injEq] at e1
    obtain ⟨rfl, rfl, rfl⟩ := e1
    refine ⟨rfl, .inr ⟨g, rfl, fun j u hu => ?_⟩⟩
    have := h.cell hu
    unfold Addr.add
    split <;> simp_all
theorem ints_one (l : List Nat) : ∀ u ∈ l.map (fun (i : Nat) => Value.int .i64 (i : Int)), u.oneCell' = true := by
  intro u hu
  obtain ⟨i, _, rfl⟩ := List.mem_map.1 hu
  rfl
/-- An append of a whole kept list of numbers to an empty one that is new. -/
theorem step_copy (w : World) {ops : Array Oper} {o : Oper} {a : Act} {K : Act → World → Prop} {Q : Exit → Act → World → Prop} {E : Prop} (hgd : o.guard = none) (s x : Operand)
    (ho : o.op = .call { callee := .builtin .append, args := #[s, x], argTypes := #[47, 47] })
    {O : Paint} {c : Nat} {l : List Nat} {A : Option Addr} {m cap g0 c0 : Nat} (hl : l.length ≤ 1000000) (hF : Held w O c 3 (.slice A m cap) (l.map fun (i : Nat) => Value.int .i64 (i : Int))) (hx : a.eval x = .slice A m cap)
    (hs : a.eval s = .slice (some ⟨g0, 0, none⟩) 0 c0) (hown : w.ownsRow 0 3 1 (.slice (some ⟨g0, 0, none⟩) 0 c0) 0 [])
    (h : ∀ g cap' w', w'.ownsRow 0 3 1 (.slice (some ⟨g, 0, none⟩) l.length cap') l.length (l.map fun (i : Nat) => Value.int .i64 (i : Int)) → w.grownBy w' (some g0) → (g = g0 ∨ w.heap.size ≤ g) → K (a.put o.dst (.slice (some ⟨g, 0, none⟩) l.length cap')) w') :
    if Region.wanted o (yielded ops a.tmps) = true then Oper.wp Try.prog o a w K Q else E := by
  obtain ⟨i0, hi, hz0, hz1, hz2⟩ := info_parts infoIn
  obtain ⟨h1, h2⟩ := held_news hF
  rw [List.length_map] at h1
  subst h1
  by_cases hm : 0 < l.length
  · rcases h2 with h2 | ⟨g, rfl, h2⟩
    · omega
    · refine step_append1 w hgd s x 47 ho 3 i0 (.int .i64 0) 1 8 Try.underlying47 hi hz0 hz1 hz2 rfl (by decide) _ 0 [] hs hown _ l.length cap hm _ hx (by simp) h2 (ints_one l) (by unfold maxLen; omega) (by omega) ?_
      intro g' cap' w' r1 r2 r3
      rw [Nat.zero_add, List.nil_append] at r1
      rw [Nat.zero_add]
      refine h g' cap' w' r1 r2 ?_
      rcases r3 with e | e
      · left
        simpa [Value.ownBlock] using e
      · right
        exact e g' (by simp [Value.ownBlock])
  · have h0 : l = [] := List.eq_nil_of_length_eq_zero (by omega)
    subst h0
    have hw : Region.wanted o (yielded ops a.tmps) = true := by simp [Region.wanted, hgd]
    rw [if_pos hw]
    have hx' : a.eval x = .slice A 0 cap := hx
    have hF' : Held w O c 3 (.slice A 0 cap) [] := hF
    rcases hF'.row.2 with ⟨e1, _⟩ | ⟨g, p, cur, e1, _, hg, _⟩
    · simp only [Value.slice.injEq] at e1
      obtain ⟨rfl, -, rfl⟩ := e1
      have hr := run_append_owned_none (P := Try.prog) (w := w) 0 47 o.type 3 i0 1 Try.underlying47 hi (.slice (some ⟨g0, 0, none⟩) 0 c0) 0 [] hown
      unfold Oper.wp execOp
      simp only [ho, resolve, invoke, builtin, Sem.run_bind, Sem.run_pure, Result.andThen_ok, List.map_toArray, List.map_cons, List.map_nil, hs, hx', hr]
      exact h g0 c0 w hown ⟨rfl, rfl, rfl, Nat.le_refl _, fun _ _ _ => rfl⟩ (.inl rfl)
    · simp only [Value.slice.injEq] at e1
      obtain ⟨rfl, -, rfl⟩ := e1
      obtain ⟨w', hr, r1, r2⟩ := run_append_fits (P := Try.prog) (w := w) 0 47 o.type 3 i0 1 Try.underlying47 hi hz1 g0 0 c0 [] hown ⟨g, 0, none⟩ 0 cap [] rfl (by simp) (by simp) (Nat.zero_le _)
      unfold Oper.wp execOp
      simp only [ho, resolve, invoke, builtin, Sem.run_bind, Sem.run_pure, Result.andThen_ok, List.map_toArray, List.map_cons, List.map_nil, hs, hx', hr]
      exact h g0 c0 w' r1 r2 (.inl rfl)
theorem fin_free {w7 w3 w4 : World} {O6 : Paint} {l : List Nat} {i g g2 cap cap2 : Nat} {x : Int} (hb : Below w7.heap.size w7 w3) (hg : w7.heap.size ≤ g) (hx : x = (i : Int)) (r4 : w4.ownsRow 0 3 1 (.slice (some ⟨g2, 0, none⟩) (l.length + 1) cap2) (l.length + 1) ((l.map fun (i : Nat) => Value.int .i64 (i : Int)) ++ [.int .i64 x]))
    (r5 : w3.grownBy w4 (Value.slice (some ⟨g, 0, none⟩) l.length cap).ownBlock) (r6 : Moved w3 (.slice (some ⟨g, 0, none⟩) l.length cap) (.slice (some ⟨g2, 0, none⟩) (l.length + 1) cap2)) :
    Step [] w7 O6 w4 (Step.paint O6 w7 7) ∧ Held w4 (Step.paint O6 w7 7) 7 3 (.slice (some ⟨g2, 0, none⟩) (l.length + 1) cap2) ((l ++ [i]).map fun (i : Nat) => Value.int .i64 (i : Int)) := by
  have hb4 : Below w7.heap.size w7 w4 := hb.grown r5 hb.size (fun k hk => by simp only [Value.ownBlock, Option.some.injEq] at hk; omega)
  refine ⟨Step.of_below hb4 O6 7, Held.fresh ?_ (fun k hk => ?_) O6⟩
  · rw [map_snoc, ← hx, List.length_append, List.length_map]
    exact r4
  · simp only [Value.ownBlock, Option.some.injEq] at hk
    rcases r6 with e | e
    · simp only [Value.ownBlock, Option.some.injEq] at e
      omega
    · have := e g2 (by simp [Value.ownBlock])
      have := hb.size
      omega
theorem row_empty (w : World) : (w.alloc (.cells #[] 3)).ownsRow 0 3 1 (.slice (some ⟨w.heap.size, 0, none⟩) 0 0) 0 [] :=
  ⟨rfl, .inr ⟨w.heap.size, 0, #[], rfl, Nat.zero_le _, heap_alloc_new _ _, Nat.le_refl _, Nat.zero_le _, rfl, rfl⟩⟩
theorem cell_at {w : World} {P : Nat} {x : Value} {t : TypeId} (h : w.heap[P]? = some (.cells #[x] t (0, 0))) : ∀ j u, [x][j]? = some u → w.cell? ((⟨P, 0, none⟩ : Addr).add j) = some u := by
  intro j u hu
  cases j with
  | zero =>
    simp only [List.getElem?_cons_zero, Option.some.injEq] at hu
    subst hu
    show w.cell? ⟨P, 0 + 0, none⟩ = _
    unfold World.cell?
    dsimp only
    rw [h]
    rfl
  | succ j => simp at hu
end Go.Proofs.Ytollngjnoccmfaa.Ar
