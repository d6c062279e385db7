/-
  Package optimal: the ways in memory; contracts of offer, bytesAlone, lengthPrices.
-/
import Derived.Test.YtoneghmahdjgbaaGreatPk19
import Derived.Test.YtoneghmahdjgbaaGreatPk20
import Derived.Deep.MidRow
set_option linter.unusedVariables false
set_option linter.unusedSimpArgs false
namespace Go.Proofs.YtoneghmahdjgbaaGreat.Om
open Go.RowKit
open Pc (Tb)
/-- The ways lie in block g, of the colour 2. -/
structure WaysAt (w : World) (O : Paint) (g n : Nat) (F : Nat → Wy) : Prop where
  col : O g = 2
  row : ∃ arr : Array Value, w.heap[g]? = some (.cells arr 48 (0, 0)) ∧ arr.size = n * 3 ∧ ∀ e, e < n → arr[e * 3]? = some (.int .i64 (F e).1) ∧ arr[e * 3 + 1]? = some (.int .i64 ((F e).2.1 : Int)) ∧ arr[e * 3 + 2]? = some (.int .i64 ((F e).2.2 : Int))
section
variable {cs : List Nat} {w w' : World} {O O' : Paint} {g n : Nat} {F : Nat → Wy}
theorem WaysAt.lt (h : WaysAt w O g n F) : g < w.heap.size := by
  obtain ⟨arr, h1, _⟩ := h.row
  exact lt_of_heap h1
theorem WaysAt.step (h : WaysAt w O g n F) (hs : Step cs w O w' O') (hc : 2 ∉ cs) : WaysAt w' O' g n F := by
  obtain ⟨arr, h1, h2⟩ := h.row
  exact ⟨(hs.ext g h.lt).trans h.col, arr, (hs.block h.lt (by rw [h.col]; exact hc)).trans h1, h2⟩
theorem WaysAt.cells (h : WaysAt w O g n F) {e : Nat} (he : e < n) : (w.cell? ⟨g, e * 3, none⟩ = some (.int .i64 (F e).1) ∧ w.cell? ⟨g, e * 3 + 1, none⟩ = some (.int .i64 ((F e).2.1 : Int)) ∧ w.cell? ⟨g, e * 3 + 2, none⟩ = some (.int .i64 ((F e).2.2 : Int))) ∧ w.frozen? ⟨g, e * 3, none⟩ = false ∧ w.frozen? ⟨g, e * 3 + 1, none⟩ = false ∧ w.frozen? ⟨g, e * 3 + 2, none⟩ = false := by
  obtain ⟨arr, h1, h2, h3⟩ := h.row
  obtain ⟨a, b, c⟩ := h3 e he
  exact ⟨⟨by simp [World.cell?, h1, a], by simp [World.cell?, h1, b], by simp [World.cell?, h1, c]⟩, by simp [World.frozen?, h1], by simp [World.frozen?, h1], by simp [World.frozen?, h1]⟩
theorem WaysAt.set (h : WaysAt w O g n F) {e : Nat} (he : e < n) (c : Int) (x : Nat × Nat) :
    WaysAt (((w.setCell ⟨g, e * 3, none⟩ (.int .i64 c)).setCell ⟨g, e * 3 + 1, none⟩ (.int .i64 (x.1 : Int))).setCell ⟨g, e * 3 + 2, none⟩ (.int .i64 (x.2 : Int))) O g n (fun i => if i = e then (c, x) else F i) ∧
    Step [2] w O (((w.setCell ⟨g, e * 3, none⟩ (.int .i64 c)).setCell ⟨g, e * 3 + 1, none⟩ (.int .i64 (x.1 : Int))).setCell ⟨g, e * 3 + 2, none⟩ (.int .i64 (x.2 : Int))) O := by
  have hc : O g ∈ [2] := by simp [h.col]
  refine ⟨⟨h.col, ?_⟩, (((Step.refl [2] w O).setCell (p := ⟨g, e * 3, none⟩) (.inl hc) _).setCell (p := ⟨g, e * 3 + 1, none⟩) (.inl hc) _).setCell (p := ⟨g, e * 3 + 2, none⟩) (.inl hc) _⟩
  obtain ⟨arr, h1, h2, h3⟩ := h.row
  refine ⟨_, heap_setCell_same _ _ _ _ _ _ (heap_setCell_same _ _ _ _ _ _ (heap_setCell_same _ _ _ _ _ _ h1)), by simp [h2], fun j hj => ?_⟩
  by_cases hje : j = e
  · subst hje
    rw [if_pos rfl]
    refine ⟨?_, ?_, ?_⟩ <;> simp [Array.getElem?_setIfInBounds, h2] <;> omega
  · rw [if_neg hje]
    obtain ⟨g0, g1, g2⟩ := h3 j hj
    refine ⟨?_, ?_, ?_⟩
    · rw [Array.getElem?_setIfInBounds_ne (by omega), Array.getElem?_setIfInBounds_ne (by omega), Array.getElem?_setIfInBounds_ne (by omega)]; exact g0
    · rw [Array.getElem?_setIfInBounds_ne (by omega), Array.getElem?_setIfInBounds_ne (by omega), Array.getElem?_setIfInBounds_ne (by omega)]; exact g1
    · rw [Array.getElem?_setIfInBounds_ne (by omega), Array.getElem?_setIfInBounds_ne (by omega), Array.getElem?_setIfInBounds_ne (by omega)]; exact g2
end
theorem offer_yes {F : Nat → Wy} {e : Nat} {c : Int} {x : Nat × Nat} (h : c < (F e).1) : (fun i => if i = e then (c, x) else F i) = offer F e c x := by
  funext i
  unfold offer
  by_cases hi : i = e
  · subst hi; rw [if_pos rfl, if_pos ⟨rfl, h⟩]
  · rw [if_neg hi, if_neg (fun h => hi h.1)]
theorem offer_no {F : Nat → Wy} {e : Nat} {c : Int} {x : Nat × Nat} (h : ¬ c < (F e).1) : F = offer F e c x := by
  funext i
  unfold offer
  rw [if_neg (fun h2 => h (by rw [← h2.1]; exact h2.2))]
theorem two_of {w : World} {X : Nat} {a b : Value} {t : TypeId} (h : w.heap[X]? = some (.cells #[a, b] t (0, 0))) : w.cell? ⟨X, 0, none⟩ = some a ∧ w.cell? ⟨X, 1, none⟩ = some b :=
  ⟨by simp [World.cell?, h], by simp [World.cell?, h]⟩
set_option maxRecDepth 100000 in
set_option maxHeartbeats 1000000 in
theorem offer_any {w : World} {O : Paint} {g n e : Nat} {F : Nat → Wy} (h : WaysAt w O g n F) (he : e < n) (c : Int) (x : Nat × Nat) :
    Calls Tryz.prog 38 #[.pointer (some ⟨g, e * 3, none⟩), .int .i64 c, .agg #[.int .i64 (x.1 : Int), .int .i64 (x.2 : Int)]] w fun z w' => z = .returned (.tuple #[]) ∧ ∃ O', Step [2] w O w' O' ∧ WaysAt w' O' g n (offer F e c x) := by
  have hs1 := Step.alloc_paint w O 3 (.cells #[.int .i64 (x.1 : Int), .int .i64 (x.2 : Int)] 46)
  have h1 := h.step hs1 (by simp)
  have hx := two_of (heap_alloc_new w (.cells #[.int .i64 (x.1 : Int), .int .i64 (x.2 : Int)] 46))
  have HS1 := Lib.hid (hs1.nil (cs := [2]))
  clear hs1 h
  go_enter Tryz.func38, Tryz.ntmps38
  go_upto_region 1 with (fail)
  generalize w.alloc (.cells #[.int .i64 (x.1 : Int), .int .i64 (x.2 : Int)] 46) = w1 at *
  generalize w.heap.size = X at *
  generalize Step.paint O w 3 = O1 at *
  obtain ⟨x0, x1⟩ := hx
  obtain ⟨⟨c0, c1, c2⟩, f0, f1, f2⟩ := h1.cells he
  have H1 := Lib.hid h1
  clear h1
  by_cases hlt : c < (F e).1
  · have HSET := Lib.hid (H1.out.set he c x)
    have HO := Lib.hid (offer_yes (x := x) hlt)
    generalize (F e).1 = fc at *
    go_wp2_with fail
    first | go_end0 | (simp only [Exit.inBlock, Exit.then]; refine bodyPost_ret (results_none rfl _ _ _) rfl ?_) | refine bodyPost_ret (results_none rfl _ _ _) rfl ?_
    exact ⟨rfl, O1, HS1.out.trans HSET.out.2, by rw [← HO.out]; exact HSET.out.1⟩
  · have HO := Lib.hid (offer_no (x := x) hlt)
    generalize (F e).1 = fc at *
    go_wp2_with fail
    first | go_end0 | (simp only [Exit.inBlock, Exit.then]; refine bodyPost_ret (results_none rfl _ _ _) rfl ?_) | refine bodyPost_ret (results_none rfl _ _ _) rfl ?_
    exact ⟨rfl, O1, HS1.out, by rw [← HO.out]; exact H1.out⟩
theorem infoWay : (Tryz.prog.info? 48).map (fun i => (i.zero, i.size, i.bytes)) = some (some (.agg #[.int .i64 0, .int .i64 0, .int .i64 0]), 3, 24) := by kernel_rfl
theorem make_ways (n : Nat) (hn : n ≤ 10000) : ∃ arr : Array Value, arr.size = n * 3 ∧ (∀ j, j < n * 3 → arr[j]? = some (.int .i64 0)) ∧ ∀ w, (Instr.makeSlice 43 (.int .i64 (n : Int)) (.int .i64 (n : Int))).run Tryz.prog w = .ok (.slice (some ⟨w.heap.size, 0, none⟩) n n) (w.alloc (.cells arr 48)) := by
  obtain ⟨i0, hi, hz0, hz1, hz2⟩ := info_parts infoWay
  refine ⟨madeCells (Value.agg #[.int .i64 0, .int .i64 0, .int .i64 0]).cells (n * i0.size), by rw [size_madeCells, hz1], fun j hj => ?_, fun w => ?_⟩
  · rw [hz1]
    unfold madeCells
    rcases (by omega : j % 3 = 0 ∨ j % 3 = 1 ∨ j % 3 = 2) with h | h | h <;> simp [hj, Value.cells, h]
  · have := run_make (P := Tryz.prog) w 43 48 i0 (.agg #[.int .i64 0, .int .i64 0, .int .i64 0]) Tryz.underlying43 hi hz0 .i64 .i64 (n : Int) (n : Int) (by omega) (by omega) (by rw [hz2]; omega) (by omega)
    simp only [Int.toNat_natCast] at this
    exact this
theorem five_of {w : World} {X : Nat} {a b c d e : Value} {t : TypeId} (h : w.heap[X]? = some (.cells #[a, b, c, d, e] t (0, 0))) : w.cell? ⟨X, 0, none⟩ = some a ∧ w.cell? ⟨X, 1, none⟩ = some b ∧ w.cell? ⟨X, 2, none⟩ = some c ∧ w.cell? ⟨X, 3, none⟩ = some d ∧ w.cell? ⟨X, 4, none⟩ = some e := by
  refine ⟨?_, ?_, ?_, ?_, ?_⟩ <;> simp [World.cell?, h]
def alone (t : Tb) (k : Nat) : Nat → Wy := fun e => if e < k then ((e : Int) * t.l, 0, 0) else (0, 0, 0)
theorem alone_all {w : World} {O : Paint} {g n : Nat} {t : Tb} (h : WaysAt w O g n (alone t n)) : WaysAt w O g n (fun e => ((e : Int) * t.l, 0, 0)) := by
  obtain ⟨arr, h1, h2, h3⟩ := h.row
  refine ⟨h.col, arr, h1, h2, fun e he => ?_⟩
  have := h3 e he
  unfold alone at this
  rw [if_pos he] at this
  exact this
theorem WaysAt.cost {w : World} {O : Paint} {g n k : Nat} {t : Tb} (h : WaysAt w O g n (alone t k)) (hk : k < n) :
    WaysAt (w.setCell ⟨g, k * 3, none⟩ (.int .i64 ((k : Int) * t.l))) O g n (alone t (k + 1)) ∧ Step [2] w O (w.setCell ⟨g, k * 3, none⟩ (.int .i64 ((k : Int) * t.l))) O := by
  have hc : O g ∈ [2] := by simp [h.col]
  refine ⟨⟨h.col, ?_⟩, (Step.refl [2] w O).setCell (p := ⟨g, k * 3, none⟩) (.inl hc) _⟩
  obtain ⟨arr, h1, h2, h3⟩ := h.row
  refine ⟨_, heap_setCell_same _ _ _ _ _ _ h1, by simp [h2], fun j hj => ?_⟩
  obtain ⟨g0, g1, g2⟩ := h3 j hj
  by_cases hje : j = k
  · subst hje
    unfold alone at *
    rw [if_neg (by omega)] at g0 g1 g2
    rw [if_pos (by omega)]
    exact ⟨by simp [Array.getElem?_setIfInBounds, h2]; omega, by rw [Array.getElem?_setIfInBounds_ne (by omega)]; exact g1, by rw [Array.getElem?_setIfInBounds_ne (by omega)]; exact g2⟩
  · have e1 : alone t (k + 1) j = alone t k j := by
      unfold alone
      by_cases hj2 : j < k
      · rw [if_pos hj2, if_pos (by omega)]
      · rw [if_neg hj2, if_neg (by omega)]
    rw [e1]
    exact ⟨by rw [Array.getElem?_setIfInBounds_ne (by omega)]; exact g0, by rw [Array.getElem?_setIfInBounds_ne (by omega)]; exact g1, by rw [Array.getElem?_setIfInBounds_ne (by omega)]; exact g2⟩
theorem mul_small {t : Tb} (ht : t.good = true) {k : Nat} (hk : k ≤ 10000) : 0 ≤ (k : Int) * t.l ∧ (k : Int) * t.l ≤ 100000000 := by
  obtain ⟨⟨h1, h2⟩, _⟩ := t.good_range ht
  have a : 0 ≤ (k : Int) * t.l := Int.mul_nonneg (by omega) (by omega)
  have b : (k : Int) * t.l ≤ 10000 * 10000 := Int.mul_le_mul (by omega) h2 (by omega) (by omega)
  exact ⟨a, by omega⟩
set_option maxRecDepth 100000 in
set_option maxHeartbeats 1000000 in
theorem alone_any (t : Tb) (ht : t.good = true) (n : Nat) (hn : n ≤ 1000) (w : World) (O : Paint) :
    Calls Tryz.prog 35 #[.int .i64 (n : Int), .agg #[.int .i64 t.l, .int .i64 t.m, .int .i64 t.n, .int .i64 t.f, .int .i64 t.b]] w fun x w' => ∃ g O', x = .returned (.slice (some ⟨g, 0, none⟩) (n + 1) (n + 1)) ∧ Step [2] w O w' O' ∧ WaysAt w' O' g (n + 1) (fun e => ((e : Int) * t.l, 0, 0)) := by
  obtain ⟨arr, ha1, ha2, hmk⟩ := make_ways (n + 1) (by omega)
  have hs1 := Step.alloc_paint w O 3 (.cells #[.int .i64 t.l, .int .i64 t.m, .int .i64 t.n, .int .i64 t.f, .int .i64 t.b] 25)
  have HX := Lib.hid (Blk.new w O 3 (.cells #[.int .i64 t.l, .int .i64 t.m, .int .i64 t.n, .int .i64 t.f, .int .i64 t.b] 25))
  have HS1 := Lib.hid hs1
  have HSZ := Lib.hid hs1.size
  have HMU := Lib.hid (fun k (hk : k ≤ 10000) => mul_small ht hk)
  clear hs1
  go_enter Tryz.func35, Tryz.ntmps35
  go_upto_region 1 with (fail)
  generalize w.alloc (.cells #[.int .i64 t.l, .int .i64 t.m, .int .i64 t.n, .int .i64 t.f, .int .i64 t.b] 25) = w1 at *
  generalize hX : w.heap.size = X at *
  have HXE := Lib.hid hX
  clear hX
  generalize Step.paint O w 3 = O1 at *
  rw [show ((n + 1 : Nat) : Int) = (n : Int) + 1 from by omega] at hmk
  go_upto_region 2 with (fail)
  have hs2 := Step.alloc_paint w1 O1 2 (.cells arr 48)
  have HX2 := Lib.hid (HX.out.step hs2 (by simp))
  have HS2 := Lib.hid ((HS1.out.trans hs2).nil (cs := [2]))
  have HW2 : Hid (WaysAt (w1.alloc (.cells arr 48)) (Step.paint O1 w1 2) w1.heap.size (n + 1) (alone t 0)) := Lib.hid ⟨Step.paint_new (Nat.le_refl _), arr, heap_alloc_new w1 _, ha1, fun e he => ⟨ha2 _ (by omega), ha2 _ (by omega), ha2 _ (by omega)⟩⟩
  clear hs2 HX HS1 HSZ ha1 ha2 hmk
  generalize w1.alloc (.cells arr 48) = w2 at *
  generalize Step.paint O1 w1 2 = O2 at *
  generalize w1.heap.size = g at *
  go_wp2_with fail
  go_loopw [12] (fun i wr => ∃ k : Nat, k ≤ n + 1 ∧ i = .int .i64 (k : Int) ∧ Step [2] w2 O2 wr O2 ∧ WaysAt wr O2 g (n + 1) (alone t k)) (fun i _ => n + 1 - (intOf i).toNat)
  case atStart => exact ⟨0, by omega, rfl, Step.refl _ _ _, HW2.out⟩
  case round =>
    obtain ⟨k, hk, rfl, hs3, h3⟩ := hrel
    by_cases hlt : k < n + 1
    · obtain ⟨m1, m2⟩ := HMU.out k (by omega)
      have h5 := five_of (HX2.out.step hs3 (by simp)).1
      obtain ⟨x0, x1, x2, x3, x4⟩ := h5
      obtain ⟨⟨c0, c1, c2⟩, f0, f1, f2⟩ := h3.cells hlt
      have HN := Lib.hid (h3.cost hlt)
      have HS3 := Lib.hid hs3
      have e1 : (k : Int) < (n : Int) + 1 := by omega
      have e2 : IntKind.i64.wrap ((k : Int) * t.l) = (k : Int) * t.l := by rw [IntKind.wrap_i64]; omega
      have e3 : wrap64 ((k : Int) * t.l) = (k : Int) * t.l := by unfold wrap64; omega
      clear hs3 h3
      go_wp2_with fail
      go_roundw
      case rel => exact ⟨k + 1, by omega, by go_num, HS3.out.trans HN.out.2, HN.out.1⟩
      case measure => simp [intOf]; omega
    · obtain rfl : k = n + 1 := by omega
      have HS3 := Lib.hid (HS2.out.trans hs3)
      have HE := Lib.hid (alone_all h3)
      have e1 : ¬ ((n + 1 : Nat) : Int) < (n : Int) + 1 := by omega
      clear hs3 h3
      go_wp2_with fail
      go_ret
      exact ⟨g, rfl, O2, HS3.out, HE.out⟩
/-- What the lengths below k cost; zero for all others. -/
def lnA (t : Tb) (k : Nat) : Array Value := ((List.range 274).map fun i => Value.int .i64 (if i < k then t.len (i : Int) else 0)).toArray
theorem lnA_size (t : Tb) (k : Nat) : (lnA t k).size = 274 := by simp [lnA]
theorem lnA_at (t : Tb) (k i : Nat) (hi : i < 274) : (lnA t k)[i]? = some (.int .i64 (if i < k then t.len (i : Int) else 0)) := by simp [lnA, hi]
theorem lnA_of {arr : Array Value} {t : Tb} {k : Nat} (h1 : arr.size = 274) (h2 : ∀ i, i < 274 → arr[i]? = some (.int .i64 (if i < k then t.len (i : Int) else 0))) : arr = lnA t k := by
  apply Array.ext_getElem?
  intro i
  by_cases h : i < 274
  · rw [h2 i h, lnA_at t k i h]
  · rw [Array.getElem?_eq_none (by omega), Array.getElem?_eq_none (by rw [lnA_size]; omega)]
theorem lnA_set (t : Tb) (k : Nat) (hk : k < 274) : (lnA t k).setIfInBounds k (.int .i64 (t.len (k : Int))) = lnA t (k + 1) := by
  refine lnA_of (by simp [lnA_size]) (fun i hi => ?_)
  by_cases e : i = k
  · subst e
    rw [Array.getElem?_setIfInBounds_self_of_lt (by rw [lnA_size]; omega), if_pos (by omega)]
  · rw [Array.getElem?_setIfInBounds_ne (fun h => e h.symm), lnA_at t k i hi]
    by_cases h : i < k
    · rw [if_pos h, if_pos (by omega)]
    · rw [if_neg h, if_neg (by omega)]
theorem lnA_one (t : Tb) (k : Nat) : ∀ v ∈ (lnA t k).toList, v.oneCell' = true := by
  intro v hv
  simp only [lnA, List.mem_map] at hv
  obtain ⟨i, _, rfl⟩ := hv
  rfl
theorem rep_at (n s : Nat) (h : s < n) (v : Value) : (List.replicate n v).toArray[s]? = some v := by simp [h]
theorem rep_size (n : Nat) (v : Value) : (List.replicate n v).toArray.size = n := by simp
theorem lnA_zero (t : Tb) : Tryz.zeroCells78 = lnA t 0 := by
  rw [show Tryz.zeroCells78 = (List.replicate 274 (Value.int .i64 0)).toArray from by kernel_rfl]
  exact lnA_of (rep_size 274 _) (fun i hi => by rw [if_neg (Nat.not_lt_zero i)]; exact rep_at 274 i hi _)
theorem size274 : (Tryz.prog.info? 78).map (·.size) = some 274 := by kernel_rfl
theorem ln_there {w : World} {M k : Nat} {t : Tb} (h : w.heap[M]? = some (.cells (lnA t k) 78 (0, 0))) : w.there M 0 274 := by
  intro j hj
  rw [Nat.zero_add]
  exact ⟨by simp [World.cell?, h, lnA_at t k j hj], by simp [World.frozen?, h]⟩
theorem ln_range {w : World} {M k : Nat} {t : Tb} (h : w.heap[M]? = some (.cells (lnA t k) 78 (0, 0))) : w.rangeAt M 0 (lnA t k).toList := by
  intro j v hv
  rw [Nat.zero_add]
  simp only [World.cell?, h]
  simpa using hv
theorem ln_cell {w : World} {M k : Nat} {t : Tb} (h : w.heap[M]? = some (.cells (lnA t k) 78 (0, 0))) (i : Nat) (hi : i < 274) : w.cell? ⟨M, i, none⟩ = some (.int .i64 (if i < k then t.len (i : Int) else 0)) ∧ w.frozen? ⟨M, i, none⟩ = false :=
  ⟨by simp [World.cell?, h, lnA_at t k i hi], by simp [World.frozen?, h]⟩
theorem setCells_blk {b : Nat} {t : TypeId} : ∀ (vs : List Value) (o : Nat) (w : World) (arr : Array Value), w.heap[b]? = some (.cells arr t (0, 0)) → ∃ arr', (w.setCells b o vs).heap[b]? = some (.cells arr' t (0, 0)) ∧ arr'.size = arr.size
  | [], _, _, arr, h => ⟨arr, h, rfl⟩
  | v :: vs, o, w, arr, h => by
    obtain ⟨arr', h1, h2⟩ := setCells_blk vs (o + 1) (w.setCell ⟨b, o, none⟩ v) _ (heap_setCell_same w b o _ _ v h)
    exact ⟨arr', h1, by rw [h2]; simp⟩
theorem setCells_all {b : Nat} {w : World} {t : TypeId} {arr : Array Value} (vs : Array Value) (h : w.heap[b]? = some (.cells arr t (0, 0))) (hs : arr.size = vs.size) : (w.setCells b 0 vs.toList).heap[b]? = some (.cells vs t (0, 0)) := by
  obtain ⟨arr', h1, h2⟩ := setCells_blk vs.toList 0 w arr h
  have e : arr' = vs := by
    apply Array.ext_getElem?
    intro j
    by_cases hj : j < vs.size
    · have h3 := World.cell?_setCells_in b vs.toList 0 w (fun j hj => by
        have hj' : j < arr.size := by rw [hs]; simpa using hj
        simp [World.cell?, h, hj']) j (by simpa using hj)
      rw [Nat.zero_add] at h3
      simp only [World.cell?, h1] at h3
      simpa [hj] using h3
    · rw [Array.getElem?_eq_none (by omega), Array.getElem?_eq_none (by omega)]
  rw [h1, e]
theorem setCells_below {b : Nat} {w0 : World} (hp : w0.heap.size ≤ b) : ∀ (vs : List Value) (o : Nat) (w : World), Below w0.heap.size w0 w → Below w0.heap.size w0 (w.setCells b o vs)
  | [], _, _, h => h
  | v :: vs, o, _, h => setCells_below hp vs (o + 1) _ (h.setCell (p := ⟨b, o, none⟩) hp v)
theorem prices_end {w wr : World} {R : Nat} {t : Tb} {cs : List Value} {fn : Func} {a : Act} {k0 : Nat} (hR : w.heap.size ≤ R) (hres : fn.results = #[.cell 2 78]) (h2 : a.tmps.getD 2 undef = .pointer (some ⟨R, 0, none⟩)) (hd : a.defers = []) (hcs : (lnA t 274).toList = cs) (hr0 : wr.heap[R]? = some (.cells (lnA t k0) 78 (0, 0))) (h : Below w.heap.size w wr) :
    bodyPost Tryz.prog fn (fun x w' => x = .returned (.agg (lnA t 274)) ∧ Below w.heap.size w w') .ret a (wr.setCells R 0 cs) := by
  subst hcs
  have hr := setCells_all (lnA t 274) (w := wr) (b := R) hr0 (by rw [lnA_size, lnA_size])
  have hlv := run_loadVar_row (P := Tryz.prog) (wr.setCells R 0 (lnA t 274).toList) R 78 78 (lnA t 274) (0, 0) _ hr Tryz.underlying78 rfl (by rw [size274, lnA_size])
  have h2' : a.tmps[2]?.getD undef = .pointer (some ⟨R, 0, none⟩) := by simpa using h2
  exact bodyPost_ret (v := .agg (lnA t 274)) (by simp [results, hres, h2', asAddr, hlv]) hd ⟨rfl, setCells_below hR _ 0 _ h⟩
/-- The result's cell and the array under way. -/
structure Lens (w : World) (R M X : Nat) (t : Tb) (k : Nat) (wr : World) : Prop where
  below : Below w.heap.size w wr
  hR : w.heap.size ≤ R
  hM : w.heap.size ≤ M
  res : wr.heap[R]? = some (.cells (lnA t 0) 78 (0, 0))
  map : wr.heap[M]? = some (.cells (lnA t k) 78 (0, 0))
  tab : wr.heap[X]? = some (.cells #[.int .i64 t.l, .int .i64 t.m, .int .i64 t.n, .int .i64 t.f, .int .i64 t.b] 25 (0, 0))
  ne1 : R ≠ M
  ne2 : X ≠ M
theorem Lens.news {w : World} {R M X : Nat} {t : Tb} {k : Nat} {wr w' : World} (h : Lens w R M X t k wr) (hb : Below wr.heap.size wr w') : Lens w R M X t k w' :=
  ⟨h.below.trans (hb.mono h.below.size), h.hR, h.hM, (hb.block R (lt_of_heap h.res)).trans h.res, (hb.block M (lt_of_heap h.map)).trans h.map, (hb.block X (lt_of_heap h.tab)).trans h.tab, h.ne1, h.ne2⟩
theorem Lens.set {w : World} {R M X : Nat} {t : Tb} {k : Nat} {wr : World} (h : Lens w R M X t k wr) (hk : k < 274) : Lens w R M X t (k + 1) (wr.setCell ⟨M, k, none⟩ (.int .i64 (t.len (k : Int)))) :=
  ⟨h.below.setCell (p := ⟨M, k, none⟩) h.hM _, h.hR, h.hM, by rw [Below.heap_setCell _ _ _ _ h.ne1]; exact h.res, by rw [heap_setCell_same wr M k _ _ _ h.map, lnA_set t k hk], by rw [Below.heap_setCell _ _ _ _ h.ne2]; exact h.tab, h.ne1, h.ne2⟩
theorem lens_start (w : World) (t : Tb) : Lens w (w.heap.size + 1) (w.heap.size + 1 + 1) w.heap.size t 0 (((w.alloc (.cells #[.int .i64 t.l, .int .i64 t.m, .int .i64 t.n, .int .i64 t.f, .int .i64 t.b] 25)).alloc (.cells (lnA t 0) 78)).alloc (.cells (lnA t 0) 78)) := by
  have hb : Below w.heap.size w (((w.alloc (.cells #[.int .i64 t.l, .int .i64 t.m, .int .i64 t.n, .int .i64 t.f, .int .i64 t.b] 25)).alloc (.cells (lnA t 0) 78)).alloc (.cells (lnA t 0) 78)) := (((Below.refl _ _).alloc (Nat.le_refl _) _).alloc (by simp) _).alloc (by simp; omega) _
  refine ⟨hb, by omega, by omega, ?_, ?_, ?_, by omega, by omega⟩
  · rw [Below.heap_alloc _ _ _ (by simp)]
    have := heap_alloc_new (w.alloc (.cells #[.int .i64 t.l, .int .i64 t.m, .int .i64 t.n, .int .i64 t.f, .int .i64 t.b] 25)) (.cells (lnA t 0) 78)
    rw [World.size_alloc] at this
    exact this
  · have := heap_alloc_new ((w.alloc (.cells #[.int .i64 t.l, .int .i64 t.m, .int .i64 t.n, .int .i64 t.f, .int .i64 t.b] 25)).alloc (.cells (lnA t 0) 78)) (.cells (lnA t 0) 78)
    rw [World.size_alloc, World.size_alloc] at this
    exact this
  · rw [Below.heap_alloc _ _ _ (by simp; omega), Below.heap_alloc _ _ _ (by simp)]
    exact heap_alloc_new w _
set_option maxRecDepth 100000 in
set_option maxHeartbeats 2000000 in
theorem prices_any (t : Tb) (w : World) :
    Calls Tryz.prog 36 #[.agg #[.int .i64 t.l, .int .i64 t.m, .int .i64 t.n, .int .i64 t.f, .int .i64 t.b]] w fun x w' => x = .returned (.agg (lnA t 274)) ∧ Below w.heap.size w w' := by
  have HLN := Lib.hid (fun (n : Nat) W => Pc.length_any t (n : Int) W)
  go_enter Tryz.func36, Tryz.ntmps36
  go_upto_region 2 with (fail)
  rw [lnA_zero t]
  have HL0 : Hid (Lens w (w.heap.size + 1) (w.heap.size + 1 + 1) w.heap.size t 0 (((w.alloc (.cells #[.int .i64 t.l, .int .i64 t.m, .int .i64 t.n, .int .i64 t.f, .int .i64 t.b] 25)).alloc (.cells (lnA t 0) 78)).alloc (.cells (lnA t 0) 78))) := Lib.hid (lens_start w t)
  generalize ((w.alloc (.cells #[.int .i64 t.l, .int .i64 t.m, .int .i64 t.n, .int .i64 t.f, .int .i64 t.b] 25)).alloc (.cells (lnA t 0) 78)).alloc (.cells (lnA t 0) 78) = W3 at *
  generalize w.heap.size + 1 + 1 = M at *
  generalize w.heap.size + 1 = R at *
  generalize hXe : w.heap.size = X at *
  have HXE := Lib.hid hXe
  clear hXe
  go_wp2_with fail
  go_loopw [5] (fun i wr => ∃ k : Nat, k ≤ 274 ∧ i = .int .i64 (k : Int) ∧ Lens w R M X t k wr) (fun i _ => 274 - (intOf i).toNat)
  case atStart => exact ⟨0, by omega, rfl, HL0.out⟩
  case round =>
    clear HL0
    obtain ⟨k, hk, rfl, hL⟩ := hrel
    by_cases hlt : k < 274
    · obtain ⟨x0, x1, x2, x3, x4⟩ := five_of hL.tab
      have e1 : (k : Int) < 274 := by omega
      have e0 : (0 : Int) ≤ (k : Int) := by omega
      have HL := Lib.hid hL
      clear hL
      go_wp2_with fail
      refine (HLN.out k wr).mono ?_
      rintro x w4 ⟨rfl, hb4⟩
      have hL4 := HL.out.news hb4
      obtain ⟨c1, f1⟩ := ln_cell hL4.map k hlt
      have HN := Lib.hid (hL4.set hlt)
      clear hb4 hL4 HL x0 x1 x2 x3 x4
      generalize t.len (k : Int) = tl at *
      go_wp2_with fail
      go_roundw
      case rel => exact ⟨k + 1, by omega, by go_num, HN.out⟩
      case measure => simp [intOf]; omega
    · obtain rfl : k = 274 := by omega
      have HL := Lib.hid hL
      have hru := ln_range hL.map
      have htr := ln_there hL.res
      have hu := Tryz.underlying78
      have hi : (Tryz.prog.info? 78).map (·.size) = some (lnA t 274).toList.length := by rw [size274]; simp [lnA_size]
      have h1 := lnA_one t 274
      have hl : (lnA t 274).toList.length = 274 := by simp [lnA_size]
      clear hL
      generalize hcs : (lnA t 274).toList = cs at *
      have hsz : cs.toArray.size = 274 := by simp [← hcs, lnA_size]
      have hall : cs.toArray.all (·.oneCell') = true := by
        rw [Array.all_eq_true_iff_forall_mem]
        intro v hv
        exact h1 v (by simpa using hv)
      have HCS := Lib.hid hcs
      clear hcs
      go_wp2_with (first | refine wpList_load_mid rfl 78 (.tmp 3) rfl M 0 (by rfl) cs _ hru hu rfl hi ?_ | refine wpList_store_mid rfl 78 (.tmp 2) (.tmp 14) rfl R 0 cs.toArray (by rfl) (by rfl) (by rw [hsz]; exact htr) (by rw [hsz, size274]) hall ?_)
      exact prices_end HL.out.hR (Tryz.results36) rfl rfl HCS.out HL.out.res HL.out.below
end Go.Proofs.YtoneghmahdjgbaaGreat.Om
