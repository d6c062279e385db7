/-
  Package packet: the contract of Repeat.
-/
import Derived.Test.YtfpoabeihpfeiaaGreatPk09
import Derived.Test.YtfpoabeihpfeiaaGreatPk48
import Derived.Deep.MidRow
set_option maxRecDepth 100000
set_option maxHeartbeats 16000000
set_option linter.unusedVariables false
set_option linter.unusedSimpArgs false
open Go.Lib (hid)
namespace Go.Proofs.YtfpoabeihpfeiaaGreat.Pk
open Go.RowKit
def repL : List Pt -> Int -> Rp -> Rp -> List Pt
 | [], _, _, _ => []
 | p :: ps, hv, was, now => match p.fit hv was with
  | none => p :: repL ps hv was now
  | some (d, n, s) => if p.k = 2 \/ p.k = 3 then (now.retell d n).1 :: repL ps (hv + n) s (now.retell d n).2 else p :: repL ps (hv + n) s now
def OutAt (w : World) (Z n : Nat) (qs : List Pt) : Prop :=
 ∃ arr, w.heap[Z]? = some (.cells arr 37 (0, 0)) /\ arr.size = n * 4 /\ ∀ j (h : j < qs.length), arr[j * 4]? = some (.int .i64 qs[j].k) /\ arr[j * 4 + 1]? = some (.int .i64 qs[j].d) /\ arr[j * 4 + 2]? = some (.int .i64 qs[j].n) /\ arr[j * 4 + 3]? = some (.int .u8 (qs[j].b : Int))
theorem OutAt.set {w : World} {Z n : Nat} {qs : List Pt} (h : OutAt w Z n qs) {i : Nat} (hi : i <= qs.length) (hn : i < n) (q : Pt) :
  OutAt ((((w.setCell ⟨Z, i * 4, none⟩ (.int .i64 q.k)).setCell ⟨Z, i * 4 + 1, none⟩ (.int .i64 q.d)).setCell ⟨Z, i * 4 + 2, none⟩ (.int .i64 q.n)).setCell ⟨Z, i * 4 + 3, none⟩ (.int .u8 q.b)) Z n (qs.take i ++ [q]) := by
 obtain ⟨arr, h1, h2, h3⟩ := h
 refine ⟨_, set_heap (set_heap (set_heap (set_heap h1 _ _) _ _) _ _) _ _, by simp [h2], fun j hj => ?_⟩
 have hj' : j < i + 1 := by simp at hj; omega
 by_cases hji : j = i
 · subst hji
   have e : (qs.take j ++ [q])[j]'hj = q := by rw [List.getElem_append_right (by simp; omega)]; simp
   rw [e]
   refine ⟨?_, ?_, ?_, ?_⟩ <;> simp [Array.getElem?_setIfInBounds, h2] <;> omega
 · have e : (qs.take i ++ [q])[j]'hj = qs[j]'(by omega) := by rw [List.getElem_append_left (by simp; omega)]; simp
   rw [e]
   obtain ⟨g0, g1, g2, g3⟩ := h3 j (by omega)
   refine ⟨?_, ?_, ?_, ?_⟩
   · rw [Array.getElem?_setIfInBounds_ne (by omega), Array.getElem?_setIfInBounds_ne (by omega), Array.getElem?_setIfInBounds_ne (by omega), Array.getElem?_setIfInBounds_ne (by omega)]; exact g0
   · rw [Array.getElem?_setIfInBounds_ne (by omega), Array.getElem?_setIfInBounds_ne (by omega), Array.getElem?_setIfInBounds_ne (by omega), Array.getElem?_setIfInBounds_ne (by omega)]; exact g1
   · rw [Array.getElem?_setIfInBounds_ne (by omega), Array.getElem?_setIfInBounds_ne (by omega), Array.getElem?_setIfInBounds_ne (by omega), Array.getElem?_setIfInBounds_ne (by omega)]; exact g2
   · rw [Array.getElem?_setIfInBounds_ne (by omega), Array.getElem?_setIfInBounds_ne (by omega), Array.getElem?_setIfInBounds_ne (by omega), Array.getElem?_setIfInBounds_ne (by omega)]; exact g3
theorem OutAt.pts {w : World} {Z n : Nat} {qs : List Pt} (h : OutAt w Z n qs) (hb : ∀ q ∈ qs, q.b < 256) : IsPts w (some ⟨Z, 0, none⟩) qs := by
 obtain ⟨arr, h1, _, h3⟩ := h
 refine .inr ⟨Z, 0, rfl, fun j hj => ?_⟩
 obtain ⟨g0, g1, g2, g3⟩ := h3 j hj
 rw [Nat.zero_add]
 exact ⟨by simp [World.cell?, h1, g0], by simp [World.cell?, h1, g1], by simp [World.cell?, h1, g2], by simp [World.cell?, h1, g3], hb _ (List.getElem_mem hj)⟩
theorem OutAt.cells {w : World} {Z n : Nat} {qs : List Pt} (h : OutAt w Z n qs) {i : Nat} (hi : i < n) (c : Nat) (hc : c < 4) : (∃ v, w.cell? ⟨Z, i * 4 + c, none⟩ = some v) /\ w.frozen? ⟨Z, i * 4 + c, none⟩ = false := by
 obtain ⟨arr, h1, h2, _⟩ := h
 have hlt : i * 4 + c < arr.size := by omega
 exact ⟨⟨arr[i * 4 + c], by simp [World.cell?, h1, hlt]⟩, by simp [World.frozen?, h1]⟩
theorem OutAt.below {w w' : World} {Z n : Nat} {qs : List Pt} (h : OutAt w Z n qs) (hb : w'.heap[Z]? = w.heap[Z]?) : OutAt w' Z n qs := by
 obtain ⟨arr, h1, h2, h3⟩ := h
 exact ⟨arr, hb.trans h1, h2, h3⟩
theorem retell_b (r : Rp) (d n : Int) : (r.retell d n).1.b = 0 := by unfold Rp.retell; split <;> rfl
theorem infoPk : (Tryz.prog.info? 37).map (fun i => (i.zero, i.size, i.bytes)) = some (some (.agg #[.int .i64 0, .int .i64 0, .int .i64 0, .int .u8 0]), 4, 32) := by kernel_rfl
theorem make_any (n : Nat) (hn : n <= 1000) : ∃ arr : Array Value, arr.size = n * 4 /\ ∀ w, (Instr.makeSlice 28 (.int .i64 n) (.int .i64 n)).run Tryz.prog w = .ok (.slice (some ⟨w.heap.size, 0, none⟩) n n) (w.alloc (.cells arr 37)) := by
 obtain ⟨i0, hi, hz0, hz1, hz2⟩ := info_parts infoPk
 refine ⟨madeCells (Value.agg #[.int .i64 0, .int .i64 0, .int .i64 0, .int .u8 0]).cells (n * i0.size), by rw [size_madeCells, hz1], fun w => ?_⟩
 have := run_make (P := Tryz.prog) w 28 37 i0 (.agg #[.int .i64 0, .int .i64 0, .int .i64 0, .int .u8 0]) Tryz.underlying28 hi hz0 .i64 .i64 (n : Int) (n : Int) (by omega) (by omega) (by rw [hz2]; omega) (by omega)
 simp only [Int.toNat_natCast] at this
 exact this
structure ReLock (W w : World) (Z R Q n : Nat) (qs : List Pt) (was now : Rp) : Prop where
 below : Below W.heap.size W w
 hZ : W.heap.size <= Z
 hR : W.heap.size <= R
 hQ : W.heap.size <= Q
 ne1 : R ≠ Z
 ne2 : Q ≠ Z
 ne3 : R ≠ Q
 out : OutAt w Z n qs
 was : w.heap[R]? = some (.cells #[.int .i64 was.a, .int .i64 was.b, .int .i64 was.c, .int .i64 was.d] 70 (0, 0))
 now : w.heap[Q]? = some (.cells #[.int .i64 now.a, .int .i64 now.b, .int .i64 now.c, .int .i64 now.d] 70 (0, 0))
theorem OutAt.lt {w : World} {Z n : Nat} {qs : List Pt} (h : OutAt w Z n qs) : Z < w.heap.size := by
 obtain ⟨arr, h1, _⟩ := h
 exact lt_of_heap h1
theorem ReLock.news {W w w' : World} {Z R Q n : Nat} {qs : List Pt} {was now : Rp} (h : ReLock W w Z R Q n qs was now) (hb : Below w.heap.size w w') : ReLock W w' Z R Q n qs was now :=
 ⟨h.below.trans (hb.mono h.below.size), h.hZ, h.hR, h.hQ, h.ne1, h.ne2, h.ne3, h.out.below (hb.block Z h.out.lt), (hb.block R (lt_of_heap h.was)).trans h.was, (hb.block Q (lt_of_heap h.now)).trans h.now⟩
theorem ReLock.setOut {W w : World} {Z R Q n : Nat} {qs : List Pt} {was now : Rp} (h : ReLock W w Z R Q n qs was now) {i : Nat} (hi : i <= qs.length) (hn : i < n) (q : Pt) :
  ∃ W2, (((w.setCell ⟨Z, i * 4, none⟩ (.int .i64 q.k)).setCell ⟨Z, i * 4 + 1, none⟩ (.int .i64 q.d)).setCell ⟨Z, i * 4 + 2, none⟩ (.int .i64 q.n)).setCell ⟨Z, i * 4 + 3, none⟩ (.int .u8 q.b) = W2 /\ ReLock W W2 Z R Q n (qs.take i ++ [q]) was now /\ ∀ B, B ≠ Z -> W2.heap[B]? = w.heap[B]? := by
 have ho : ∀ B, B ≠ Z -> ((((w.setCell ⟨Z, i * 4, none⟩ (.int .i64 q.k)).setCell ⟨Z, i * 4 + 1, none⟩ (.int .i64 q.d)).setCell ⟨Z, i * 4 + 2, none⟩ (.int .i64 q.n)).setCell ⟨Z, i * 4 + 3, none⟩ (.int .u8 q.b)).heap[B]? = w.heap[B]? := fun B hB => by
  rw [set_other hB, set_other hB, set_other hB, set_other hB]
 exact ⟨_, rfl, ⟨(((h.below.setCell (p := ⟨Z, i * 4, none⟩) h.hZ _).setCell (p := ⟨Z, i * 4 + 1, none⟩) h.hZ _).setCell (p := ⟨Z, i * 4 + 2, none⟩) h.hZ _).setCell (p := ⟨Z, i * 4 + 3, none⟩) h.hZ _, h.hZ, h.hR, h.hQ, h.ne1, h.ne2, h.ne3, h.out.set hi hn q, (ho R h.ne1).trans h.was, (ho Q h.ne2).trans h.now⟩, ho⟩
theorem ReLock.setNow {W w : World} {Z R Q n : Nat} {qs : List Pt} {was now : Rp} (h : ReLock W w Z R Q n qs was now) (s : Rp) :
  ∃ W2, (((w.setCell ⟨Q, 0, none⟩ (.int .i64 s.a)).setCell ⟨Q, 1, none⟩ (.int .i64 s.b)).setCell ⟨Q, 2, none⟩ (.int .i64 s.c)).setCell ⟨Q, 3, none⟩ (.int .i64 s.d) = W2 /\ ReLock W W2 Z R Q n qs was s /\ ∀ B, B ≠ Q -> W2.heap[B]? = w.heap[B]? := by
 have ho : ∀ B, B ≠ Q -> ((((w.setCell ⟨Q, 0, none⟩ (.int .i64 s.a)).setCell ⟨Q, 1, none⟩ (.int .i64 s.b)).setCell ⟨Q, 2, none⟩ (.int .i64 s.c)).setCell ⟨Q, 3, none⟩ (.int .i64 s.d)).heap[B]? = w.heap[B]? := fun B hB => by
  rw [set_other hB, set_other hB, set_other hB, set_other hB]
 exact ⟨_, rfl, ⟨below_four h.below h.hQ _ _ _ _, h.hZ, h.hR, h.hQ, h.ne1, h.ne2, h.ne3, h.out.below (ho Z h.ne2.symm), (ho R h.ne3).trans h.was, four_heap h.now _ _ _ _⟩, ho⟩
theorem ReLock.setWas {W w : World} {Z R Q n : Nat} {qs : List Pt} {was now : Rp} (h : ReLock W w Z R Q n qs was now) (s : Rp) :
  ReLock W ((((w.setCell ⟨R, 0, none⟩ (.int .i64 s.a)).setCell ⟨R, 1, none⟩ (.int .i64 s.b)).setCell ⟨R, 2, none⟩ (.int .i64 s.c)).setCell ⟨R, 3, none⟩ (.int .i64 s.d)) Z R Q n qs s now := by
 have ho : ∀ B, B ≠ R -> ((((w.setCell ⟨R, 0, none⟩ (.int .i64 s.a)).setCell ⟨R, 1, none⟩ (.int .i64 s.b)).setCell ⟨R, 2, none⟩ (.int .i64 s.c)).setCell ⟨R, 3, none⟩ (.int .i64 s.d)).heap[B]? = w.heap[B]? := fun B hB => by
  rw [set_other hB, set_other hB, set_other hB, set_other hB]
 exact ⟨below_four h.below h.hR _ _ _ _, h.hZ, h.hR, h.hQ, h.ne1, h.ne2, h.ne3, h.out.below (ho Z h.ne1.symm), four_heap h.was _ _ _ _, (ho Q h.ne3.symm).trans h.now⟩
theorem OutAt.four {w : World} {Z n : Nat} {qs : List Pt} (h : OutAt w Z n qs) {i : Nat} (hi : i < n) :
  (∃ a b c d, w.cell? ⟨Z, i * 4, none⟩ = some a /\ w.cell? ⟨Z, i * 4 + 1, none⟩ = some b /\ w.cell? ⟨Z, i * 4 + 2, none⟩ = some c /\ w.cell? ⟨Z, i * 4 + 3, none⟩ = some d) /\ w.frozen? ⟨Z, i * 4, none⟩ = false /\ w.frozen? ⟨Z, i * 4 + 1, none⟩ = false /\ w.frozen? ⟨Z, i * 4 + 2, none⟩ = false /\ w.frozen? ⟨Z, i * 4 + 3, none⟩ = false := by
 obtain ⟨⟨a, ha⟩, f0⟩ := h.cells hi 0 (by omega)
 obtain ⟨⟨b, hb⟩, f1⟩ := h.cells hi 1 (by omega)
 obtain ⟨⟨c, hc⟩, f2⟩ := h.cells hi 2 (by omega)
 obtain ⟨⟨d, hd⟩, f3⟩ := h.cells hi 3 (by omega)
 exact ⟨⟨a, b, c, d, ha, hb, hc, hd⟩, f0, f1, f2, f3⟩
theorem OutAt.there {w : World} {Z n : Nat} {qs : List Pt} (h : OutAt w Z n qs) {i : Nat} (hi : i < n) : w.there Z (i * 4) 4 := by
 intro j hj
 obtain ⟨⟨v, hv⟩, hf⟩ := h.cells hi j hj
 exact ⟨by rw [hv]; rfl, hf⟩
theorem sizePk : (Tryz.prog.info? 37).map (·.size) = some 4 := by kernel_rfl
theorem wpList_store_pt {ops : Array Oper} {rest : List Oper} {op : Oper} {a : Act} {W w : World} {Ex : Exit -> Act -> World -> Prop} (hgd : op.guard = none) (x y : Operand) (ho : op.op = .store 37 x y)
  {Z R Q n i : Nat} {qs : List Pt} {was now : Rp} (h : ReLock W w Z R Q n qs was now) (hl : i <= qs.length) (hi : i < n) (q : Pt)
  (hx : a.eval x = .pointer (some ⟨Z, i * 4, none⟩)) (hy : a.eval y = .agg #[.int .i64 q.k, .int .i64 q.d, .int .i64 q.n, .int .u8 q.b])
  (hk : ∀ W2, ReLock W W2 Z R Q n (qs.take i ++ [q]) was now -> (∀ B, B ≠ Z -> W2.heap[B]? = w.heap[B]?) -> wpList Tryz.prog ops Ex rest (a.put op.dst undef) W2) : wpList Tryz.prog ops Ex (op :: rest) a w := by
 obtain ⟨W2, e, h2, h3⟩ := h.setOut hl hi q
 refine wpList_store_mid hgd _ x y ho Z (i * 4) _ hx hy (h.out.there hi) sizePk (by simp [Value.oneCell']) ?_
 have := hk W2 h2 h3
 rw [<- e] at this
 exact this
def ReAt (W : World) (Z R Q : Nat) (ps : List Pt) (k : Nat) (hv : Int) (w : World) : Prop :=
 ∃ qs was now, ReLock W w Z R Q ps.length qs was now /\ qs.length = k /\ was.pos /\ 0 <= hv /\ hv <= k * 273 /\ qs ++ repL (ps.drop k) hv was now = repL ps 0 ⟨1, 1, 1, 1⟩ ⟨1, 1, 1, 1⟩
set_option maxHeartbeats 40000000 in
theorem repeat_more {W : World} {ps : List Pt} {b off : Nat} (hc : ∀ i (h : i < ps.length), IsPt W b (off + i * 4) ps[i]) (hn : 0 < ps.length) (hl : ps.length <= 1000) (cap : Nat) :
  Calls Tryz.prog 11 #[.slice (some ⟨b, off, none⟩) ps.length cap] W fun x w' => ∃ Z, x = .returned (.slice (some ⟨Z, 0, none⟩) ps.length ps.length) /\ Below W.heap.size W w' /\ W.heap.size <= Z /\ OutAt w' Z ps.length (repL ps 0 ⟨1, 1, 1, 1⟩ ⟨1, 1, 1, 1⟩) := by
 have HC := hid hc
 have hbl : b < W.heap.size := World.block_lt_of_cell? _ _ (hc 0 hn).1
 clear hc
 obtain ⟨arr, harr, hmk⟩ := make_any ps.length hl
 have HAR := hid harr
 clear harr
 have HF1 := hid (show ∀ w1, Calls Tryz.prog 24 #[] w1 fun x w' => x = .returned (.agg #[.int .i64 1, .int .i64 1, .int .i64 1, .int .i64 1]) /\ Below w1.heap.size w1 w' from fun w1 => first_any w1)
 go_enter Tryz.func11, Tryz.ntmps11
 go_wp2_with fail
 have HO1 := hid (show OutAt (W.alloc (.cells arr 37)) W.heap.size ps.length [] from ⟨arr, heap_alloc_new _ _, HAR.out, fun j hj => by simp at hj⟩)
 have HB1 := hid ((Below.refl _ W).alloc (Nat.le_refl _) (.cells arr 37))
 generalize W.alloc (.cells arr 37) = W1 at *
 clear hmk HAR
 refine (HF1.out W1).mono ?_
 rintro x w2 ⟨rfl, hb2⟩
 have HO2 := hid (HO1.out.below (hb2.block _ HO1.out.lt))
 have HB2 := hid (bel_new hb2 HB1.out)
 clear hb2 HO1 HB1
 go_wp2_with fail
 refine (HF1.out w2).mono ?_
 rintro x w3 ⟨rfl, hb3⟩
 have HO3 := hid (HO2.out.below (hb3.block _ HO2.out.lt))
 have HB3 := hid (bel_new hb3 HB2.out)
 clear hb3 HO2 HB2 HF1
 go_wp2_with fail
 have HL0 : Hid (ReLock W ((w3.alloc (.cells #[.int .i64 1, .int .i64 1, .int .i64 1, .int .i64 1] 70)).alloc (.cells #[.int .i64 1, .int .i64 1, .int .i64 1, .int .i64 1] 70)) W.heap.size w3.heap.size (w3.heap.size + 1) ps.length [] ⟨1, 1, 1, 1⟩ ⟨1, 1, 1, 1⟩) := by
  have hz := HO3.out.lt
  have hs := HB3.out.size
  refine hid ⟨bel_alloc _ (bel_alloc _ HB3.out), Nat.le_refl _, hs, by omega, by omega, by omega, by omega, HO3.out.below ?_, ?_, ?_⟩
  · rw [Below.heap_alloc _ _ _ (by simp; omega), Below.heap_alloc _ _ _ (by omega)]
  · rw [Below.heap_alloc _ _ _ (by simp)]; exact heap_alloc_new _ _
  · have := heap_alloc_new (w3.alloc (.cells #[.int .i64 1, .int .i64 1, .int .i64 1, .int .i64 1] 70)) (.cells #[.int .i64 1, .int .i64 1, .int .i64 1, .int .i64 1] 70)
    rw [World.size_alloc] at this
    exact this
 clear HO3 HB3
 generalize (w3.alloc (.cells #[.int .i64 1, .int .i64 1, .int .i64 1, .int .i64 1] 70)).alloc (.cells #[.int .i64 1, .int .i64 1, .int .i64 1, .int .i64 1] 70) = W4 at *
 generalize w3.heap.size + 1 = Q at *
 generalize w3.heap.size = R at *
 generalize hZ : W.heap.size = Z at *
 go_loopw [4, 20] (fun h i wr => ∃ (k : Nat) (hv : Int), k <= ps.length /\ i = .int .i64 k /\ h = .int .i64 hv /\ ReAt W Z R Q ps k hv wr) (fun _ i _ => ps.length - (intOf i).toNat)
 case atStart => exact ⟨0, 0, by omega, rfl, rfl, _, _, _, HL0.out, rfl, by unfold Rp.pos; simp, by omega, by omega, by simp⟩
 case round =>
  clear HL0
  obtain ⟨k, hv, hk, rfl, rfl, qs, was, now, hL, hlen, hpos, hv0, hv1, hres⟩ := hrel
  by_cases hlt : k < ps.length
  · have HA := hid (show qs ++ repL (ps[k] :: ps.drop (k + 1)) hv was now = repL ps 0 ⟨1, 1, 1, 1⟩ ⟨1, 1, 1, 1⟩ from by rw [<- hres, List.drop_eq_getElem_cons hlt])
    have hpt := (HC.out k hlt).below (show Below W.heap.size W wr from hL.below)
    generalize ps[k] = p at *
    obtain ⟨p0, p1, p2, p3, hpb⟩ := hpt
    obtain ⟨⟨r0, r1, r2, r3⟩, _, hRl⟩ := four hL.was
    have HL := hid hL
    have HFT : Hid (∃ d n s, (∀ W' : World, Calls Tryz.prog 25 #[.agg #[.int .i64 p.k, .int .i64 p.d, .int .i64 p.n, .int .u8 p.b], .int .i64 hv, .agg #[.int .i64 was.a, .int .i64 was.b, .int .i64 was.c, .int .i64 was.d]] W' fun x w' => x = .returned (.tuple #[.int .i64 d, .int .i64 n, .agg #[.int .i64 s.a, .int .i64 s.b, .int .i64 s.c, .int .i64 s.d], .bool (p.fit hv was).isSome]) /\ Below W'.heap.size W' w') /\ ∀ x, p.fit hv was = some x -> x = (d, n, s)) := by
     obtain ⟨d, n, s, hf, hd⟩ := fit_form p hv was
     refine hid ⟨d, n, s, fun W' => ?_, hd⟩
     rw [<- hf]
     exact fits_any p hv was W'
    obtain ⟨d, n, s, hft, hd⟩ := HFT.out
    have HD := hid hd
    have HF := hid hft
    have hPR : wr.heap.size ≠ R := by omega
    have hPZ : wr.heap.size ≠ Z := by have := hL.out.lt; omega
    have hPQ : wr.heap.size ≠ Q := by have := lt_of_heap hL.now; omega
    clear hft hd HFT hL hres
    go_wp2_with fail
    refine (HF.out _).mono ?_
    rintro x w5 ⟨rfl, hb5⟩
    have HP5 := hid (alloc_kept hb5)
    have HL5 := hid ((HL.out.news ((Below.refl _ _).alloc (Nat.le_refl _) (.cells #[.int .i64 p.k, .int .i64 p.d, .int .i64 p.n, .int .u8 p.b] 37))).news hb5)
    clear hb5 HL HF p0 p1 p2 p3 r0 r1 r2 r3 hRl
    generalize wr.heap.size = P at *
    go_upto_region 8 with (fail)
    have HX6 := hid (heap_alloc_new w5 (.cells #[.int .i64 s.a, .int .i64 s.b, .int .i64 s.c, .int .i64 s.d] 70))
    have hXP : w5.heap.size ≠ P := by have := lt_of_heap HP5.out; omega
    have hXZ : w5.heap.size ≠ Z := by have := HL5.out.out.lt; omega
    have hXR : w5.heap.size ≠ R := by have := lt_of_heap HL5.out.was; omega
    have hXQ : w5.heap.size ≠ Q := by have := lt_of_heap HL5.out.now; omega
    have HP6 := hid ((Below.heap_alloc w5 (.cells #[.int .i64 s.a, .int .i64 s.b, .int .i64 s.c, .int .i64 s.d] 70) P (lt_of_heap HP5.out)).trans HP5.out)
    have HL6 := hid (HL5.out.news ((Below.refl _ _).alloc (Nat.le_refl _) (.cells #[.int .i64 s.a, .int .i64 s.b, .int .i64 s.c, .int .i64 s.d] 70)))
    clear HP5 HL5
    generalize w5.alloc (.cells #[.int .i64 s.a, .int .i64 s.b, .int .i64 s.c, .int .i64 s.d] 70) = W6 at *
    generalize w5.heap.size = X at *
    obtain ⟨⟨p0, p1, p2, p3⟩, _, hPl⟩ := four HP6.out
    obtain ⟨⟨z0, z1, z2, z3, c0, c1, c2, c3⟩, f0, f1, f2, f3⟩ := HL6.out.out.four hlt
    have HW := hid (HL6.out.setOut (i := k) (by omega) hlt p)
    go_upto_region 9 with (fail)
    obtain ⟨W7, hW7, hL7, ho7⟩ := HW.out
    rw [hW7]
    have HL7 := hid hL7
    have HP7 := hid ((ho7 P hPZ).trans HP6.out)
    have HX7 := hid ((ho7 X hXZ).trans HX6.out)
    clear hW7 hL7 ho7 HW HL6 HP6 HX6 p0 p1 p2 p3 hPl c0 c1 c2 c3 f0 f1 f2 f3 z0 z1 z2 z3
    cases hq : p.fit hv was with
    | none =>
     as_aux_lemma =>
     have HRES := hid (show (qs.take k ++ [p]) ++ repL (ps.drop (k + 1)) hv was now = repL ps 0 ⟨1, 1, 1, 1⟩ ⟨1, 1, 1, 1⟩ from by rw [<- HA.out, List.take_of_length_le (by omega), repL, hq]; simp)
     clear HA HD HP7 HX7
     simp only [Option.isSome_none]
     go_wp2
     refine ⟨⟨k + 1, hv, by omega, rfl, rfl, _, _, _, HL7.out, by simp; omega, hpos, hv0, by omega, HRES.out⟩, ?_⟩
     simp only [intOf]
     omega
    | some z =>
     as_aux_lemma =>
     obtain rfl := HD.out z hq
     simp only [Option.isSome_some]
     obtain ⟨hsp, hfs⟩ := fit_some hq hpos
     have hn0 : 0 <= n /\ n <= 273 := by omega
     have hQZ := HL7.out.ne2
     have hRZ := HL7.out.ne1
     have hRQ := HL7.out.ne3
     have HSP := hid hsp
     clear hsp
     have HRT : Hid (∃ q nw, now.retell d n = (q, nw) /\ q.b < 256 /\ ∀ W' : World, Calls Tryz.prog 26 #[.agg #[.int .i64 now.a, .int .i64 now.b, .int .i64 now.c, .int .i64 now.d], .int .i64 d, .int .i64 n] W' fun x w' => x = .returned (.tuple #[.agg #[.int .i64 q.k, .int .i64 q.d, .int .i64 q.n, .int .u8 q.b], .agg #[.int .i64 nw.a, .int .i64 nw.b, .int .i64 nw.c, .int .i64 nw.d]]) /\ Below W'.heap.size W' w') := hid ⟨(now.retell d n).1, (now.retell d n).2, rfl, by rw [retell_b]; omega, fun W' => by rw [retell_b]; exact retell_any now d n W'⟩
     have ew : IntKind.i64.wrap (hv + n) = hv + n := IntWalk.i64_in _ (by omega)
     by_cases hkk : p.k = 2 \/ p.k = 3
     · by_cases hk2 : p.k = 2
       · as_aux_lemma =>
         -- BEGIN armA
         have e1 : (p.k == 2) = true := by simpa using hk2
         obtain ⟨q, nw, hret, hqb, hrt⟩ := HRT.out
         have HRES := hid (show ((qs.take k ++ [p]).take k ++ [q]) ++ repL (ps.drop (k + 1)) (hv + n) s nw = repL ps 0 ⟨1, 1, 1, 1⟩ ⟨1, 1, 1, 1⟩ from by rw [<- HA.out, List.take_of_length_le (l := qs) (by omega), repL, hq]; simp only [if_pos hkk, hret]; rw [List.take_append_of_le_length (by omega), List.take_of_length_le (by omega)]; simp)
         have HRQ := hid hrt
         obtain ⟨⟨n0, n1, n2, n3⟩, _, _⟩ := four HL7.out.now
         obtain ⟨⟨p0, _, _, _⟩, _, _⟩ := four HP7.out
         clear HA HD HP7 hrt HRT
         go_wp2_with fail
         refine (HRQ.out _).mono ?_
         rintro x w8 ⟨rfl, hb8⟩
         have HX8 := hid ((hb8.block X (lt_of_heap HX7.out)).trans HX7.out)
         have HL8 := hid (HL7.out.news hb8)
         clear hb8 HL7 HX7 HRQ n0 n1 n2 n3 p0
         have hle : k <= (qs.take k ++ [p]).length := by simp; omega
         go_upto_region 12 with (refine wpList_store_pt rfl (.tmp 57) (.tmp 55) rfl HL8.out hle hlt q (by rfl) (by rfl) ?_; intro W9 hL9 ho9; obtain ⟨⟨n0, n1, n2, n3⟩, ⟨m0, m1, m2, m3⟩, hQl⟩ := four hL9.now; have HL9 := hid hL9; have HX9 := hid ((ho9 X hXZ).trans HX8.out); clear hL9 ho9)
         obtain ⟨W10, hW10, hL10, ho10⟩ := HL9.out.setNow nw
         rw [hW10]
         have HLC := hid hL10
         have HXC := hid ((ho10 X hXQ).trans HX9.out)
         clear hW10 hL10 ho10 HL9 HX9 HL8 HX8 n0 n1 n2 n3 m0 m1 m2 m3 hQl hle
         obtain ⟨⟨x0, x1, x2, x3⟩, _, _⟩ := four HXC.out
         obtain ⟨⟨r0, r1, r2, r3⟩, ⟨g0, g1, g2, g3⟩, hRl⟩ := four HLC.out.was
         have HEND := hid ((HLC.out.setWas s).news (bel_drew (Below.refl _ _)))
         clear HXC HLC
         go_wp2_with fail
         go_region
         all_goals
          go_wp2_with fail
          refine ⟨⟨k + 1, hv + n, by omega, rfl, rfl, _, _, _, HEND.out, by simp; omega, HSP.out, by omega, by omega, HRES.out⟩, ?_⟩
          simp only [intOf]
          omega
         -- END armA
       · as_aux_lemma =>
         -- BEGIN armB
         have e1 : (p.k == 2) = false := by simpa using hk2
         have e2 : (p.k == 3) = true := by simp; omega
         obtain ⟨q, nw, hret, hqb, hrt⟩ := HRT.out
         have HRES := hid (show ((qs.take k ++ [p]).take k ++ [q]) ++ repL (ps.drop (k + 1)) (hv + n) s nw = repL ps 0 ⟨1, 1, 1, 1⟩ ⟨1, 1, 1, 1⟩ from by rw [<- HA.out, List.take_of_length_le (l := qs) (by omega), repL, hq]; simp only [if_pos hkk, hret]; rw [List.take_append_of_le_length (by omega), List.take_of_length_le (by omega)]; simp)
         have HRQ := hid hrt
         obtain ⟨⟨n0, n1, n2, n3⟩, _, _⟩ := four HL7.out.now
         obtain ⟨⟨p0, _, _, _⟩, _, _⟩ := four HP7.out
         clear HA HD HP7 hrt HRT
         go_wp2_with fail
         refine (HRQ.out _).mono ?_
         rintro x w8 ⟨rfl, hb8⟩
         have HX8 := hid ((hb8.block X (lt_of_heap HX7.out)).trans HX7.out)
         have HL8 := hid (HL7.out.news hb8)
         clear hb8 HL7 HX7 HRQ n0 n1 n2 n3 p0
         have hle : k <= (qs.take k ++ [p]).length := by simp; omega
         go_upto_region 12 with (refine wpList_store_pt rfl (.tmp 57) (.tmp 55) rfl HL8.out hle hlt q (by rfl) (by rfl) ?_; intro W9 hL9 ho9; obtain ⟨⟨n0, n1, n2, n3⟩, ⟨m0, m1, m2, m3⟩, hQl⟩ := four hL9.now; have HL9 := hid hL9; have HX9 := hid ((ho9 X hXZ).trans HX8.out); clear hL9 ho9)
         obtain ⟨W10, hW10, hL10, ho10⟩ := HL9.out.setNow nw
         rw [hW10]
         have HLC := hid hL10
         have HXC := hid ((ho10 X hXQ).trans HX9.out)
         clear hW10 hL10 ho10 HL9 HX9 HL8 HX8 n0 n1 n2 n3 m0 m1 m2 m3 hQl hle
         obtain ⟨⟨x0, x1, x2, x3⟩, _, _⟩ := four HXC.out
         obtain ⟨⟨r0, r1, r2, r3⟩, ⟨g0, g1, g2, g3⟩, hRl⟩ := four HLC.out.was
         have HEND := hid ((HLC.out.setWas s).news (bel_drew (Below.refl _ _)))
         clear HXC HLC
         go_wp2_with fail
         go_region
         all_goals
          go_wp2_with fail
          refine ⟨⟨k + 1, hv + n, by omega, rfl, rfl, _, _, _, HEND.out, by simp; omega, HSP.out, by omega, by omega, HRES.out⟩, ?_⟩
          simp only [intOf]
          omega
         -- END armB
     · as_aux_lemma =>
       -- BEGIN armC
       have e1 : (p.k == 2) = false := by simp; omega
       have e2 : (p.k == 3) = false := by simp; omega
       have HRES := hid (show (qs.take k ++ [p]) ++ repL (ps.drop (k + 1)) (hv + n) s now = repL ps 0 ⟨1, 1, 1, 1⟩ ⟨1, 1, 1, 1⟩ from by rw [<- HA.out, List.take_of_length_le (l := qs) (by omega), repL, hq]; simp only [if_neg hkk]; simp)
       obtain ⟨⟨p0, _, _, _⟩, _, _⟩ := four HP7.out
       have HLC := HL7
       have HXC := HX7
       clear HA HD HP7 HRT HL7 HX7
       obtain ⟨⟨x0, x1, x2, x3⟩, _, _⟩ := four HXC.out
       obtain ⟨⟨r0, r1, r2, r3⟩, ⟨g0, g1, g2, g3⟩, hRl⟩ := four HLC.out.was
       have HEND := hid ((HLC.out.setWas s).news (bel_drew (Below.refl _ _)))
       clear HXC HLC
       go_wp2_with fail
       go_region
       all_goals
        go_wp2_with fail
        refine ⟨⟨k + 1, hv + n, by omega, rfl, rfl, _, _, _, HEND.out, by simp; omega, HSP.out, by omega, by omega, HRES.out⟩, ?_⟩
        simp only [intOf]
        omega
       -- END armC
  · as_aux_lemma =>
    obtain rfl : k = ps.length := by omega
    rw [List.drop_length] at hres
    have HRES := hid (show qs = repL ps 0 ⟨1, 1, 1, 1⟩ ⟨1, 1, 1, 1⟩ from by rw [<- hres]; simp [repL])
    have HL := hid hL
    clear hL hres
    go_wp2
    go_ret
    subst hZ
    exact ⟨_, rfl, HL.out.below, HL.out.hZ, by rw [<- HRES.out]; exact HL.out.out⟩
end Go.Proofs.YtfpoabeihpfeiaaGreat.Pk
