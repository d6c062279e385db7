/-
  Package optimal: the contract of Plain; slices.Reverse of packets.
-/
import Derived.Test.YtoneghmahdjgbaaGreatPk23
import Derived.RegionTactic
import Derived.BigRegion
set_option linter.unusedVariables false
set_option linter.unusedSimpArgs false
namespace Go.Proofs.YtoneghmahdjgbaaGreat.Om
open Go.RowKit
open Pc (Tb)
open Pk (Pt IsPts Rp)
open Mo (HeldP)
open Gr (size1 pktB psize_any ppacket_any two_cells)
open Ch (bt bt_at bt_lt)
/-- Packets in block g, of the colour 7. -/
structure PkAt (w : World) (O : Paint) (g n : Nat) (F : Nat → Pt) : Prop where
  col : O g = 7
  row : ∃ arr : Array Value, w.heap[g]? = some (.cells arr 33 (0, 0)) ∧ n * 4 ≤ arr.size ∧ ∀ e, e < n → arr[e * 4]? = some (.int .i64 (F e).k) ∧ arr[e * 4 + 1]? = some (.int .i64 (F e).d) ∧ arr[e * 4 + 2]? = some (.int .i64 (F e).n) ∧ arr[e * 4 + 3]? = some (.int .u8 ((F e).b : Int))
section
variable {cs : List Nat} {w w' : World} {O O' : Paint} {g n : Nat} {F : Nat → Pt}
theorem PkAt.lt (h : PkAt w O g n F) : g < w.heap.size := by
  obtain ⟨arr, h1, _⟩ := h.row
  exact lt_of_heap h1
theorem PkAt.step (h : PkAt w O g n F) (hs : Step cs w O w' O') (hc : 7 ∉ cs) : PkAt w' O' g n F := by
  obtain ⟨arr, h1, h2⟩ := h.row
  exact ⟨(hs.ext g h.lt).trans h.col, arr, (hs.block h.lt (by rw [h.col]; exact hc)).trans h1, h2⟩
theorem PkAt.cells (h : PkAt w O g n F) {e : Nat} (he : e < n) : (w.cell? ⟨g, e * 4, none⟩ = some (.int .i64 (F e).k) ∧ w.cell? ⟨g, e * 4 + 1, none⟩ = some (.int .i64 (F e).d) ∧ w.cell? ⟨g, e * 4 + 2, none⟩ = some (.int .i64 (F e).n) ∧ w.cell? ⟨g, e * 4 + 3, none⟩ = some (.int .u8 ((F e).b : Int))) ∧ w.frozen? ⟨g, e * 4, none⟩ = false ∧ w.frozen? ⟨g, e * 4 + 1, none⟩ = false ∧ w.frozen? ⟨g, e * 4 + 2, none⟩ = false ∧ w.frozen? ⟨g, e * 4 + 3, none⟩ = false := by
  obtain ⟨arr, h1, h2, h3⟩ := h.row
  obtain ⟨a, b, c, d⟩ := h3 e he
  exact ⟨⟨by simp [World.cell?, h1, a], by simp [World.cell?, h1, b], by simp [World.cell?, h1, c], by simp [World.cell?, h1, d]⟩, by simp [World.frozen?, h1], by simp [World.frozen?, h1], by simp [World.frozen?, h1], by simp [World.frozen?, h1]⟩
theorem PkAt.one (h : PkAt w O g n F) {i : Nat} (hi : i < n) (p : Pt) :
    PkAt ((((w.setCell ⟨g, i * 4, none⟩ (.int .i64 p.k)).setCell ⟨g, i * 4 + 1, none⟩ (.int .i64 p.d)).setCell ⟨g, i * 4 + 2, none⟩ (.int .i64 p.n)).setCell ⟨g, i * 4 + 3, none⟩ (.int .u8 (p.b : Int))) O g n (fun x => if x = i then p else F x) ∧
    Step [7] w O ((((w.setCell ⟨g, i * 4, none⟩ (.int .i64 p.k)).setCell ⟨g, i * 4 + 1, none⟩ (.int .i64 p.d)).setCell ⟨g, i * 4 + 2, none⟩ (.int .i64 p.n)).setCell ⟨g, i * 4 + 3, none⟩ (.int .u8 (p.b : Int))) O := by
  have hc : O g ∈ [7] := by simp [h.col]
  refine ⟨⟨h.col, ?_⟩, ((((Step.refl [7] w O).setCell (p := ⟨g, i * 4, none⟩) (.inl hc) _).setCell (p := ⟨g, i * 4 + 1, none⟩) (.inl hc) _).setCell (p := ⟨g, i * 4 + 2, none⟩) (.inl hc) _).setCell (p := ⟨g, i * 4 + 3, none⟩) (.inl hc) _⟩
  obtain ⟨arr, h1, h2, h3⟩ := h.row
  refine ⟨_, heap_setCell_same _ _ _ _ _ _ (heap_setCell_same _ _ _ _ _ _ (heap_setCell_same _ _ _ _ _ _ (heap_setCell_same _ _ _ _ _ _ h1))), by simp [h2], fun j hj => ?_⟩
  by_cases hji : j = i
  · subst hji
    rw [if_pos rfl]
    refine ⟨?_, ?_, ?_, ?_⟩ <;> simp [Array.getElem?_setIfInBounds] <;> omega
  · rw [if_neg hji]
    obtain ⟨g0, g1, g2, g3⟩ := h3 j hj
    refine ⟨?_, ?_, ?_, ?_⟩
    · rw [Array.getElem?_setIfInBounds_ne (by omega), Array.getElem?_setIfInBounds_ne (by omega), Array.getElem?_setIfInBounds_ne (by omega), Array.getElem?_setIfInBounds_ne (by omega)]; exact g0
    · rw [Array.getElem?_setIfInBounds_ne (by omega), Array.getElem?_setIfInBounds_ne (by omega), Array.getElem?_setIfInBounds_ne (by omega), Array.getElem?_setIfInBounds_ne (by omega)]; exact g1
    · rw [Array.getElem?_setIfInBounds_ne (by omega), Array.getElem?_setIfInBounds_ne (by omega), Array.getElem?_setIfInBounds_ne (by omega), Array.getElem?_setIfInBounds_ne (by omega)]; exact g2
    · rw [Array.getElem?_setIfInBounds_ne (by omega), Array.getElem?_setIfInBounds_ne (by omega), Array.getElem?_setIfInBounds_ne (by omega), Array.getElem?_setIfInBounds_ne (by omega)]; exact g3
end
/-- The first k and the last k have changed their places. -/
def revK (G : Nat → Pt) (n k : Nat) : Nat → Pt := fun x => if x < n ∧ (x < k ∨ n - k ≤ x) then G (n - 1 - x) else G x
theorem revK_zero (G : Nat → Pt) (n : Nat) : revK G n 0 = G := by
  funext x
  unfold revK
  rw [if_neg (by omega)]
theorem revK_next (G : Nat → Pt) {n k j : Nat} (h : k < j) (hj : j + k + 1 = n) : (fun x => if x = j then revK G n k k else if x = k then revK G n k j else revK G n k x) = revK G n (k + 1) := by
  funext x
  unfold revK
  by_cases h1 : x = j
  · subst h1
    rw [if_pos rfl, if_pos (show x < n ∧ (x < k + 1 ∨ n - (k + 1) ≤ x) by omega), if_neg (show ¬ (k < n ∧ (k < k ∨ n - k ≤ k)) by omega), show n - 1 - x = k from by omega]
  · rw [if_neg h1]
    by_cases h2 : x = k
    · subst h2
      rw [if_pos rfl, if_pos (show x < n ∧ (x < x + 1 ∨ n - (x + 1) ≤ x) by omega), if_neg (show ¬ (j < n ∧ (j < x ∨ n - x ≤ j)) by omega), show n - 1 - x = j from by omega]
    · rw [if_neg h2]
      by_cases h3 : x < n ∧ (x < k ∨ n - k ≤ x)
      · rw [if_pos h3, if_pos (show x < n ∧ (x < k + 1 ∨ n - (k + 1) ≤ x) by omega)]
      · rw [if_neg h3, if_neg (show ¬ (x < n ∧ (x < k + 1 ∨ n - (k + 1) ≤ x)) by omega)]
theorem revK_end (G : Nat → Pt) {n k : Nat} (h : n ≤ 2 * k + 1) (hk : k ≤ n) : revK G n k = fun x => if x < n then G (n - 1 - x) else G x := by
  funext x
  unfold revK
  by_cases h1 : x < n
  · rw [if_pos h1]
    by_cases h2 : x < n ∧ (x < k ∨ n - k ≤ x)
    · rw [if_pos h2]
    · rw [if_neg h2, show n - 1 - x = x from by omega]
  · rw [if_neg h1, if_neg (by omega)]
set_option maxRecDepth 100000 in
set_option maxHeartbeats 4000000 in
theorem reverse_any {w : World} {O : Paint} {g n : Nat} {G : Nat → Pt} (h : PkAt w O g n G) (hn : n ≤ 1000000) (cap : Nat) :
    Calls Tryz.prog 18 #[.slice (some ⟨g, 0, none⟩) n cap] w fun x w' => x = .returned (.tuple #[]) ∧ Step [7] w O w' O ∧ PkAt w' O g n (fun x => if x < n then G (n - 1 - x) else G x) := by
  have H := Lib.hid h
  clear h
  go_enter Tryz.func18, Tryz.ntmps18
  go_wp2_with fail
  go_loopw [2, 3] (fun i j wr => ∃ k : Nat, k ≤ n ∧ i = .int .i64 (k : Int) ∧ j = .int .i64 ((n : Int) - 1 - k) ∧ Step [7] w O wr O ∧ PkAt wr O g n (revK G n k)) (fun i _ _ => n + 1 - (intOf i).toNat)
  case atStart => exact ⟨0, Nat.zero_le _, rfl, by go_num, Step.refl _ _ _, by rw [revK_zero]; exact H.out⟩
  case round =>
    obtain ⟨k, hk, rfl, rfl, hs, hP⟩ := hrel
    clear H
    by_cases hlt : 2 * k + 1 < n
    · obtain ⟨j, hj⟩ : ∃ j, j = n - 1 - k := ⟨_, rfl⟩
      have hj1 : j + k + 1 = n := by omega
      have hj2 : k < j := by omega
      have HNX := Lib.hid (revK_next G hj2 hj1)
      have e0 : (n : Int) - 1 - (k : Int) = (j : Int) := by omega
      rw [e0]
      generalize revK G n k = F at *
      obtain ⟨⟨a0, a1, a2, a3⟩, af0, af1, af2, af3⟩ := hP.cells (show k < n by omega)
      obtain ⟨⟨b0, b1, b2, b3⟩, bf0, bf1, bf2, bf3⟩ := hP.cells (show j < n by omega)
      have hP1 := (hP.one (show k < n by omega) (F j))
      have hP2 := (hP1.1.one (show j < n by omega) (F k))
      have HP2 := Lib.hid (And.intro hP2.1 ((hs.trans hP1.2).trans hP2.2))
      have c0 : (0 : Int) ≤ (k : Int) := by omega
      have c1 : (k : Int) < (n : Int) := by omega
      have c2 : (k : Int).toNat = k := rfl
      have d0 : (0 : Int) ≤ (j : Int) := by omega
      have d1 : (j : Int) < (n : Int) := by omega
      have d2 : (j : Int).toNat = j := rfl
      have d3 : (k : Int) < (j : Int) := by omega
      have d4 : k * 4 ≠ j * 4 := by omega
      clear hP hP1 hP2 hs hj e0
      go_upto_region 3 with (fail)
      go_region
      generalize (((((((wr.setCell ⟨g, k * 4, none⟩ (.int .i64 (F j).k)).setCell ⟨g, k * 4 + 1, none⟩ (.int .i64 (F j).d)).setCell ⟨g, k * 4 + 2, none⟩ (.int .i64 (F j).n)).setCell ⟨g, k * 4 + 3, none⟩ (.int .u8 ((F j).b : Int))).setCell ⟨g, j * 4, none⟩ (.int .i64 (F k).k)).setCell ⟨g, j * 4 + 1, none⟩ (.int .i64 (F k).d)).setCell ⟨g, j * 4 + 2, none⟩ (.int .i64 (F k).n)).setCell ⟨g, j * 4 + 3, none⟩ (.int .u8 ((F k).b : Int)) = w8 at *
      clear a0 a1 a2 a3 af0 af1 af2 af3 b0 b1 b2 b3 bf0 bf1 bf2 bf3
      have HP3 := Lib.hid (HP2.out.1.step (Step.refl [] w8 O).drew (by simp))
      have HS3 := Lib.hid (HP2.out.2.drew)
      clear HP2
      go_wp2_with fail
      go_roundw
      case rel => exact ⟨k + 1, by omega, by go_num, by go_num, HS3.out, by rw [← HNX.out]; exact HP3.out⟩
      case measure => simp [intOf]; omega
    · rw [revK_end G (by omega) hk] at hP
      have HP := Lib.hid (And.intro hs hP)
      have d3 : ¬ (k : Int) < (n : Int) - 1 - (k : Int) := by omega
      clear hs hP
      go_wp2_with fail
      first | go_end0 | (simp only [Exit.inBlock, Exit.then]; refine bodyPost_ret (results_none rfl _ _ _) rfl ?_) | refine bodyPost_ret (results_none rfl _ _ _) rfl ?_
      exact ⟨rfl, HP.out.1, HP.out.2⟩
theorem reverse_nil (a : Option Addr) (cap : Nat) (w : World) :
    Calls Tryz.prog 18 #[.slice a 0 cap] w fun x w' => x = .returned (.tuple #[]) ∧ w = w' := by
  go_enter Tryz.func18, Tryz.ntmps18
  go_wp2_with fail
  go_loopw [2, 3] (fun i j wr => i = .int .i64 0 ∧ j = .int .i64 (-1) ∧ wr = w) (fun _ _ _ => 0)
  case atStart => exact ⟨rfl, rfl, rfl⟩
  case round =>
    obtain ⟨rfl, rfl, rfl⟩ := hrel
    go_wp2_with fail
    first | go_end0 | (simp only [Exit.inBlock, Exit.then]; refine bodyPost_ret (results_none rfl _ _ _) rfl ?_) | refine bodyPost_ret (results_none rfl _ _ _) rfl ?_
    exact ⟨rfl, rfl⟩
/-- A kept list, told by the places. -/
theorem pk_of {w : World} {O : Paint} {v : Value} {l : List Pt} (h : HeldP w O 7 v l) (hn : l ≠ []) (d : Pt) : ∃ g cap, v = .slice (some ⟨g, 0, none⟩) l.length cap ∧ PkAt w O g l.length (fun i => l.getD i d) := by
  rcases h.row.2 with ⟨_, h2⟩ | ⟨g, cap, cur, e1, _, hg, hnc, hcm, hcs, htake⟩
  · exact absurd (List.eq_nil_of_length_eq_zero h2) hn
  · have e1' := e1
    subst e1
    refine ⟨g, cap, rfl, ⟨h.paint g rfl, cur, hg, by rw [hcs]; omega, fun i hi => ?_⟩⟩
    obtain ⟨k0, k1, k2, k3⟩ := Pl.flatP_at l i hi
    have key : ∀ j x, (Pl.flatP l)[j]? = some x → cur[j]? = some x := fun j x hx => by
      have hj : j < (Pl.flatP l).length := (List.getElem?_eq_some_iff.1 hx).1
      rw [Pl.flatP_length] at hj
      have := World.ownsRow.cellAt h.row j hj
      rw [hx] at this
      simpa [World.cell?, hg] using this
    rw [show l.getD i d = l[i] from by rw [List.getD_eq_getElem?_getD, List.getElem?_eq_getElem hi]; rfl]
    exact ⟨key _ _ k0, key _ _ k1, key _ _ k2, key _ _ k3⟩
theorem backK_step (F : Nat → Wy) (s : ByteArray) {k e : Nat} (he : 0 < e) : backK F s (k + 1) e = pktB (bt s (e - size1 (F e).2)) (F e).2 :: backK F s k (e - size1 (F e).2) := by rw [backK, if_pos he]
theorem backK_end (F : Nat → Wy) (s : ByteArray) (k : Nat) : backK F s k 0 = [] := by cases k <;> rfl
/-- The ways and a list of packets, since w0. -/
structure PlAt (w0 w : World) (O : Paint) (g N : Nat) (F : Nat → Wy) (v : Value) (l : List Pt) : Prop where
  below : Below w0.heap.size w0 w
  clear : Clear w0.heap.size O
  ways : WaysAt w O g N F
  held : HeldP w O 7 v l
section
variable {cs : List Nat} {w0 w w' : World} {O O' : Paint} {g N : Nat} {F : Nat → Wy} {v : Value} {l : List Pt}
theorem PlAt.step (h : PlAt w0 w O g N F v l) (hs : Step cs w O w' O') (h0 : 0 ∉ cs) (h2 : 2 ∉ cs) (h7 : 7 ∉ cs) : PlAt w0 w' O' g N F v l :=
  ⟨h.clear.below hs h0 h.below.size h.below, h.clear.step hs h.below.size, h.ways.step hs h2, h.held.step hs h7⟩
theorem PlAt.idle (h : PlAt w0 w O g N F v l) (hs : Step [] w O w' O') : PlAt w0 w' O' g N F v l := h.step hs (by simp) (by simp) (by simp)
theorem PlAt.more {o : Obj} {gg n cap : Nat} {q : Pt} (h : PlAt w0 w O g N F v l) (hn : l.length = n) (hr : w'.ownsRow 0 33 4 (.slice (some ⟨gg, 0, none⟩) (n + 1) cap) (n + 1) (Pl.flatP l ++ [.int .i64 q.k, .int .i64 q.d, .int .i64 q.n, .int .u8 (q.b : Int)])) (hg : (w.alloc o).grownBy w' v.ownBlock) (hm : Moved (w.alloc o) v (.slice (some ⟨gg, 0, none⟩) (n + 1) cap)) :
    PlAt w0 w' (Step.paint O w 7) g N F (.slice (some ⟨gg, 0, none⟩) (n + 1) cap) (l ++ [q]) ∧ Step [7] w O w' (Step.paint O w 7) := by
  obtain ⟨hs, hh⟩ := h.held.more hn hr hg hm
  exact ⟨⟨h.clear.below hs (by simp) h.below.size h.below, h.clear.step hs h.below.size, h.ways.step hs (by simp), hh⟩, hs⟩
end
/-- A list of packets was handed back. -/
def TellsL (w : World) (qs : List Pt) (x : Ending) (w' : World) : Prop := ∃ A cap, x = .returned (.slice A qs.length cap) ∧ Below w.heap.size w w' ∧ IsPts w' A qs
set_option maxRecDepth 100000 in
set_option maxHeartbeats 4000000 in
theorem plain_any (s : ByteArray) (hs : s.size ≤ 1000) (window : Int) (hw0 : -9223372036854775808 ≤ window) (hw1 : window ≤ 9223372036854775807) (t : Tb) (ht : t.good = true) (w : World) :
    Calls Tryz.prog 6 #[.string s, .int .i64 window, .agg #[.int .i64 t.l, .int .i64 t.m, .int .i64 t.n, .int .i64 t.f, .int .i64 t.b]] w (TellsL w (plainL t s (min window 1048576))) := by
  obtain ⟨W, hW⟩ : ∃ W, W = min window 1048576 := ⟨_, rfl⟩
  rw [← hW]
  have HCH := Lib.hid (fun (W1 : World) => cheapest_any s hs window hw0 hw1 W hW t ht W1)
  have HEN := Lib.hid (fun (e : Nat) (h1 : 1 ≤ e) (h2 : e ≤ s.size) => ways_end (s := s) (W := W) ht (show s.size ≤ 1048576 by omega) h1 h2)
  have HGD := Lib.hid (back_good (s := s) (W := W) ht (show s.size ≤ 1048576 by omega) s.size s.size (Nat.le_refl _) (Nat.le_refl _))
  have HPL : Hid (plainL t s W = (backK (ways t s W s.size) s s.size s.size).reverse) := Lib.hid rfl
  have hb1 : Below w.heap.size w (w.alloc (.cells #[.int .i64 t.l, .int .i64 t.m, .int .i64 t.n, .int .i64 t.f, .int .i64 t.b] 25)) := (Below.refl _ _).alloc (Nat.le_refl _) _
  have hx := five_of (heap_alloc_new w (.cells #[.int .i64 t.l, .int .i64 t.m, .int .i64 t.n, .int .i64 t.f, .int .i64 t.b] 25))
  have HB1 := Lib.hid hb1
  clear hb1 hW
  go_enter Tryz.func6, Tryz.ntmps6
  go_upto_region 1 with (fail)
  generalize w.alloc (.cells #[.int .i64 t.l, .int .i64 t.m, .int .i64 t.n, .int .i64 t.f, .int .i64 t.b] 25) = w1 at *
  obtain ⟨x0, x1, x2, x3, x4⟩ := hx
  go_wp2_with fail
  refine (HCH.out w1).mono ?_
  rintro x w2 ⟨g, O2, rfl, hb2, hcl2, hw2⟩
  have HL0 : Hid (PlAt w w2 O2 g (s.size + 1) (ways t s W s.size) (.slice none 0 0) []) := Lib.hid ⟨HB1.out.trans (hb2.mono HB1.out.size), fun k hk => hcl2 k (Nat.lt_of_lt_of_le hk HB1.out.size), hw2, HeldP.nil _ _ _⟩
  clear hb2 hcl2 hw2 HB1 x0 x1 x2 x3 x4 HCH
  generalize hFe : ways t s W s.size = F at *
  have HFE := Lib.hid hFe
  clear hFe
  go_wp2_with fail
  go_loopw [8, 9] (fun v i wr => ∃ (k e : Nat) (l : List Pt) (O : Paint), e ≤ k ∧ e ≤ s.size ∧ i = .int .i64 (e : Int) ∧ PlAt w wr O g (s.size + 1) F v l ∧ l ++ backK F s k e = backK F s s.size s.size ∧ l.length + e ≤ s.size) (fun _ i _ => (intOf i).toNat)
  case atStart => exact ⟨s.size, s.size, [], O2, Nat.le_refl _, Nat.le_refl _, rfl, HL0.out, rfl, by simp⟩
  case round =>
    clear HL0
    obtain ⟨k, e, l, O, hek, hes, rfl, hL, hE, hll⟩ := hrel
    rename World => wo
    by_cases hlt : 0 < e
    · obtain ⟨x, hx, hxe, hw⟩ := HEN.out e hlt hes
      have hpos := hx.pos
      obtain ⟨kk, rfl⟩ : ∃ kk, k = kk + 1 := ⟨k - 1, by omega⟩
      have hFx : (F e).2 = x := by rw [hw]
      rw [backK_step F s hlt, hFx] at hE
      obtain ⟨⟨c0, c1, c2⟩, f0, f1, f2⟩ := hL.ways.cells (show e < s.size + 1 by omega)
      rw [hFx] at c1 c2
      obtain ⟨q, hq⟩ : ∃ q, q = e - size1 x := ⟨_, rfl⟩
      rw [← hq] at hE
      have hqs : q < s.size := by omega
      have HSZ := Lib.hid (fun W => psize_any x W)
      have HPK := Lib.hid (fun W => ppacket_any (bt s q) x W)
      have hbk := bt_at hqs
      rw [← hbk] at HPK hE
      have HE := Lib.hid hE
      have HL := Lib.hid hL
      have hsz : (e : Int) - (size1 x : Int) = (q : Int) := by omega
      have hqe : q < e := by omega
      have hqk : q ≤ kk := by omega
      clear hL hE hx hxe hw hpos hFx hbk hq f0 f1 f2 c0
      generalize x.1 = xn at *
      generalize x.2 = xd at *
      generalize size1 x = sz at *
      generalize pktB s[q].toNat x = pk at *
      have e0 : (0 : Int) < (e : Int) := by omega
      have e00 : (0 : Int) ≤ (e : Int) := by omega
      have e01 : (e : Int) < (s.size : Int) + 1 := by omega
      have e02 : (e : Int).toNat = e := rfl
      go_upto_region 6 with (fail)
      have hs4 := Step.alloc_paint wo O 5 (.cells #[.int .i64 (xn : Int), .int .i64 (xd : Int)] 46)
      have HX4 := Lib.hid (Blk.new wo O 5 (.cells #[.int .i64 (xn : Int), .int .i64 (xd : Int)] 46))
      have HL4 := Lib.hid (HL.out.idle hs4)
      clear hs4 HL c1 c2
      generalize wo.alloc (.cells #[.int .i64 (xn : Int), .int .i64 (xd : Int)] 46) = w4 at *
      generalize wo.heap.size = X at *
      generalize Step.paint O wo 5 = O4 at *
      obtain ⟨⟨x0, x1⟩, _, _, _⟩ := two_cells HX4.out.1
      go_wp2_with fail
      refine (HSZ.out w4).mono ?_
      rintro z w5 ⟨rfl, hb5⟩
      have hs5 := Step.of_below_same hb5 O4
      have HX5 := Lib.hid (HX4.out.step hs5 (by simp))
      have HL5 := Lib.hid (HL4.out.idle hs5)
      clear hs5 hb5 HSZ HX4 HL4 x0 x1
      have d1 : IntKind.i64.wrap ((e : Int) - (sz : Int)) = (q : Int) := by rw [IntKind.wrap_i64]; omega
      have d2 : wrap64 ((e : Int) - (sz : Int)) = (q : Int) := by unfold wrap64; omega
      go_upto_region 7 with (fail)
      clear d1 d2 e0 e00 e01 e02
      have e1 : (0 : Int) ≤ (q : Int) := by omega
      have e2 : (q : Int) < (s.size : Int) := by omega
      have e3 : (q : Int).toNat = q := rfl
      have HS : Hid (∀ W', (∃ O', Step [7] w5 O4 W' O') → (∃ O', Step [7] w5 O4 W' O') ∧ (W'.cell? ⟨X, 0, none⟩ = some (.int .i64 (xn : Int)) ∧ W'.cell? ⟨X, 1, none⟩ = some (.int .i64 (xd : Int)))) := Lib.hid (fun W' h => by
        obtain ⟨O', hq⟩ := h
        exact ⟨⟨O', hq⟩, (two_cells (HX5.out.step hq (by simp)).1).1⟩)
      have HR : Hid (∀ W, Below w5.heap.size w5 W → W.ownsRow 0 33 4 u8 l.length (Pl.flatP l)) := Lib.hid (fun W hb => (HL5.out.idle (Step.of_below_same hb O4)).held.row)
      have HRC : Hid (∀ k, u8.ownBlock = some k → O4 k ∈ [7]) := Lib.hid (fun k hk => by rw [HL5.out.held.paint k hk]; simp)
      have S0 : ∃ O', Step [7] w5 O4 w5.drew O' := ⟨O4, (Step.refl _ _ _).drew⟩
      obtain ⟨i0, hi, hz0, hz1, hz2⟩ := info_parts Pl.infoPk
      have hm1 : l.length + 1 ≤ maxLen := by unfold maxLen; omega
      have hm2 : (l.length + 1) * 32 ≤ 140737488355328 := by omega
      go_region_held3 (fun W' => (∃ O', Step [7] w5 O4 W' O') ∧ (W'.cell? ⟨X, 0, none⟩ = some (.int .i64 (xn : Int)) ∧ W'.cell? ⟨X, 1, none⟩ = some (.int .i64 (xd : Int)))) ((refine HS.out _ ?_; first | assumption | exact Mo.qal _ (by assumption))) (first | (go_at_call 17; (with_reducible refine (HPK.out _).mono ?_); rintro x w6 ⟨rfl, hb6⟩; have hq6 := Mo.qbel S0 hb6; unfold Pt.val) | (refine Mo.step_append_pt _ rfl (.tmp 28) (.tmp 34) 26 rfl 33 i0 (.agg #[.int .i64 0, .int .i64 0, .int .i64 0, .int .u8 0]) 4 32 Tryz.underlying26 hi hz0 hz1 hz2 rfl (by decide) u8 l.length _ rfl (HR.out _ (Pk.bel_alloc _ (Pk.bel_new hb6 (Pk.bel_drew (Below.refl _ _))))) ⟨w6.heap.size, 0, none⟩ 1 1 (by decide) [.int .i64 pk.k, .int .i64 pk.d, .int .i64 pk.n, .int .u8 (pk.b : Int)] rfl rfl (Pl.pt_news (heap_alloc_new _ _)) (Pl.pt_one _ _ _ _) hm1 hm2 ?_; intro g7 cap7 w7 hown7 hgr7 hmv7; have hq7 := Mo.qgrow (Mo.qal _ hq6) hgr7 HRC.out))
      have hb56 := Pk.bel_new hb6 (Pk.bel_drew (Below.refl w5.heap.size w5))
      have hL6 := HL5.out.idle (Step.of_below_same hb56 O4)
      obtain ⟨hL7, hs7⟩ := hL6.more rfl hown7 hgr7 hmv7
      have HL7 := Lib.hid hL7
      clear hb56 hL6 hs7 hb6 hq6 hown7 hgr7 hmv7 hq7 S0 HS HR HRC HL5 HPK hi hz0 hz1 hz2 hL7
      go_wp2_with fail
      go_roundw
      case rel => exact ⟨kk, q, l ++ [pk], _, hqk, by omega, rfl, HL7.out, by rw [← HE.out]; simp, by simp; omega⟩
      case measure => simp [intOf]; omega
    · obtain rfl : e = 0 := by omega
      rw [backK_end, List.append_nil] at hE
      rw [← hE] at HPL HGD
      have hlen : l.length ≤ s.size := by omega
      by_cases hn : l = []
      · subst hn
        obtain ⟨A, cap, rfl⟩ := hL.held.slice
        have HRV := Lib.hid (reverse_nil A cap wo)
        have HB := Lib.hid hL.below
        clear hL hE
        go_wp2_with fail
        refine HRV.out.mono ?_
        rintro z w9 ⟨rfl, rfl⟩
        go_wp2_with fail
        go_ret
        rw [HPL.out]
        exact ⟨A, cap, rfl, HB.out, .inl rfl⟩
      · obtain ⟨gg, cap, rfl, hpk⟩ := pk_of hL.held hn ⟨0, 0, 0, 0⟩
        have HRV := Lib.hid (reverse_any hpk (by omega) cap)
        have HB := Lib.hid hL.below
        have HCL := Lib.hid hL.clear
        clear hL hE hpk
        go_wp2_with fail
        refine HRV.out.mono ?_
        rintro z w9 ⟨rfl, hs9, hpk9⟩
        have HB9 := Lib.hid (HCL.out.below hs9 (by simp) HB.out.size HB.out)
        have HI := Lib.hid (show IsPts w9 (some ⟨gg, 0, none⟩) l.reverse from .inr ⟨gg, 0, rfl, fun i hi => by
          rw [List.length_reverse] at hi
          obtain ⟨⟨k0, k1, k2, k3⟩, _⟩ := hpk9.cells hi
          rw [if_pos hi] at k0 k1 k2 k3
          have e : l.getD (l.length - 1 - i) ⟨0, 0, 0, 0⟩ = l.reverse[i]'(by rw [List.length_reverse]; exact hi) := by
            rw [List.getElem_reverse, List.getD_eq_getElem?_getD, List.getElem?_eq_getElem (by omega)]
            rfl
          rw [e] at k0 k1 k2 k3
          rw [Nat.zero_add]
          exact ⟨k0, k1, k2, k3, (HGD.out.each _ (List.mem_reverse.1 (List.getElem_mem _))).1⟩⟩)
        clear hs9 hpk9 HRV
        go_wp2_with fail
        go_ret
        rw [HPL.out]
        exact ⟨_, cap, by rw [List.length_reverse]; rfl, HB9.out, HI.out⟩
end Go.Proofs.YtoneghmahdjgbaaGreat.Om
