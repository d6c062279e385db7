/-
  Layer 15's reference: the contract of Least.
-/
import Derived.Test.YteacmcckhjabmaaOptMath
import Derived.Test.YteacmcckhjabmaaPriceRef
import Derived.Test.YteacmcckhjabmaaChainSeen
import Derived.Test.YteacmcckhjabmaaBstNext
import Derived.Deep.RegionHeld3
import Derived.RegionTactic
import Derived.BigRegion
import Derived.BigQuiet
import Derived.Deep.QuietTactic
set_option linter.unusedVariables false
set_option linter.unusedSimpArgs false
namespace Go.Proofs.Yteacmcckhjabmaa.Om
open Go.RowKit
open Pc (Tb)
open Bs (lim)
open Ch (bt)
open Mt (mat mat_le)
section
variable {t : Tb} {s : ByteArray} {W : Int}
theorem bestD_range {L : Nat → Int} {i : Nat} (ht : t.good = true) (hL : ∀ j, 0 ≤ L j) (hi : i ≤ 1048576) (k : Nat) (hk : k ≤ i) (b : Int) (hb : 0 ≤ b) : 0 ≤ bestD t s L i k b ∧ bestD t s L i k b ≤ b := by
  refine ⟨?_, (bestD_le k b).1⟩
  rcases bestD_is (t := t) (s := s) (L := L) (i := i) k b with h | ⟨d, n, a1, a2, a3, a4, a5⟩
  · rw [h]; exact hb
  · rw [a5]
    have h1 := t.cost_range ht (n : Int) (d := (d : Int)) (by omega)
    have h2 := hL (i + n)
    omega
theorem bestN_range {L : Nat → Int} {i d : Nat} (ht : t.good = true) (hL : ∀ j, 0 ≤ L j) (hd : d ≤ 1048576) (k : Nat) (b : Int) (hb : 0 ≤ b) : 0 ≤ bestN t L i d k b ∧ bestN t L i d k b ≤ b := by
  refine ⟨?_, (bestN_le k b).1⟩
  rcases bestN_is (t := t) (L := L) (i := i) (d := d) k b with h | ⟨n, a1, a2, a5⟩
  · rw [h]; exact hb
  · rw [a5]
    have h1 := t.cost_range ht (n : Int) (d := (d : Int)) (by omega)
    have h2 := hL (i + n)
    omega
theorem dmax_le (W : Int) (i : Nat) : dmax W i ≤ i := by unfold dmax; omega
theorem least_range (ht : t.good = true) (hs : s.size ≤ 1048576) : ∀ k, ∀ j, 0 ≤ least t s W k j ∧ least t s W k j ≤ (k : Int) * 10000
  | 0, j => ⟨Int.le_refl _, by show (0 : Int) ≤ _; omega⟩
  | k + 1, j => by
    obtain ⟨⟨l1, l2⟩, _⟩ := t.good_range ht
    have ih := least_range ht hs k
    rw [least]
    dsimp only
    split
    · obtain ⟨h1, h2⟩ := bestD_range (s := s) (i := j) ht (fun j => (ih j).1) (by omega) (dmax W j) (dmax_le W j) (t.l + least t s W k (j + 1)) (by have := (ih (j + 1)).1; omega)
      have := (ih (j + 1)).2
      exact ⟨h1, by omega⟩
    · have := ih j
      exact ⟨this.1, by omega⟩
end
/-- Integers in block g, of the colour 2. -/
structure IntsAt (w : World) (O : Paint) (g n : Nat) (F : Nat → Int) : Prop where
  col : O g = 2
  row : ∃ arr : Array Value, w.heap[g]? = some (.cells arr 3 (0, 0)) ∧ arr.size = n ∧ ∀ e, e < n → arr[e]? = some (.int .i64 (F e))
section
variable {cs : List Nat} {w w' : World} {O O' : Paint} {g n : Nat} {F : Nat → Int}
theorem IntsAt.lt (h : IntsAt w O g n F) : g < w.heap.size := by
  obtain ⟨arr, h1, _⟩ := h.row
  exact lt_of_heap h1
theorem IntsAt.step (h : IntsAt w O g n F) (hs : Step cs w O w' O') (hc : 2 ∉ cs) : IntsAt w' O' g n F := by
  obtain ⟨arr, h1, h2⟩ := h.row
  exact ⟨(hs.ext g h.lt).trans h.col, arr, (hs.block h.lt (by rw [h.col]; exact hc)).trans h1, h2⟩
theorem IntsAt.cell (h : IntsAt w O g n F) {e : Nat} (he : e < n) : w.cell? ⟨g, e, none⟩ = some (.int .i64 (F e)) ∧ w.frozen? ⟨g, e, none⟩ = false := by
  obtain ⟨arr, h1, h2, h3⟩ := h.row
  exact ⟨by simp [World.cell?, h1, h3 e he], by simp [World.frozen?, h1]⟩
theorem IntsAt.set (h : IntsAt w O g n F) {e : Nat} (he : e < n) (c : Int) {F' : Nat → Int} (hF : ∀ j, j < n → F' j = if j = e then c else F j) :
    IntsAt (w.setCell ⟨g, e, none⟩ (.int .i64 c)) O g n F' ∧ Step [2] w O (w.setCell ⟨g, e, none⟩ (.int .i64 c)) O := by
  have hc : O g ∈ [2] := by simp [h.col]
  refine ⟨⟨h.col, ?_⟩, (Step.refl [2] w O).setCell (p := ⟨g, e, none⟩) (.inl hc) _⟩
  obtain ⟨arr, h1, h2, h3⟩ := h.row
  refine ⟨_, heap_setCell_same _ _ _ _ _ _ h1, by simp [h2], fun j hj => ?_⟩
  rw [hF j hj]
  by_cases hje : j = e
  · subst hje
    rw [if_pos rfl, Array.getElem?_setIfInBounds_self_of_lt (by omega)]
  · rw [if_neg hje, Array.getElem?_setIfInBounds_ne (fun h => hje h.symm)]
    exact h3 j hj
end
theorem rep_at' (n s : Nat) (h : s < n) (v : Value) : (List.replicate n v).toArray[s]? = some v := by simp [h]
theorem infoInt : (Try.prog.info? 3).map (fun i => (i.zero, i.size, i.bytes)) = some (some (.int .i64 0), 1, 8) := by kernel_rfl
theorem make_ints (n : Nat) (hn : n ≤ 10000) : ∃ arr : Array Value, arr.size = n ∧ (∀ j, j < n → arr[j]? = some (.int .i64 0)) ∧ ∀ w, (Instr.makeSlice 35 (.int .i64 (n : Int)) (.int .i64 (n : Int))).run Try.prog w = .ok (.slice (some ⟨w.heap.size, 0, none⟩) n n) (w.alloc (.cells arr 3)) := by
  obtain ⟨i0, hi, hz0, hz1, hz2⟩ := info_parts infoInt
  refine ⟨madeCells (Value.int .i64 0).cells (n * i0.size), by rw [size_madeCells, hz1, Nat.mul_one], fun j hj => ?_, fun w => ?_⟩
  · rw [hz1, Nat.mul_one]
    unfold madeCells
    simp [hj, Value.cells, Nat.mod_one]
  · have := run_make (P := Try.prog) w 35 3 i0 (.int .i64 0) Try.underlying35 hi hz0 .i64 .i64 (n : Int) (n : Int) (by omega) (by omega) (by rw [hz2]; omega) (by omega)
    simp only [Int.toNat_natCast] at this
    exact this
theorem five_of' {w : World} {X : Nat} {a b c d e : Value} {t : TypeId} (h : w.heap[X]? = some (.cells #[a, b, c, d, e] t (0, 0))) : w.cell? ⟨X, 0, none⟩ = some a ∧ w.cell? ⟨X, 1, none⟩ = some b ∧ w.cell? ⟨X, 2, none⟩ = some c ∧ w.cell? ⟨X, 3, none⟩ = some d ∧ w.cell? ⟨X, 4, none⟩ = some e := by
  refine ⟨?_, ?_, ?_, ?_, ?_⟩ <;> simp [World.cell?, h]
/-- What Least has, round by round. -/
structure LsAt (w : World) (O : Paint) (TB g n : Nat) (t : Tb) (F : Nat → Int) : Prop where
  tb : Blk w O 3 TB (.cells #[.int .i64 t.l, .int .i64 t.m, .int .i64 t.n, .int .i64 t.f, .int .i64 t.b] 37 (0, 0))
  out : IntsAt w O g n F
theorem LsAt.idle {w w' : World} {O O' : Paint} {TB g n : Nat} {t : Tb} {F : Nat → Int} (h : LsAt w O TB g n t F) (hs : Step [] w O w' O') : LsAt w' O' TB g n t F := ⟨h.tb.step hs (by simp), h.out.step hs (by simp)⟩
theorem dmax_lt {W : Int} {i e : Nat} : e < dmax W i ↔ e + 1 ≤ i ∧ ((e : Int) + 1 ≤ W) := by unfold dmax; omega
set_option maxRecDepth 100000 in
set_option maxHeartbeats 4000000 in
theorem least_any (s : ByteArray) (hs : s.size ≤ 1000) (window W : Int) (hW : W = min window 1048576) (t : Tb) (ht : t.good = true) (w : World) :
    Calls Try.prog 10 #[.agg #[.int .i64 t.l, .int .i64 t.m, .int .i64 t.n, .int .i64 t.f, .int .i64 t.b], .string s, .int .i64 window] w fun x w' => ∃ g, x = .returned (.slice (some ⟨g, 0, none⟩) (s.size + 1) (s.size + 1)) ∧ Below w.heap.size w w' ∧ w'.cell? ⟨g, 0, none⟩ = some (.int .i64 (least t s W s.size 0)) := by
  have HW0 := Lib.hid hW
  clear hW
  obtain ⟨arr, ha1, ha2, hmk⟩ := make_ints (s.size + 1) (by omega)
  rw [show ((s.size + 1 : Nat) : Int) = (s.size : Int) + 1 from by omega] at hmk
  have hs1 := Step.alloc_paint w (fun _ => 0) 3 (.cells #[.int .i64 t.l, .int .i64 t.m, .int .i64 t.n, .int .i64 t.f, .int .i64 t.b] 37)
  have HT1 := Lib.hid (Blk.new w (fun _ => 0) 3 (.cells #[.int .i64 t.l, .int .i64 t.m, .int .i64 t.n, .int .i64 t.f, .int .i64 t.b] 37))
  have HS1 := Lib.hid (hs1.nil (cs := [2]))
  clear hs1
  go_enter Try.func10, Try.ntmps10
  go_upto_region 1 with (fail)
  generalize w.alloc (.cells #[.int .i64 t.l, .int .i64 t.m, .int .i64 t.n, .int .i64 t.f, .int .i64 t.b] 37) = w1 at *
  generalize Step.paint (fun _ => 0) w 3 = O1 at *
  go_upto_region 2 with (fail)
  have hs2 := Step.alloc_paint w1 O1 2 (.cells arr 3)
  have HL2 : Hid (LsAt (w1.alloc (.cells arr 3)) (Step.paint O1 w1 2) w.heap.size w1.heap.size (s.size + 1) t (least t s W 0)) := Lib.hid ⟨HT1.out.step hs2 (by simp), Step.paint_new (Nat.le_refl _), arr, heap_alloc_new w1 _, ha1, fun e he => ha2 e he⟩
  have HS2 := Lib.hid (HS1.out.trans (hs2.nil (cs := [2])))
  clear hs2 HT1 HS1 ha1 ha2 hmk
  generalize w1.alloc (.cells arr 3) = w2 at *
  generalize w1.heap.size = g at *
  generalize Step.paint O1 w1 2 = O2 at *
  go_wp2_with fail
  go_loopw [8] (fun i wr => ∃ (k : Nat) (O1 : Paint), k ≤ s.size ∧ i = .int .i64 ((s.size : Int) - 1 - k) ∧ Step [2] w (fun _ => 0) wr O1 ∧ LsAt wr O1 w.heap.size g (s.size + 1) t (least t s W k)) (fun i _ => (intOf i + 1).toNat)
  case atStart => exact ⟨0, O2, Nat.zero_le _, by go_num, HS2.out, HL2.out⟩
  case round =>
    obtain ⟨k, O3, hk, rfl, hs3, hl3⟩ := hrel
    clear HS2 HL2
    rename World => wo
    by_cases hlt : k < s.size
    · obtain ⟨i, hi⟩ : ∃ i, i = s.size - 1 - k := ⟨_, rfl⟩
      have e0 : (s.size : Int) - 1 - (k : Int) = (i : Int) := by omega
      rw [e0]
      have his : i < s.size := by omega
      have HR := Lib.hid (least_range (s := s) (W := W) ht (show s.size ≤ 1048576 by omega) k)
      have HNX := Lib.hid (show least t s W (k + 1) = fun j => if j = i then bestD t s (least t s W k) i (dmax W i) (t.l + least t s W k (i + 1)) else least t s W k j from by
        rw [least, hi]
        funext j
        rw [show s.size - (k + 1) = s.size - 1 - k from by omega]
        split
        · rename_i h; rw [h]
        · rfl)
      generalize least t s W k = L at *
      have HL0 := Lib.hid (fun j => (HR.out j).1)
      have HL1 : Hid (∀ j, L j ≤ 10000000) := Lib.hid (fun j => by have := (HR.out j).2; omega)
      obtain ⟨⟨l1, l2⟩, _⟩ := t.good_range ht
      have b0 := HL0.out (i + 1)
      have b1 := HL1.out (i + 1)
      obtain ⟨x0, x1, x2, x3, x4⟩ := five_of' hl3.tb.1
      obtain ⟨c0, _⟩ := hl3.out.cell (show i + 1 < s.size + 1 by omega)
      obtain ⟨b, hb⟩ : ∃ b, b = t.l + L (i + 1) := ⟨_, rfl⟩
      have d0 : (0 : Int) ≤ (i : Int) := by omega
      have d1 : (0 : Int) ≤ (i : Int) + 1 := by omega
      have d2 : (i : Int) + 1 < (s.size : Int) + 1 := by omega
      have d3 : ((i : Int) + 1).toNat = i + 1 := by omega
      have d4 : IntKind.i64.wrap ((i : Int) + 1) = (i : Int) + 1 := by rw [IntKind.wrap_i64]; omega
      have d5 : wrap64 ((i : Int) + 1) = (i : Int) + 1 := by unfold wrap64; omega
      have d6 : IntKind.i64.wrap (t.l + L (i + 1)) = b := by rw [IntKind.wrap_i64, hb]; omega
      have d7 : wrap64 (t.l + L (i + 1)) = b := by unfold wrap64; omega
      have hbr : 0 ≤ b ∧ b ≤ 10010000 := by omega
      rw [← hb] at HNX
      have HLS := Lib.hid hl3
      have HS3 := Lib.hid hs3
      have hik : i + k + 1 = s.size := by omega
      clear hl3 hs3 HR hb b0 b1 l1 l2 e0 hi
      generalize L (i + 1) = Li at *
      go_upto_region 5 with (fail)
      go_quiet (fail)
      have HL4 := Lib.hid (HLS.out.idle ((Step.refl [] wo O3).drewN nq))
      have HS4 := Lib.hid (HS3.out.drewN nq)
      clear HLS HS3 x0 x1 x2 x3 x4 c0 d1 d2 d3 d4 d5 d6 d7
      generalize wo.drewN nq = w4 at *
      have hD := dmax_le W i
      go_wp2_with fail
      go_loopw [9, 10] (fun v q wr => ∃ (e : Nat) (O4 : Paint), e ≤ dmax W i ∧ v = .int .i64 (bestD t s L i e b) ∧ q = .int .i64 ((e : Int) + 1) ∧ Step [2] w (fun _ => 0) wr O4 ∧ LsAt wr O4 w.heap.size g (s.size + 1) t L) (fun _ q _ => i + 1 - (intOf q).toNat)
      case atStart => exact ⟨0, O3, Nat.zero_le _, rfl, rfl, HS4.out, HL4.out⟩
      case round =>
        obtain ⟨e, O4, he, rfl, rfl, hs4, hl4⟩ := hrel
        clear HS4 HL4
        rename World => wp
        by_cases hlt2 : e < dmax W i
        · obtain ⟨f1, f2⟩ := dmax_lt.1 hlt2
          have f3 := HW0.out
          have g1 : (e : Int) + 1 ≤ (i : Int) := by omega
          have g2 : (e : Int) + 1 ≤ window := by omega
          have g3 : (e : Int) + 1 ≤ 1048576 := by omega
          clear f2 f3
          have hmt := fun (W1 : World) => Ch.matches_any s i (e + 1) (by omega) f1 (by omega) W1
          rw [show ((e + 1 : Nat) : Int) = (e : Int) + 1 from by omega, show min (s.size - i) 273 = lim s i from rfl] at hmt
          have hmle := mat_le (bt s) i (i - (e + 1)) (lim s i) 0
          have hlim : lim s i ≤ 273 ∧ lim s i ≤ s.size - i := by unfold lim; omega
          have HBD := Lib.hid (show bestD t s L i (e + 1) b = bestN t L i (e + 1) (mat (bt s) i (i - (e + 1)) 0 (lim s i) - 1) (bestD t s L i e b) from rfl)
          obtain ⟨r1, r2⟩ := bestD_range (s := s) (i := i) ht HL0.out (by omega) e (by omega) b hbr.1
          generalize bestD t s L i e b = bd at *
          generalize mat (bt s) i (i - (e + 1)) 0 (lim s i) = mm at *
          have hmm1 : mm ≤ 273 := by omega
          have hmm2 : i + mm ≤ s.size := by omega
          have HMT := Lib.hid hmt
          have HS4 := Lib.hid hs4
          have HL4 := Lib.hid hl4
          clear hmt hmle hlim hs4 hl4
          go_wp2_with fail
          refine (HMT.out wp).mono ?_
          rintro z w5 ⟨rfl, n5, rfl⟩
          have HL5 := Lib.hid (HL4.out.idle ((Step.refl [] wp O4).drewN n5))
          have HS5 := Lib.hid (HS4.out.drewN n5)
          clear HMT HL4 HS4
          generalize wp.drewN n5 = w5 at *
          go_wp2_with fail
          go_loopw [9, 12] (fun v q wr => ∃ (m : Nat) (O5 : Paint), m ≤ mm - 1 ∧ v = .int .i64 (bestN t L i (e + 1) m bd) ∧ q = .int .i64 ((m : Int) + 2) ∧ Step [2] w (fun _ => 0) wr O5 ∧ LsAt wr O5 w.heap.size g (s.size + 1) t L) (fun _ q _ => mm + 2 - (intOf q).toNat)
          case atStart => exact ⟨0, O4, Nat.zero_le _, rfl, rfl, HS5.out, HL5.out⟩
          case round =>
            obtain ⟨m, O6, hm, rfl, rfl, hs6, hl6⟩ := hrel
            clear HS5 HL5
            rename World => w6
            by_cases hlt3 : m < mm - 1
            · have HBN := Lib.hid (show bestN t L i (e + 1) (m + 1) bd = if t.cost ((m : Int) + 2) ((e : Int) + 1) + L (i + (m + 2)) < bestN t L i (e + 1) m bd then t.cost ((m : Int) + 2) ((e : Int) + 1) + L (i + (m + 2)) else bestN t L i (e + 1) m bd from by
                rw [bestN, show ((m + 2 : Nat) : Int) = (m : Int) + 2 from by omega, show ((e + 1 : Nat) : Int) = (e : Int) + 1 from by omega])
              have HM := Lib.hid (fun (W1 : World) => Pc.rmatch_any t ht ((m : Int) + 2) ((e : Int) + 1) (by omega) (by omega) W1)
              obtain ⟨k1, k2⟩ := t.cost_range ht ((m : Int) + 2) (d := (e : Int) + 1) (by omega)
              obtain ⟨k3, k4⟩ := bestN_range (i := i) ht HL0.out (show e + 1 ≤ 1048576 by omega) m bd r1
              have k5 := HL0.out (i + (m + 2))
              have k6 := HL1.out (i + (m + 2))
              obtain ⟨Lx, hLx⟩ : ∃ Lx, Lx = L (i + (m + 2)) := ⟨_, rfl⟩
              have HC6 := Lib.hid (show ∀ (W' : World), Below w6.heap.size w6 W' → (Below w6.heap.size w6 W' ∧ (W'.cell? ⟨w.heap.size, 0, none⟩ = some (.int .i64 t.l) ∧ W'.cell? ⟨w.heap.size, 1, none⟩ = some (.int .i64 t.m) ∧ W'.cell? ⟨w.heap.size, 2, none⟩ = some (.int .i64 t.n) ∧ W'.cell? ⟨w.heap.size, 3, none⟩ = some (.int .i64 t.f) ∧ W'.cell? ⟨w.heap.size, 4, none⟩ = some (.int .i64 t.b)) ∧ W'.cell? ⟨g, i + (m + 2), none⟩ = some (.int .i64 Lx)) from fun W' hb => ⟨hb, five_of' (hl6.idle (Step.of_below_same hb O6)).tb.1, by rw [hLx]; exact ((hl6.idle (Step.of_below_same hb O6)).out.cell (show i + (m + 2) < s.size + 1 by omega)).1⟩)
              rw [← hLx] at HBN k5 k6
              have HL6 := Lib.hid hl6
              have HS6 := Lib.hid hs6
              generalize bestN t L i (e + 1) m bd = bn at *
              generalize t.cost ((m : Int) + 2) ((e : Int) + 1) = ct at *
              have q1 : (m : Int) + 2 ≤ (mm : Int) := by omega
              have p0 : (0 : Int) ≤ (i : Int) + ((m : Int) + 2) := by omega
              have p1 : (i : Int) + ((m : Int) + 2) < (s.size : Int) + 1 := by omega
              have p2 : ((i : Int) + ((m : Int) + 2)).toNat = i + (m + 2) := by omega
              have p3 : IntKind.i64.wrap ((i : Int) + ((m : Int) + 2)) = (i : Int) + ((m : Int) + 2) := by rw [IntKind.wrap_i64]; omega
              have p4 : wrap64 ((i : Int) + ((m : Int) + 2)) = (i : Int) + ((m : Int) + 2) := by unfold wrap64; omega
              have p5 : IntKind.i64.wrap (ct + Lx) = ct + Lx := by rw [IntKind.wrap_i64]; omega
              have p6 : wrap64 (ct + Lx) = ct + Lx := by unfold wrap64; omega
              clear hl6 hs6 hLx k1 k2 k3 k4 k5 k6
              go_upto_region 13 with (fail)
              go_region_held3 (fun W' => Below w6.heap.size w6 W' ∧ (W'.cell? ⟨w.heap.size, 0, none⟩ = some (.int .i64 t.l) ∧ W'.cell? ⟨w.heap.size, 1, none⟩ = some (.int .i64 t.m) ∧ W'.cell? ⟨w.heap.size, 2, none⟩ = some (.int .i64 t.n) ∧ W'.cell? ⟨w.heap.size, 3, none⟩ = some (.int .i64 t.f) ∧ W'.cell? ⟨w.heap.size, 4, none⟩ = some (.int .i64 t.b)) ∧ W'.cell? ⟨g, i + (m + 2), none⟩ = some (.int .i64 Lx)) ((refine HC6.out _ ?_; repeat (first | assumption | exact Below.refl _ _ | refine Pk.bel_drew ?_ | (refine Pk.bel_new (by assumption) ?_)))) (first | (go_at_call 29; (with_reducible refine (HM.out _).mono ?_); rintro z w7 ⟨rfl, hb7⟩))
              have hb67 := Pk.bel_new hb7 (Pk.bel_drew (Below.refl w6.heap.size w6))
              have HL7 := Lib.hid (HL6.out.idle (Step.of_below_same hb67 O6))
              have HS7 := Lib.hid (HS6.out.trans (Step.of_below_same hb67 O6).nil)
              clear hb7 hb67 HL6 HS6 HC6 HM p0 p1 p2 p3 p4 p5 p6
              generalize ct + Lx = cx at *
              by_cases hc : cx < bn
              · have HB2 := Lib.hid (HBN.out.trans (if_pos hc))
                go_wp2_with fail
                go_roundw
                case rel => exact ⟨m + 1, O6, by omega, by rw [HB2.out], by go_num, HS7.out, HL7.out⟩
                case measure => (simp [intOf]; try omega)
              · have HB2 := Lib.hid (HBN.out.trans (if_neg hc))
                go_wp2_with fail
                go_roundw
                case rel => exact ⟨m + 1, O6, by omega, by rw [HB2.out], by go_num, HS7.out, HL7.out⟩
                case measure => (simp [intOf]; try omega)
            · obtain rfl : m = mm - 1 := by omega
              have q1 : ¬ ((mm - 1 : Nat) : Int) + 2 ≤ (mm : Int) := by omega
              have HS7 := Lib.hid hs6
              have HL7 := Lib.hid hl6
              rw [← HBD.out]
              clear hs6 hl6 g1 g2 g3
              go_wp2_with fail
              go_roundw
              case rel => exact ⟨e + 1, O6, hlt2, rfl, by go_num, HS7.out, HL7.out⟩
              case measure => simp [intOf]; omega
        · have hE : e = dmax W i := by omega
          have HNX2 := Lib.hid (show ∀ j, j < s.size + 1 → least t s W (k + 1) j = if j = i then bestD t s L i e b else L j from fun j _ => by rw [HNX.out, hE])
          have hcs : ¬ ((e : Int) + 1 ≤ (i : Int)) ∨ (((e : Int) + 1 ≤ (i : Int)) ∧ ¬ ((e : Int) + 1 ≤ window)) := by
            have h1 := HW0.out
            have h2 : ¬ (e + 1 ≤ i ∧ (e : Int) + 1 ≤ W) := fun h => hlt2 (dmax_lt.2 h)
            omega
          generalize bestD t s L i e b = bd at *
          obtain ⟨z0, z1⟩ := hl4.out.cell (show i < s.size + 1 by omega)
          have HST := Lib.hid (hl4.out.set (show i < s.size + 1 by omega) bd HNX2.out)
          have HTB := Lib.hid hl4.tb
          have HS4 := Lib.hid hs4
          have p1 : (i : Int) < (s.size : Int) + 1 := by omega
          have p2 : (i : Int).toNat = i := rfl
          have hkk : (s.size : Int) - 1 - ((k + 1 : Nat) : Int) = (i : Int) - 1 := by omega
          have HKK := Lib.hid hkk
          clear hE hlt2 hl4 hs4 HNX2 HNX he hkk
          generalize L i = Li0 at *
          rcases hcs with h1 | ⟨h1, h2⟩
          all_goals
            go_wp2_with fail
            go_roundw
            case rel => exact ⟨k + 1, O4, by omega, by rw [HKK.out], HS4.out.trans HST.out.2, HTB.out.step HST.out.2 (by simp), HST.out.1⟩
            case measure => (simp [intOf]; try omega)
    · obtain rfl : k = s.size := by omega
      have HB := Lib.hid (hs3.below (Nat.le_refl _) (fun k _ => by simp))
      have HC := Lib.hid (hl3.out.cell (show 0 < s.size + 1 by omega)).1
      have d0 : ¬ (0 : Int) ≤ (s.size : Int) - 1 - (s.size : Int) := by omega
      clear hs3 hl3
      go_wp2_with fail
      go_ret
      exact ⟨g, rfl, HB.out, HC.out⟩
end Go.Proofs.Yteacmcckhjabmaa.Om
