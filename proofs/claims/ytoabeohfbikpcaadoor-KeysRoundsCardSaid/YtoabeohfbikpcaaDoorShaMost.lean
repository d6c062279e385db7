/-
  Layer 23, the document's constants: the contracts of most, Root and Constants.
-/
import Derived.Test.YtoabeohfbikpcaaDoorShaConst
import Derived.Test.YtoabeohfbikpcaaDoorBase
import Derived.BigQuiet
import Derived.Deep.QuietTactic
import Derived.StillTailTactics
import Derived.BigRegion
import Derived.Laws.Rows
import Derived.Laws.Tables
import Derived.Deep.WholeRow
import Derived.Laws.CopyOwn
set_option linter.unusedVariables false
set_option linter.unusedSimpArgs false
namespace Go.Proofs.YtoabeohfbikpcaaDoor.Sh
open Go.RowKit
open Rc
/-- Digits as cells. -/
def arr (l : List Nat) : Array Value := (l.map fun n : Nat => Value.int .u64 (n : Int)).toArray
theorem arr_at {w : World} {N : Nat} {l : List Nat} {t : TypeId} (h : w.heap[N]? = some (.cells (arr l) t (0, 0))) {i : Nat} (hi : i < l.length) : w.cell? ⟨N, i, none⟩ = some (.int .u64 ((l.getD i 0 : Nat) : Int)) ∧ w.frozen? ⟨N, i, none⟩ = false := by
  constructor
  · simp [World.cell?, h, arr, hi, List.getD]
  · simp [World.frozen?, h]
theorem arr_set {w : World} {N : Nat} {l : List Nat} {t : TypeId} (h : w.heap[N]? = some (.cells (arr l) t (0, 0))) (i v : Nat) : (w.setCell ⟨N, i, none⟩ (.int .u64 (v : Int))).heap[N]? = some (.cells (arr (l.set i v)) t (0, 0)) := by
  rw [heap_setCell_same w N i _ _ _ h]
  congr 2
  simp [arr, List.map_set]
theorem w64_cast (n : Nat) : IntKind.u64.wrap (n : Int) = ((w64 n : Nat) : Int) := by
  rw [IntKind.wrap_u64]
  unfold w64
  omega
theorem add_length (l : List Nat) (i v : Nat) : (add l i v).length = l.length := by simp [add]
theorem mulN_length (a b : Nat) (o : List Nat) : ∀ i, (mulN a b o i).length = 8
  | 0 => rfl
  | i + 1 => by rw [mulN, mul1, add_length, add_length, mulN_length a b o i]
theorem carN_length {l : List Nat} (h : l.length = 8) : ∀ i, (carN l i).length = 8
  | 0 => h
  | i + 1 => by rw [carN, car1, List.length_set, add_length, carN_length h i]
theorem pows_length (x : Nat) : ∀ f, (pows x f).length = 8
  | 0 => rfl
  | f + 1 => carN_length (mulN_length _ _ _ _) _
theorem digN_length (v a : Nat) : ∀ i, (digN v a i).1.length = 8
  | 0 => rfl
  | i + 1 => by rw [digN, List.length_set, digN_length v a i]
theorem digN_le (v a : Nat) : ∀ i, (digN v a i).2 ≤ v
  | 0 => Nat.le_refl _
  | i + 1 => Nat.le_trans (Nat.div_le_self _ _) (digN_le v a i)
/-- The first digits and the power, in memory. -/
structure MoAt (w : World) (D O a b : Nat) (l : List Nat) (wr : World) : Prop where
  below : Below w.heap.size w wr
  d : wr.heap[D]? = some (.cells (arr [a, b, 0, 0, 0, 0, 0, 0]) 61 (0, 0))
  o : wr.heap[O]? = some (.cells (arr l) 61 (0, 0))
theorem MoAt.drew {w wr : World} {D O a b : Nat} {l : List Nat} (h : MoAt w D O a b l wr) : MoAt w D O a b l wr.drew := ⟨h.below.drew, h.d, h.o⟩
theorem MoAt.set {w wr : World} {D O a b N : Nat} {l : List Nat} (h : MoAt w D O a b l wr) (hN : w.heap.size ≤ N) (h1 : D ≠ N) (h2 : O ≠ N) (i : Nat) (v : Value) : MoAt w D O a b l (wr.setCell ⟨N, i, none⟩ v) :=
  ⟨h.below.setCell hN v, (Below.heap_setCell wr ⟨N, i, none⟩ v D h1).trans h.d, (Below.heap_setCell wr ⟨N, i, none⟩ v O h2).trans h.o⟩
theorem MoAt.alloc {w wr : World} {D O a b : Nat} {l : List Nat} (h : MoAt w D O a b l wr) (hD : D < wr.heap.size) (hO : O < wr.heap.size) (o : Obj) : MoAt w D O a b l (wr.alloc o) :=
  ⟨h.below.alloc h.below.size o, (Below.heap_alloc wr o D hD).trans h.d, (Below.heap_alloc wr o O hO).trans h.o⟩
theorem eight {l : List Nat} (h : l.length = 8) : ∃ c0 c1 c2 c3 c4 c5 c6 c7, l = [c0, c1, c2, c3, c4, c5, c6, c7] := by
  match l, h with
  | [c0, c1, c2, c3, c4, c5, c6, c7], _ => exact ⟨c0, c1, c2, c3, c4, c5, c6, c7, rfl⟩
theorem arr_eight {w : World} {N : Nat} {c0 c1 c2 c3 c4 c5 c6 c7 : Nat} {t : TypeId} (h : w.heap[N]? = some (.cells (arr [c0, c1, c2, c3, c4, c5, c6, c7]) t (0, 0))) :
    w.cell? ⟨N, 0, none⟩ = some (.int .u64 (c0 : Int)) ∧ w.cell? ⟨N, 1, none⟩ = some (.int .u64 (c1 : Int)) ∧ w.cell? ⟨N, 2, none⟩ = some (.int .u64 (c2 : Int)) ∧ w.cell? ⟨N, 3, none⟩ = some (.int .u64 (c3 : Int)) ∧ w.cell? ⟨N, 4, none⟩ = some (.int .u64 (c4 : Int)) ∧ w.cell? ⟨N, 5, none⟩ = some (.int .u64 (c5 : Int)) ∧ w.cell? ⟨N, 6, none⟩ = some (.int .u64 (c6 : Int)) ∧ w.cell? ⟨N, 7, none⟩ = some (.int .u64 (c7 : Int)) :=
  ⟨(arr_at h (i := 0) (by simp)).1, (arr_at h (i := 1) (by simp)).1, (arr_at h (i := 2) (by simp)).1, (arr_at h (i := 3) (by simp)).1, (arr_at h (i := 4) (by simp)).1, (arr_at h (i := 5) (by simp)).1, (arr_at h (i := 6) (by simp)).1, (arr_at h (i := 7) (by simp)).1⟩
theorem arr_free {w : World} {N : Nat} {l : List Nat} {t : TypeId} (h : w.heap[N]? = some (.cells (arr l) t (0, 0))) (i : Nat) : w.frozen? ⟨N, i, none⟩ = false := by simp [World.frozen?, h]
theorem MoAt.row {w W : World} {D O a b : Nat} {l : List Nat} (h : MoAt w D O a b l W) (hO : w.heap.size ≤ O) (hn : D ≠ O) (L : List Nat) : MoAt w D O a b L (W.setRow O (arr L)) := by
  refine ⟨h.below.trans ⟨rfl, rfl, rfl, by simp [World.setRow], fun k hk => setRow_other W O k _ (by omega)⟩, (setRow_other W O D _ hn).trans h.d, ?_⟩
  exact setRow_heap W O _ _ _ _ h.o
theorem info8 : (Tryd.prog.info? 61).map (·.size) = some 8 := by kernel_rfl
theorem arr_size (l : List Nat) : (arr l).size = l.length := by simp [arr]
theorem arr_all (l : List Nat) : (arr l).all (·.oneCell') = true := by simp [arr, Array.all_eq_true]; intros; rfl
set_option maxRecDepth 100000 in
set_option maxHeartbeats 8000000 in
theorem most_any (x p f : Nat) (hx : x < 68719476736) (hp : p ≤ 311) (hf : f = 2 ∨ f = 3) (w : World) :
    Calls Tryd.prog 24 #[.int .u64 (x : Int), .int .u64 (p : Int), .int .i64 (f : Int)] w fun z w' => z = .returned (.bool (most x p f)) ∧ Below w.heap.size w w' := by
  go_enter Tryd.func24, Tryd.ntmps24
  go_upto_region 3 with (fail)
  rw [show (x : Int) % 262144 = ((x % 262144 : Nat) : Int) by omega, show (x : Int) / 262144 = ((x / 262144 : Nat) : Int) by omega]
  have HPA : Hid (∀ j, pows x (j + 1) = carN (mulN (x % 262144) (x / 262144) (pows x j) 6) 7) := Lib.hid fun _ => rfl
  have HP0 : Hid (pows x 0 = [x % 262144, x / 262144, 0, 0, 0, 0, 0, 0]) := Lib.hid rfl
  generalize x % 262144 = a0 at *
  generalize x / 262144 = a1 at *
  obtain ⟨D, hD⟩ : ∃ D, D = w.heap.size := ⟨_, rfl⟩
  have HM0 : Hid (MoAt w D (D + 1) a0 a1 (pows x 0) ((w.alloc (.cells (arr [a0, a1, 0, 0, 0, 0, 0, 0]) 61)).alloc (.cells (arr [a0, a1, 0, 0, 0, 0, 0, 0]) 61))) := by
    refine Lib.hid ⟨((Below.refl _ _).alloc (Nat.le_refl _) _).alloc (by simp) _, ?_, ?_⟩
    · rw [hD, Below.heap_alloc _ _ _ (by simp)]; exact heap_alloc_new _ _
    · rw [HP0.out]
      have := heap_alloc_new (w.alloc (.cells (arr [a0, a1, 0, 0, 0, 0, 0, 0]) 61)) (.cells (arr [a0, a1, 0, 0, 0, 0, 0, 0]) 61)
      rw [World.size_alloc] at this
      rw [hD]
      exact this
  rw [← hD]
  have hds : w.heap.size ≤ D := by omega
  clear hD
  have harr : ∀ a b : Nat, (#[.int .u64 (a : Int), .int .u64 (b : Int), .int .u64 0, .int .u64 0, .int .u64 0, .int .u64 0, .int .u64 0, .int .u64 0] : Array Value) = arr [a, b, 0, 0, 0, 0, 0, 0] := fun _ _ => rfl
  rw [harr]
  generalize (w.alloc (.cells (arr [a0, a1, 0, 0, 0, 0, 0, 0]) 61)).alloc (.cells (arr [a0, a1, 0, 0, 0, 0, 0, 0]) 61) = W0 at *
  clear harr
  go_wp2_with fail
  go_loopw [9, 10, 11, 12, 27, 28, 29, 30, 31, 32, 33, 34, 35, 36, 37, 38, 39, 40, 41, 42, 43, 44, 45, 46, 47, 48, 49, 50, 51, 52, 53, 54, 55, 56, 57, 58, 59, 60, 61, 62, 63, 64, 65, 66, 67, 68, 69, 70, 71, 72, 73, 74, 75, 76, 77, 78] (fun k _ _ _ _ _ _ _ _ _ _ _ _ _ _ _ _ _ _ _ _ _ _ _ _ _ _ _ _ _ _ _ _ _ _ _ _ _ _ _ _ _ _ _ _ _ _ _ _ _ _ _ _ _ _ _ wr => ∃ j : Nat, 1 ≤ j ∧ j ≤ f ∧ k = .int .i64 (j : Int) ∧ MoAt w D (D + 1) a0 a1 (pows x (j - 1)) wr) (fun k _ _ _ _ _ _ _ _ _ _ _ _ _ _ _ _ _ _ _ _ _ _ _ _ _ _ _ _ _ _ _ _ _ _ _ _ _ _ _ _ _ _ _ _ _ _ _ _ _ _ _ _ _ _ _ _ => f - (intOf k).toNat)
  case atStart => exact ⟨1, by omega, by omega, rfl, HM0.out⟩
  case round =>
    clear HM0
    obtain ⟨j, hj1, hj, rfl, hM⟩ := hrel
    have HM := Lib.hid hM
    clear hM
    by_cases hlt : j < f
    · as_aux_lemma =>
      have hl8 := pows_length x (j - 1)
      have hDl : D < wr.heap.size := lt_of_heap HM.out.d
      have hOl : D + 1 < wr.heap.size := lt_of_heap HM.out.o
      go_upto_region 7 with (fail)
      have HM1 := Lib.hid (HM.out.alloc hDl hOl (.cells (arr [0, 0, 0, 0, 0, 0, 0, 0]) 61))
      have HN1 := Lib.hid (heap_alloc_new wr (.cells (arr [0, 0, 0, 0, 0, 0, 0, 0]) 61))
      rw [show (#[.int .u64 0, .int .u64 0, .int .u64 0, .int .u64 0, .int .u64 0, .int .u64 0, .int .u64 0, .int .u64 0] : Array Value) = arr [0, 0, 0, 0, 0, 0, 0, 0] from rfl]
      generalize wr.alloc (.cells (arr [0, 0, 0, 0, 0, 0, 0, 0]) 61) = W1 at *
      obtain ⟨N, hN⟩ : ∃ N, N = wr.heap.size := ⟨_, rfl⟩
      rw [← hN] at HN1 ⊢
      have hNs : w.heap.size ≤ N := by have := HM.out.below.size; omega
      have hn1 : D ≠ N := by omega
      have hn2 : D + 1 ≠ N := by omega
      clear HM hDl hOl hN
      have HPW : Hid (pows x j = carN (mulN a0 a1 (pows x (j - 1)) 6) 7) := Lib.hid (by rw [← HPA.out, show j - 1 + 1 = j by omega])
      generalize pows x (j - 1) = l at *
      go_wp2_with fail
      go_loopw [11, 32, 33, 34, 35, 36, 37, 38, 39, 40, 41, 42, 43, 44, 45, 46, 47, 48, 49, 50, 51, 52, 53, 54, 55, 56, 57, 58] (fun i _ _ _ _ _ _ _ _ _ _ _ _ _ _ _ _ _ _ _ _ _ _ _ _ _ _ _ wq => ∃ k : Nat, k ≤ 6 ∧ i = .int .i64 (k : Int) ∧ MoAt w D (D + 1) a0 a1 l wq ∧ wq.heap[N]? = some (.cells (arr (mulN a0 a1 l k)) 61 (0, 0))) (fun i _ _ _ _ _ _ _ _ _ _ _ _ _ _ _ _ _ _ _ _ _ _ _ _ _ _ _ _ => 6 - (intOf i).toNat)
      case atStart => exact ⟨0, by omega, rfl, HM1.out, HN1.out⟩
      case round =>
        clear HM1 HN1
        obtain ⟨k, hk, rfl, hM, hN⟩ := hrel
        rename World => wq
        have HM := Lib.hid hM
        have HN := Lib.hid hN
        clear hM hN
        by_cases hk6 : k < 6
        · as_aux_lemma =>
          have hs : mulN a0 a1 l (k + 1) = mul1 a0 a1 l (mulN a0 a1 l k) k := rfl
          have HS := Lib.hid hs
          have hml := mulN_length a0 a1 l k
          clear hs
          generalize mulN a0 a1 l k = n at *
          have hd0 := (arr_at HM.out.d (i := 0) (by simp)).1
          have hd1 := (arr_at HM.out.d (i := 1) (by simp)).1
          have ho := (arr_at HM.out.o (i := k) (by omega)).1
          obtain ⟨hn, hfn⟩ := arr_at HN.out (i := k) (by omega)
          simp only [List.getD_cons_zero, List.getD_cons_succ] at hd0 hd1
          generalize hA : l.getD k 0 = A at *
          generalize hB : n.getD k 0 = B at *
          have hw1 : IntKind.u64.wrap ((A : Int) * (a0 : Int)) = ((w64 (A * a0) : Nat) : Int) := by rw [← Int.natCast_mul, w64_cast]
          have hw2 : IntKind.u64.wrap ((B : Int) + ((w64 (A * a0) : Nat) : Int)) = ((w64 (B + w64 (A * a0)) : Nat) : Int) := by rw [← Int.natCast_add, w64_cast]
          have e0 : (0 : Int) ≤ (k : Int) := by omega
          have e1 : (k : Int) < 8 := by omega
          have e2 : (k : Int).toNat = k := rfl
          go_upto_region 10 with (fail)
          go_still_tail 11, (by kernel_rfl)
          change wpList _ _ _ _ _ wq.drew
          have HM2 := Lib.hid (HM.out.drew)
          have HN2 := Lib.hid (show wq.drew.heap[N]? = _ from HN.out)
          clear hd0 hd1 ho hn hfn HM HN
          generalize wq.drew = W2 at *
          obtain ⟨hn, hfn⟩ := arr_at HN2.out (i := k) (by omega)
          rw [hB] at hn
          go_upto_region 11 with (fail)
          have HM3 := Lib.hid (HM2.out.set hNs hn1 hn2 k (.int .u64 ((w64 (B + w64 (A * a0)) : Nat) : Int)))
          have HN3 := Lib.hid (arr_set HN2.out k (w64 (B + w64 (A * a0))))
          clear hn hfn HM2 HN2 hw1 hw2
          rw [← show add n k (w64 (A * a0)) = n.set k (w64 (B + w64 (A * a0))) from by unfold add; rw [hB]] at HN3
          have hnl := add_length n k (w64 (A * a0))
          generalize hn2' : add n k (w64 (A * a0)) = n2 at *
          have HNE := Lib.hid hn2'
          clear hn2'
          generalize W2.setCell ⟨N, k, none⟩ (.int .u64 ((w64 (B + w64 (A * a0)) : Nat) : Int)) = W3 at *
          have hd1 := (arr_at HM3.out.d (i := 1) (by simp)).1
          have ho := (arr_at HM3.out.o (i := k) (by omega)).1
          obtain ⟨hn, hfn⟩ := arr_at HN3.out (i := k + 1) (by omega)
          simp only [List.getD_cons_zero, List.getD_cons_succ] at hd1
          rw [hA] at ho
          generalize hC : n2.getD (k + 1) 0 = C at *
          have hw1 : IntKind.u64.wrap ((A : Int) * (a1 : Int)) = ((w64 (A * a1) : Nat) : Int) := by rw [← Int.natCast_mul, w64_cast]
          have hw2 : IntKind.u64.wrap ((C : Int) + ((w64 (A * a1) : Nat) : Int)) = ((w64 (C + w64 (A * a1)) : Nat) : Int) := by rw [← Int.natCast_add, w64_cast]
          have hw3 : IntKind.i64.wrap ((k : Int) + 1) = ((k + 1 : Nat) : Int) := by rw [IntKind.wrap_i64]; omega
          have e3 : (0 : Int) ≤ ((k + 1 : Nat) : Int) := by omega
          have e4 : ((k + 1 : Nat) : Int) < 8 := by omega
          have e5 : ((k + 1 : Nat) : Int).toNat = k + 1 := rfl
          generalize hk1 : k + 1 = k1 at *
          have HK1 := Lib.hid hk1
          clear hk1
          go_still_tail 12, (by kernel_rfl)
          change wpList _ _ _ _ _ W3.drew
          have HM4 := Lib.hid (HM3.out.drew)
          have HN4 := Lib.hid (show W3.drew.heap[N]? = _ from HN3.out)
          clear hd1 ho hn hfn HM3 HN3
          generalize W3.drew = W4 at *
          obtain ⟨hn, hfn⟩ := arr_at HN4.out (i := k1) (by have := HK1.out; omega)
          rw [hC] at hn
          have HM5 := Lib.hid (HM4.out.set hNs hn1 hn2 k1 (.int .u64 ((w64 (C + w64 (A * a1)) : Nat) : Int)))
          have HN5 := Lib.hid (arr_set HN4.out k1 (w64 (C + w64 (A * a1))))
          have HFI : Hid (n2.set k1 (w64 (C + w64 (A * a1))) = mulN a0 a1 l k1) := Lib.hid (by
            have h1 := HS.out
            rw [h1, mul1, hA, HNE.out, HK1.out, add, hC])
          rw [HFI.out] at HN5
          clear HM4 HN4
          go_wp2_with fail
          go_roundw
          case rel => exact ⟨k1, by have := HK1.out; omega, by first | rfl | go_num, HM5.out, HN5.out⟩
          case measure => have := HK1.out; simp [intOf]; omega
        · as_aux_lemma =>
          have hml := mulN_length a0 a1 l k
          rw [show mulN a0 a1 l 6 = mulN a0 a1 l k by rw [show k = 6 by omega]] at HPW
          have hkd : decide ((k : Int) < 6) = false := decide_eq_false (by omega)
          have hkp : ¬ (k : Int) < 6 := by omega
          generalize mulN a0 a1 l k = n at *
          have hcl := carN_length hml 7
          go_wp2_with fail
          go_loopw [12, 59, 60, 61, 62, 63, 64, 65, 66, 67, 68, 69, 70, 71, 72, 73, 74, 75, 76, 77] (fun i _ _ _ _ _ _ _ _ _ _ _ _ _ _ _ _ _ _ _ wp => ∃ k : Nat, k ≤ 7 ∧ i = .int .i64 (k : Int) ∧ MoAt w D (D + 1) a0 a1 l wp ∧ wp.heap[N]? = some (.cells (arr (carN n k)) 61 (0, 0))) (fun i _ _ _ _ _ _ _ _ _ _ _ _ _ _ _ _ _ _ _ _ => 7 - (intOf i).toNat)
          case atStart => exact ⟨0, by omega, rfl, HM.out, HN.out⟩
          case round =>
            clear HM HN
            obtain ⟨k, hk, rfl, hM, hN⟩ := hrel
            rename World => wp
            have HM := Lib.hid hM
            have HN := Lib.hid hN
            clear hM hN
            by_cases hk7 : k < 7
            · as_aux_lemma =>
              have hs : carN n (k + 1) = car1 (carN n k) k := rfl
              have HS := Lib.hid hs
              have hnl := carN_length hml k
              clear hs hcl
              generalize carN n k = c at *
              have hd1 := (arr_at HN.out (i := k) (by omega)).1
              obtain ⟨hn, hfn⟩ := arr_at HN.out (i := k + 1) (by omega)
              generalize hA : c.getD k 0 = A at *
              generalize hC : c.getD (k + 1) 0 = C at *
              have hq : (A : Int) / 262144 = ((A / 262144 : Nat) : Int) := by omega
              generalize hQ : A / 262144 = Q at *
              have hw4 : IntKind.u64.wrap (Q : Int) = ((w64 Q : Nat) : Int) := w64_cast Q
              have hw2 : IntKind.u64.wrap ((C : Int) + ((w64 Q : Nat) : Int)) = ((w64 (C + Q) : Nat) : Int) := by rw [← Int.natCast_add, w64_cast]; unfold w64; omega
              have hw3 : IntKind.i64.wrap ((k : Int) + 1) = ((k + 1 : Nat) : Int) := by rw [IntKind.wrap_i64]; omega
              have e0 : (0 : Int) ≤ (k : Int) := by omega
              have e1 : (k : Int) < 8 := by omega
              have e2 : (k : Int).toNat = k := rfl
              have e3 : (0 : Int) ≤ ((k + 1 : Nat) : Int) := by omega
              have e4 : ((k + 1 : Nat) : Int) < 8 := by omega
              have e5 : ((k + 1 : Nat) : Int).toNat = k + 1 := rfl
              generalize hk1 : k + 1 = k1 at *
              have HK1 := Lib.hid hk1
              clear hk1
              go_upto_region 15 with (fail)
              go_still_tail 10, (by kernel_rfl)
              change wpList _ _ _ _ _ wp.drew
              have HM2 := Lib.hid (HM.out.drew)
              have HN2 := Lib.hid (show wp.drew.heap[N]? = _ from HN.out)
              clear hd1 hn hfn HM HN
              generalize wp.drew = W2 at *
              obtain ⟨hn, hfn⟩ := arr_at HN2.out (i := k1) (by have := HK1.out; omega)
              rw [hC] at hn
              have HM3 := Lib.hid (HM2.out.set hNs hn1 hn2 k1 (.int .u64 ((w64 (C + Q) : Nat) : Int)))
              have HN3 := Lib.hid (arr_set HN2.out k1 (w64 (C + Q)))
              clear HM2 HN2
              rw [← show add c k1 Q = c.set k1 (w64 (C + Q)) from by unfold add; rw [hC]] at HN3
              have hnl2 := add_length c k1 Q
              generalize hc2 : add c k1 Q = c2 at *
              have HC2 := Lib.hid hc2
              clear hc2
              go_upto_region 16 with (fail)
              generalize W2.setCell ⟨N, k1, none⟩ (.int .u64 ((w64 (C + Q) : Nat) : Int)) = W3 at *
              clear hn hfn hw2 hw3 hw4 hq
              obtain ⟨hn, hfn⟩ := arr_at HN3.out (i := k) (by omega)
              generalize hB : c2.getD k 0 = B at *
              have hr : (B : Int) % 262144 = ((B % 262144 : Nat) : Int) := by omega
              generalize hR : B % 262144 = R at *
              have HM5 := Lib.hid (HM3.out.set hNs hn1 hn2 k (.int .u64 (R : Int)))
              have HN5 := Lib.hid (arr_set HN3.out k R)
              have HFI : Hid (c2.set k R = carN n k1) := Lib.hid (by
                rw [HS.out, car1, hA, hQ, HK1.out, HC2.out, hB, hR])
              rw [HFI.out] at HN5
              clear HM3 HN3
              go_wp2_with fail
              go_roundw
              case rel => exact ⟨k1, by have := HK1.out; omega, by have := HK1.out; first | rfl | (rw [← this]; go_num), HM5.out, HN5.out⟩
              case measure => have := HK1.out; simp [intOf]; omega
            · as_aux_lemma =>
              obtain rfl : k = 7 := by omega
              rw [← HPW.out] at HN hcl
              have HM2 := Lib.hid (HM.out.row (by omega) (by omega) (pows x j))
              generalize hLe : pows x j = L at *
              have HLE := Lib.hid hLe
              clear hLe
              go_upto_region 17 with (fail)
              go_wp2_with (first | (refine wpList_load_row rfl 61 (.tmp 10) rfl N (by rfl) 61 (arr L) (0, 0) _ HN.out Tryd.underlying61 rfl (by rw [info8, arr_size, hcl]) ?_) | (refine wpList_store_row rfl 61 (.tmp 8) (.tmp 78) rfl (D + 1) (arr L) (by rfl) (by rfl) 61 (arr l) HM.out.o (by rw [info8, arr_size, hcl]) (by rw [arr_size, arr_size, hcl, hl8]) (arr_all L) ?_))
              go_roundw
              case rel => exact ⟨j + 1, by omega, by omega, by go_num, by rw [show j + 1 - 1 = j by omega, HLE.out]; exact HM2.out⟩
              case measure => simp [intOf]; omega
    · as_aux_lemma =>
      obtain rfl : j = f := by omega
      clear HPA HP0
      obtain ⟨ea, hea⟩ : ∃ ea : Nat, ea = 32 * j / 18 := ⟨_, rfl⟩
      obtain ⟨eb, heb⟩ : ∃ eb : Nat, eb = 32 * j % 18 := ⟨_, rfl⟩
      have ha8 : ea ≤ 5 := by omega
      have hb10 : eb ≤ 10 := by omega
      have hMT : Hid (most x p j = cmp (pows x (j - 1)) (digN (w64 (p * 2 ^ eb)) ea (8 - ea)).1 8) := Lib.hid (by unfold most goalOf; rw [← hea, ← heb])
      have hl8 := pows_length x (j - 1)
      generalize pows x (j - 1) = l at *
      have hq1 : IntKind.i64.wrap (32 * (j : Int)) = ((32 * j : Nat) : Int) := by rw [IntKind.wrap_i64]; omega
      have hq2 : ((32 * j : Nat) : Int) / 18 = (ea : Int) := by omega
      have hq3 : ((32 * j : Nat) : Int) % 18 = (eb : Int) := by omega
      have hq4 : Int.tdiv ((32 * j : Nat) : Int) 18 = (ea : Int) := by rw [Int.tdiv_eq_ediv_of_nonneg (by omega)]; exact hq2
      have hq5 : Int.tmod ((32 * j : Nat) : Int) 18 = (eb : Int) := by rw [Int.tmod_eq_emod_of_nonneg (by omega)]; exact hq3
      have hq6 : IntKind.i64.wrap (ea : Int) = (ea : Int) := by rw [IntKind.wrap_i64]; omega
      have hq7 : IntKind.i64.wrap (eb : Int) = (eb : Int) := by rw [IntKind.wrap_i64]; omega
      have hm0 : (0 : Int) ≤ ((32 * j : Nat) : Int) := by omega
      have hm1 : ((32 * j : Nat) : Int) ≤ 96 := by omega
      clear hea heb
      generalize 32 * j = m at *
      have hDl : D < wr.heap.size := lt_of_heap HM.out.d
      have hOl : D + 1 < wr.heap.size := lt_of_heap HM.out.o
      go_upto_region 22 with (fail)
      have HM1 := Lib.hid (HM.out.alloc hDl hOl (.cells (arr [0, 0, 0, 0, 0, 0, 0, 0]) 61))
      have HN1 := Lib.hid (heap_alloc_new wr (.cells (arr [0, 0, 0, 0, 0, 0, 0, 0]) 61))
      rw [show (#[.int .u64 0, .int .u64 0, .int .u64 0, .int .u64 0, .int .u64 0, .int .u64 0, .int .u64 0, .int .u64 0] : Array Value) = arr [0, 0, 0, 0, 0, 0, 0, 0] from rfl]
      generalize wr.alloc (.cells (arr [0, 0, 0, 0, 0, 0, 0, 0]) 61) = W1 at *
      obtain ⟨N, hN⟩ : ∃ N, N = wr.heap.size := ⟨_, rfl⟩
      rw [← hN] at HN1 ⊢
      have hNs : w.heap.size ≤ N := by have := HM.out.below.size; omega
      have hn1 : D ≠ N := by omega
      have hn2 : D + 1 ≠ N := by omega
      clear HM hDl hOl hN hq1 hq2 hq3 hq4 hq5 hq6 hq7 hm0 hm1
      go_wp2_with fail
      go_loop [17, 18, 86, 87, 88, 89, 90, 91, 92] (fun v i _ _ _ _ _ _ _ => ∃ k : Nat, k ≤ eb ∧ i = .int .i64 (k : Int) ∧ v = .int .u64 ((p * 2 ^ k : Nat) : Int)) (fun _ i _ _ _ _ _ _ _ => eb - (intOf i).toNat)
      case atStart => exact ⟨0, by omega, rfl, by simp⟩
      case round =>
        obtain ⟨k, hk, rfl, rfl⟩ := hrel
        have hpw : p * 2 ^ k ≤ 311 * 2 ^ 10 := Nat.mul_le_mul hp (Nat.pow_le_pow_right (by omega) (by omega))
        by_cases hkb : k < eb
        · as_aux_lemma =>
          have hs : p * 2 ^ (k + 1) = p * 2 ^ k * 2 := by rw [Nat.pow_succ, Nat.mul_assoc]
          have HS := Lib.hid hs
          clear hs
          generalize p * 2 ^ k = v at *
          have hw : IntKind.u64.wrap ((v : Int) * 2) = ((v * 2 : Nat) : Int) := by rw [IntKind.wrap_u64]; omega
          go_wp2_with fail
          go_round
          case rel => exact ⟨k + 1, by omega, by go_num, by rw [HS.out]; first | rfl | go_num⟩
          case measure => simp [intOf]; omega
        · have hke : k = eb := by omega
          rw [hke] at hpw ⊢
          rw [w64_is (show p * 2 ^ eb ≤ _ by omega)] at hMT
          generalize p * 2 ^ eb = V at *
          clear hke hkb hk
          go_wp2_with fail
          go_loopw [17, 19, 94, 95, 96, 97, 98, 99, 100, 101, 102, 103] (fun v i _ _ _ _ _ _ _ _ _ _ wq => ∃ k : Nat, k ≤ 8 - ea ∧ i = .int .i64 ((ea + k : Nat) : Int) ∧ v = .int .u64 (((digN V ea k).2 : Nat) : Int) ∧ MoAt w D (D + 1) a0 a1 l wq ∧ wq.heap[N]? = some (.cells (arr (digN V ea k).1) 61 (0, 0))) (fun _ i _ _ _ _ _ _ _ _ _ _ _ => 8 - (intOf i).toNat)
          case atStart => exact ⟨0, by omega, by simp, rfl, HM1.out, HN1.out⟩
          case round =>
            clear HM1 HN1
            obtain ⟨k, hk, rfl, rfl, hM, hN⟩ := hrel
            rename World => wq
            have HM := Lib.hid hM
            have HN := Lib.hid hN
            clear hM hN
            have hgl := digN_length V ea k
            have hvl := digN_le V ea k
            by_cases hk8 : k < 8 - ea
            · as_aux_lemma =>
              have hs1 : (digN V ea (k + 1)).1 = (digN V ea k).1.set (ea + k) ((digN V ea k).2 % 262144) := rfl
              have hs2 : (digN V ea (k + 1)).2 = (digN V ea k).2 / 262144 := rfl
              have HS1 := Lib.hid hs1
              have HS2 := Lib.hid hs2
              clear hs1 hs2
              generalize digN V ea k = z at *
              obtain ⟨G, v⟩ := z
              dsimp only at HN HS1 HS2 hgl hvl ⊢
              have hq : ea + (k + 1) = ea + k + 1 := rfl
              obtain ⟨q, hqq⟩ : ∃ q, q = ea + k := ⟨_, rfl⟩
              have HQ := Lib.hid hqq
              rw [← hqq] at HS1 ⊢
              have hq8 : q < 8 := by omega
              clear hqq hq
              obtain ⟨hn, hfn⟩ := arr_at HN.out (i := q) (by omega)
              have e0 : (0 : Int) ≤ (q : Int) := by omega
              have e1 : (q : Int) < 8 := by omega
              have e2 : (q : Int).toNat = q := rfl
              have hr : (v : Int) % 262144 = ((v % 262144 : Nat) : Int) := by omega
              have hd : (v : Int) / 262144 = ((v / 262144 : Nat) : Int) := by omega
              have hwd : IntKind.u64.wrap ((v / 262144 : Nat) : Int) = ((v / 262144 : Nat) : Int) := by rw [IntKind.wrap_u64]; omega
              generalize v % 262144 = R at *
              generalize v / 262144 = Q at *
              have HM2 := Lib.hid (HM.out.set hNs hn1 hn2 q (.int .u64 (R : Int)))
              have HN2 := Lib.hid (arr_set HN.out q R)
              rw [← HS1.out] at HN2
              go_wp2_with fail
              go_roundw
              case rel => exact ⟨k + 1, by omega, by rw [show ea + (k + 1) = q + 1 by have := HQ.out; omega]; go_num, by rw [HS2.out], HM2.out, HN2.out⟩
              case measure => simp [intOf]; omega
            · have hk8' : k = 8 - ea := by omega
              rw [hk8'] at HN hgl
              have hkx : ea + k = 8 := by omega
              rw [hkx]
              generalize (digN V ea (8 - ea)).1 = G at *
              generalize (digN V ea k).2 = z at *
              clear hk8' hkx hk8 hvl
              go_wp2_with fail
              go_loopw [20, 104, 105, 106, 107, 108, 109, 110, 111, 112, 113, 114, 115, 116, 117, 118, 119, 120, 121] (fun i _ _ _ _ _ _ _ _ _ _ _ _ _ _ _ _ _ _ wp => ∃ k : Nat, k ≤ 8 ∧ i = .int .i64 ((k : Int) - 1) ∧ cmp l G k = most x p j ∧ MoAt w D (D + 1) a0 a1 l wp ∧ wp.heap[N]? = some (.cells (arr G) 61 (0, 0))) (fun i _ _ _ _ _ _ _ _ _ _ _ _ _ _ _ _ _ _ _ => (intOf i + 1).toNat)
              case atStart => exact ⟨8, by omega, rfl, hMT.out.symm, HM.out, HN.out⟩
              case round =>
                clear HM HN
                obtain ⟨k, hk, rfl, hc, hM, hN⟩ := hrel
                rename World => wp
                have HM := Lib.hid hM
                have HN := Lib.hid hN
                have HC := Lib.hid hc
                clear hM hN hc
                by_cases hk0 : k = 0
                · as_aux_lemma =>
                  have hi0 : ¬ (0 : Int) ≤ (k : Int) - 1 := by omega
                  have hres : most x p j = true := by rw [← HC.out, hk0]; rfl
                  have HR := Lib.hid hres
                  clear hMT hres
                  go_wp2_with fail
                  go_ret
                  exact ⟨by rw [HR.out]; rfl, HM.out.below⟩
                · as_aux_lemma =>
                  obtain ⟨q, hq⟩ : ∃ q, k = q + 1 := ⟨k - 1, by omega⟩
                  have HK := Lib.hid hq
                  have hki : (k : Int) - 1 = (q : Int) := by omega
                  rw [hki]
                  have hs : cmp l G (q + 1) = if l.getD q 0 = G.getD q 0 then cmp l G q else decide (l.getD q 0 < G.getD q 0) := rfl
                  rw [hq, hs] at HC
                  have h1 := (arr_at HM.out.o (i := q) (by omega)).1
                  have h2 := (arr_at HN.out (i := q) (by omega)).1
                  clear hs hq hki hMT
                  generalize hAe : l.getD q 0 = A at *
                  generalize hCe : G.getD q 0 = C at *
                  have HAE := Lib.hid hAe
                  have HCE := Lib.hid hCe
                  clear hAe hCe
                  have e0 : (0 : Int) ≤ (q : Int) := by omega
                  have e1 : (q : Int) < 8 := by have := HK.out; omega
                  have e2 : (q : Int).toNat = q := rfl
                  go_upto_region 34 with (fail)
                  go_quiet (fail)
                  have HM2 : Hid (MoAt w D (D + 1) a0 a1 l (wp.drewN nq)) := Lib.hid ⟨⟨HM.out.below.os, HM.out.below.tape, HM.out.below.output, HM.out.below.size, HM.out.below.block⟩, HM.out.d, HM.out.o⟩
                  have HN2 := Lib.hid (show (wp.drewN nq).heap[N]? = _ from HN.out)
                  generalize wp.drewN nq = W2 at *
                  clear HM HN h1 h2
                  by_cases hAC : A = C
                  · have HCC := Lib.hid HC.out
                    rw [if_pos hAC] at HCC
                    have hb : ((A : Int) != (C : Int)) = false := by simp [hAC]
                    clear HC
                    go_wp2_with fail
                    go_roundw
                    case rel => exact ⟨q, by have := HK.out; omega, by go_num, HCC.out, HM2.out, HN2.out⟩
                    case measure => (simp [intOf]; try omega)
                  · have HCC := Lib.hid HC.out
                    rw [if_neg hAC] at HCC
                    have hb : ((A : Int) != (C : Int)) = true := by rw [bne_iff_ne]; omega
                    have h1 := (arr_at HM2.out.o (i := q) (by have := HK.out; omega)).1
                    have h2 := (arr_at HN2.out (i := q) (by have := HK.out; omega)).1
                    rw [HAE.out] at h1
                    rw [HCE.out] at h2
                    clear HC
                    go_upto_region 35 with (fail)
                    go_quiet (fail)
                    have HB3 : Hid (Below w.heap.size w (W2.drewN nq)) := Lib.hid ⟨HM2.out.below.os, HM2.out.below.tape, HM2.out.below.output, HM2.out.below.size, HM2.out.below.block⟩
                    generalize W2.drewN nq = W3 at *
                    clear HM2 HN2 h1 h2
                    go_wp2_with fail
                    go_ret
                    exact ⟨by rw [← HCC.out]; rfl, HB3.out⟩
end Go.Proofs.YtoabeohfbikpcaaDoor.Sh
