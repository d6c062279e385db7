/-
  Layer 23, the program's: the text's end lengthened, the registers as bytes, the sum.
-/
import Derived.Test.YtoabeohfbikpcaaDoorShaAll
import Derived.Lib.BufferWrite
set_option linter.unusedVariables false
set_option linter.unusedSimpArgs false
namespace Go.Proofs.YtoabeohfbikpcaaDoor.Sh
open Go.RowKit
open Rc
/-- Bytes as cells. -/
def arr8 (l : List UInt8) : Array Value := (l.map fun b : UInt8 => Value.int .u8 (b.toNat : Int)).toArray
theorem arr8_at {w : World} {N : Nat} {l : List UInt8} {t : TypeId} (h : w.heap[N]? = some (.cells (arr8 l) t (0, 0))) {i : Nat} (hi : i < l.length) : w.cell? ⟨N, i, none⟩ = some (.int .u8 ((l.getD i 0).toNat : Int)) ∧ w.frozen? ⟨N, i, none⟩ = false := by
  constructor
  · simp [World.cell?, h, arr8, hi, List.getD]
  · simp [World.frozen?, h]
theorem arr8_set {w : World} {N : Nat} {l : List UInt8} {t : TypeId} (h : w.heap[N]? = some (.cells (arr8 l) t (0, 0))) (i : Nat) (v : UInt8) : (w.setCell ⟨N, i, none⟩ (.int .u8 (v.toNat : Int))).heap[N]? = some (.cells (arr8 (l.set i v)) t (0, 0)) := by
  rw [heap_setCell_same w N i _ _ _ h]
  congr 2
  simp [arr8, List.map_set]
theorem arr8_size (l : List UInt8) : (arr8 l).size = l.length := by simp [arr8]
structure BD (w : World) (D : Nat) (t : TypeId) (l : List UInt8) (wr : World) : Prop where
  below : Below w.heap.size w wr
  d : wr.heap[D]? = some (.cells (arr8 l) t (0, 0))
theorem BD.set {w wr : World} {D : Nat} {t : TypeId} {l : List UInt8} (h : BD w D t l wr) (hD : w.heap.size ≤ D) (i : Nat) (v : UInt8) : BD w D t (l.set i v) (wr.setCell ⟨D, i, none⟩ (.int .u8 (v.toNat : Int))) :=
  ⟨h.below.setCell hD _, arr8_set h.d i v⟩
/-- The last bytes of a text, as they are laid: so many of the number's bytes. -/
def lay (e : List UInt8) (N size k : Nat) : List UInt8 := e ++ (128 :: (List.replicate (size - 1 - e.length - k) 0 ++ (be N k ++ List.replicate (128 - size) 0)))
theorem lay_length {e : List UInt8} {N size k : Nat} (h : e.length + 9 ≤ size) (hs : size ≤ 128) (hk : k ≤ 8) : (lay e N size k).length = 128 := by
  simp only [lay, List.length_append, List.length_cons, List.length_replicate, be_length]
  omega
theorem lay_next {e : List UInt8} {N size k : Nat} (h : e.length + 9 ≤ size) (hs : size ≤ 128) (hk : k < 8) : (lay e N size k).set (size - 1 - k) (UInt8.ofNat (N / 256 ^ k % 256)) = lay e N size (k + 1) := by
  unfold lay
  obtain ⟨z, hz⟩ : ∃ z, size - 1 - e.length - k = z + 1 := ⟨size - 1 - e.length - k - 1, by omega⟩
  have hz2 : size - 1 - e.length - (k + 1) = z := by omega
  rw [hz, hz2, List.replicate_succ', List.append_assoc, List.set_append, if_neg (by omega)]
  rw [show size - 1 - k - e.length = (z + 1) + 0 by omega]
  congr 1
  rw [show z + 1 + 0 = z + 1 from rfl, List.set_cons_succ]
  congr 1
  rw [List.set_append, if_neg (by simp), List.length_replicate, Nat.sub_self]
  rfl
theorem lay_end {e : List UInt8} {N size n : Nat} (hN : N = w64 (8 * n)) (hs : size = if e.length + 9 ≤ 64 then 64 else 128) (he : e.length < 64) : (lay e N size 8).take size = e ++ tailOf e.length n := by
  subst hN
  have hz : size - 1 - e.length - 8 = zeros e.length := by
    unfold zeros
    split at hs <;> omega
  have hl : (e ++ (128 :: (List.replicate (zeros e.length) 0 ++ be (w64 (8 * n)) 8))).length = size := by
    simp only [List.length_append, List.length_cons, List.length_replicate, be_length, zeros]
    split at hs <;> omega
  unfold lay tailOf
  rw [hz]
  rw [show e ++ (128 :: (List.replicate (zeros e.length) 0 ++ (be (w64 (8 * n)) 8 ++ List.replicate (128 - size) 0))) = (e ++ (128 :: (List.replicate (zeros e.length) 0 ++ be (w64 (8 * n)) 8))) ++ List.replicate (128 - size) 0 by simp]
  rw [← hl]
  exact List.take_left
theorem lay_zero {e : List UInt8} {N size : Nat} (h : e.length + 9 ≤ size) (hs : size ≤ 128) : (e ++ List.replicate (128 - e.length) 0).set e.length 128 = lay e N size 0 := by
  unfold lay
  rw [List.set_append, if_neg (by omega), Nat.sub_self]
  obtain ⟨z, hz⟩ : ∃ z, 128 - e.length = z + 1 := ⟨127 - e.length, by omega⟩
  rw [hz, List.replicate_succ, List.set_cons_zero]
  congr 2
  rw [be, List.nil_append, List.replicate_append_replicate]
  congr 1
  omega
theorem size8 : (Tryd.prog.info? 5).map (·.size) = some 1 := by kernel_rfl
theorem splice (M : Nat) (e : List UInt8) : ((arr8 (List.replicate M 0)).toList.take 0 ++ Lib.byteCells (tx e).data.toList ++ (arr8 (List.replicate M 0)).toList.drop (0 + e.length)).toArray = arr8 (e ++ List.replicate (M - e.length) 0) := by
  simp [arr8, Lib.byteCells, tx]
theorem copy_text {V : World} {D : Nat} {e : List UInt8} {t : TypeId} (h : V.heap[D]? = some (.cells (arr8 (List.replicate 128 0)) t (0, 0))) (he : e.length ≤ 128) :
    (Builtin.copy_ #[27, 9] 3 #[.slice (some ⟨D, 0, none⟩) 128 128, .string (tx e)]).run Tryd.prog V = .ok (.int .i64 ((e.length : Nat) : Int)) (V.setRow D (arr8 (e ++ List.replicate (128 - e.length) 0))) := by
  have h1 := Lib.run_copy_row_string (P := Tryd.prog) V 27 9 3 5 D 0 128 128 (tx e) _ t Tryd.underlying27 size8 h (by rw [tx_size]; exact he) (by rw [tx_size, arr8_size, List.length_replicate]; omega)
  rw [h1, tx_size]
  have e1 := splice 128 e
  rw [e1]
  rfl
theorem byte_of (n k : Nat) : 8 * (n : Int) / 2 ^ (8 * k) % 256 = (((UInt8.ofNat (8 * n / 256 ^ k % 256)).toNat : Nat) : Int) := by
  have e : 8 * (n : Int) / 2 ^ (8 * k) = ((8 * n / 2 ^ (8 * k) : Nat) : Int) := by simp
  rw [e, UInt8.toNat_ofNat', Nat.pow_mul, show (2 : Nat) ^ 8 = 256 from rfl]
  generalize 8 * n / 256 ^ k = q
  omega
theorem zero128 (w : World) : (zeroValue 59).run Tryd.prog w = .ok (.agg (arr8 (List.replicate 128 0))) w := by kernel_rfl
set_option maxRecDepth 100000 in
set_option maxHeartbeats 4000000 in
theorem lengthened_any (e : List UInt8) (he : e.length < 64) (n : Nat) (hn : n ≤ 1000000) (w : World) :
    Calls Tryd.prog 20 #[.string (tx e), .int .i64 (n : Int)] w fun z w' => z = .returned (.string (tx (e ++ tailOf e.length n))) ∧ Below w.heap.size w w' := by
  have hES := tx_size e
  have HB0 := Lib.hid (show BD w w.heap.size 59 (List.replicate 128 0) (w.alloc (.cells (arr8 (List.replicate 128 0)) 59)) from ⟨(Below.refl _ _).alloc (Nat.le_refl _) _, heap_alloc_new _ _⟩)
  have hzv := zero128 w
  generalize hz0 : List.replicate 128 (0 : UInt8) = z0 at *
  generalize hm : e.length = m at *
  generalize hE : tx e = E at *
  have HE := Lib.hid hE
  clear hE
  go_enter Tryd.func20, Tryd.ntmps20
  go_upto_region 2 with (fail)
  --@1
  obtain ⟨D, hD⟩ : ∃ D, D = w.heap.size := ⟨_, rfl⟩
  rw [← hD] at HB0 ⊢
  have hds : w.heap.size ≤ D := by omega
  clear hD hzv
  generalize w.alloc (.cells (arr8 z0) 59) = W0 at *
  rw [← hz0] at HB0
  clear hz0
  have HCP := Lib.hid (copy_text (e := e) HB0.out.d (by omega))
  rw [HE.out] at HCP
  have HBC := Lib.hid (show BD w D 59 (e ++ List.replicate (128 - e.length) 0) (W0.setRow D (arr8 (e ++ List.replicate (128 - e.length) 0))) from ⟨HB0.out.below.trans ⟨rfl, rfl, rfl, by rw [setRow_size]; exact Nat.le_refl _, fun k hk => setRow_other W0 D k _ (by omega)⟩, setRow_heap W0 D _ _ _ _ HB0.out.d⟩)
  clear HB0
  by_cases h9 : m + 9 ≤ 64
  · as_aux_lemma =>
    have hle : m + 9 ≤ 64 := by omega
    have hN : w64 (8 * n) = 8 * n := w64_is (by omega)
    have HLZ := Lib.hid (lay_zero (N := 8 * n) (e := e) (size := 64) (by omega) (by omega))
    have HLN := Lib.hid (fun k (hk : k < 8) => lay_next (e := e) (N := 8 * n) (size := 64) (k := k) (by omega) (by omega) hk)
    have HLL := Lib.hid (fun k (hk : k ≤ 8) => lay_length (e := e) (N := 8 * n) (size := 64) (k := k) (by omega) (by omega) hk)
    have HLE := Lib.hid (lay_end (e := e) (N := 8 * n) (size := 64) (n := n) hN.symm (by rw [hm]; simp; omega) (by omega))
    rw [hm] at HLZ HCP HBC HLE
    have ht : ¬ (64 : Int) < (m : Int) + 1 + 8 := by omega
    go_upto_region 5 with (fail)
    have hcp := HCP.out
    have hel : (e ++ List.replicate (128 - m) 0).length = 128 := by rw [List.length_append, List.length_replicate]; omega
    generalize e ++ List.replicate (128 - m) 0 = l0 at *
    go_upto_region 6 with (fail)
    clear hcp HCP
    generalize W0.setRow D (arr8 l0) = W1 at *
    obtain ⟨hn, hfn⟩ := arr8_at HBC.out.d (i := m) (by omega)
    have HB1 := Lib.hid (show BD w D 59 (lay e (8 * n) 64 0) (W1.setCell ⟨D, m, none⟩ (.int .u8 128)) from by rw [← HLZ.out]; exact HBC.out.set hds m 128)
    clear HBC HLZ hel hN
    --@a1
    go_upto_region 7 with (fail)
    generalize W1.setCell ⟨D, m, none⟩ (.int .u8 128) = W2 at *
    clear hn hfn
    go_upto_region 8 with (fail)
    --@a2
    go_wp2_with fail
    go_loopw [8, 26, 27, 28, 29, 30, 31, 32, 33, 34, 35, 36, 37, 38, 39] (fun _ j _ _ _ _ _ _ _ _ _ _ _ _ _ wr => ∃ k : Nat, k ≤ 8 ∧ j = .int .i64 (k : Int) ∧ BD w D 59 (lay e (8 * n) 64 k) wr) (fun _ j _ _ _ _ _ _ _ _ _ _ _ _ _ _ => 8 - (intOf j).toNat)
    case atStart => exact ⟨0, by omega, rfl, HB1.out⟩
    case round =>
      clear HB1
      obtain ⟨k, hk, rfl, hb⟩ := hrel
      have HB := Lib.hid hb
      clear hb
      by_cases h8 : k < 8
      · as_aux_lemma =>
        have HNX := Lib.hid (HLN.out k h8)
        have hll := HLL.out k hk
        have f0 : (0 : Int) ≤ 63 - (k : Int) := by omega
        have f1 : 63 - (k : Int) < 128 := by omega
        have f2 : (63 - (k : Int)).toNat = 63 - k := by omega
        have f3 : IntKind.i64.wrap (63 - (k : Int)) = 63 - (k : Int) := by rw [IntKind.wrap_i64]; omega
        have f4 : (0 : Int) ≤ 8 * (k : Int) := by omega
        have f5 : 8 * (k : Int) ≤ 64 := by omega
        have f6 : (8 * (k : Int)).toNat = 8 * k := by omega
        have f7 : IntKind.i64.wrap (8 * (k : Int)) = 8 * (k : Int) := by rw [IntKind.wrap_i64]; omega
        have HV := Lib.hid (byte_of n k)
        obtain ⟨hn, hfn⟩ := arr8_at HB.out.d (i := 63 - k) (by omega)
        have HB2 := Lib.hid (HB.out.set hds (63 - k) (UInt8.ofNat (8 * n / 256 ^ k % 256)))
        rw [show 63 - k = 64 - 1 - k by omega, HNX.out, show 64 - 1 - k = 63 - k by omega] at HB2
        generalize UInt8.ofNat (8 * n / 256 ^ k % 256) = bv at *
        --@a3
        go_wp2_with fail
        --@a4
        go_roundw
        case rel => rw [HV.out]; exact ⟨k + 1, by omega, by go_num, HB2.out⟩
        case measure => simp [intOf]; omega
      · as_aux_lemma =>
        have hk8 : k = 8 := by omega
        have hkd : decide ((k : Int) < 8) = false := decide_eq_false (by omega)
        have hkp : ¬ (k : Int) < 8 := by omega
        have hcv := bytes_text (W := wr) (k := D) (cap := 128) ((lay e (8 * n) 64 8).take 64) (fun i hi => by
          rw [List.length_take, HLL.out 8 (by omega)] at hi
          rw [hk8] at HB
          have := (arr8_at HB.out.d (i := i) (by rw [HLL.out 8 (by omega)]; omega)).1
          rw [this, List.getD_eq_getElem?_getD, List.getD_eq_getElem?_getD, List.getElem?_take, if_pos (by omega)])
        rw [HLE.out, show (e ++ tailOf m n).length = 64 by rw [← HLE.out, List.length_take, HLL.out 8 (by omega)]; rfl] at hcv
        generalize hres : e ++ tailOf m n = res at hcv
        have HRES := Lib.hid hres
        clear hres
        --@a5
        go_wp2_with fail
        go_ret
        exact ⟨by rw [HRES.out]; rfl, HB.out.below⟩
  · as_aux_lemma =>
    have hle : m + 9 ≤ 128 := by omega
    have hN : w64 (8 * n) = 8 * n := w64_is (by omega)
    have HLZ := Lib.hid (lay_zero (N := 8 * n) (e := e) (size := 128) (by omega) (by omega))
    have HLN := Lib.hid (fun k (hk : k < 8) => lay_next (e := e) (N := 8 * n) (size := 128) (k := k) (by omega) (by omega) hk)
    have HLL := Lib.hid (fun k (hk : k ≤ 8) => lay_length (e := e) (N := 8 * n) (size := 128) (k := k) (by omega) (by omega) hk)
    have HLE := Lib.hid (lay_end (e := e) (N := 8 * n) (size := 128) (n := n) hN.symm (by rw [hm]; simp; omega) (by omega))
    rw [hm] at HLZ HCP HBC HLE
    have ht : (64 : Int) < (m : Int) + 1 + 8 := by omega
    go_upto_region 5 with (fail)
    have hcp := HCP.out
    have hel : (e ++ List.replicate (128 - m) 0).length = 128 := by rw [List.length_append, List.length_replicate]; omega
    generalize e ++ List.replicate (128 - m) 0 = l0 at *
    go_upto_region 6 with (fail)
    clear hcp HCP
    generalize W0.setRow D (arr8 l0) = W1 at *
    obtain ⟨hn, hfn⟩ := arr8_at HBC.out.d (i := m) (by omega)
    have HB1 := Lib.hid (show BD w D 59 (lay e (8 * n) 128 0) (W1.setCell ⟨D, m, none⟩ (.int .u8 128)) from by rw [← HLZ.out]; exact HBC.out.set hds m 128)
    clear HBC HLZ hel hN
    --@b1
    go_upto_region 7 with (fail)
    generalize W1.setCell ⟨D, m, none⟩ (.int .u8 128) = W2 at *
    clear hn hfn
    go_upto_region 8 with (fail)
    --@b2
    go_wp2_with fail
    go_loopw [8, 26, 27, 28, 29, 30, 31, 32, 33, 34, 35, 36, 37, 38, 39] (fun _ j _ _ _ _ _ _ _ _ _ _ _ _ _ wr => ∃ k : Nat, k ≤ 8 ∧ j = .int .i64 (k : Int) ∧ BD w D 59 (lay e (8 * n) 128 k) wr) (fun _ j _ _ _ _ _ _ _ _ _ _ _ _ _ _ => 8 - (intOf j).toNat)
    case atStart => exact ⟨0, by omega, rfl, HB1.out⟩
    case round =>
      clear HB1
      obtain ⟨k, hk, rfl, hb⟩ := hrel
      have HB := Lib.hid hb
      clear hb
      by_cases h8 : k < 8
      · as_aux_lemma =>
        have HNX := Lib.hid (HLN.out k h8)
        have hll := HLL.out k hk
        have f0 : (0 : Int) ≤ 127 - (k : Int) := by omega
        have f1 : 127 - (k : Int) < 128 := by omega
        have f2 : (127 - (k : Int)).toNat = 127 - k := by omega
        have f3 : IntKind.i64.wrap (127 - (k : Int)) = 127 - (k : Int) := by rw [IntKind.wrap_i64]; omega
        have f4 : (0 : Int) ≤ 8 * (k : Int) := by omega
        have f5 : 8 * (k : Int) ≤ 64 := by omega
        have f6 : (8 * (k : Int)).toNat = 8 * k := by omega
        have f7 : IntKind.i64.wrap (8 * (k : Int)) = 8 * (k : Int) := by rw [IntKind.wrap_i64]; omega
        have HV := Lib.hid (byte_of n k)
        obtain ⟨hn, hfn⟩ := arr8_at HB.out.d (i := 127 - k) (by omega)
        have HB2 := Lib.hid (HB.out.set hds (127 - k) (UInt8.ofNat (8 * n / 256 ^ k % 256)))
        rw [show 127 - k = 128 - 1 - k by omega, HNX.out, show 128 - 1 - k = 127 - k by omega] at HB2
        generalize UInt8.ofNat (8 * n / 256 ^ k % 256) = bv at *
        --@b3
        go_wp2_with fail
        --@b4
        go_roundw
        case rel => rw [HV.out]; exact ⟨k + 1, by omega, by go_num, HB2.out⟩
        case measure => simp [intOf]; omega
      · as_aux_lemma =>
        have hk8 : k = 8 := by omega
        have hkd : decide ((k : Int) < 8) = false := decide_eq_false (by omega)
        have hkp : ¬ (k : Int) < 8 := by omega
        have hcv := bytes_text (W := wr) (k := D) (cap := 128) ((lay e (8 * n) 128 8).take 128) (fun i hi => by
          rw [List.length_take, HLL.out 8 (by omega)] at hi
          rw [hk8] at HB
          have := (arr8_at HB.out.d (i := i) (by rw [HLL.out 8 (by omega)]; omega)).1
          rw [this, List.getD_eq_getElem?_getD, List.getD_eq_getElem?_getD, List.getElem?_take, if_pos (by omega)])
        rw [HLE.out, show (e ++ tailOf m n).length = 128 by rw [← HLE.out, List.length_take, HLL.out 8 (by omega)]; rfl] at hcv
        generalize hres : e ++ tailOf m n = res at hcv
        have HRES := Lib.hid hres
        clear hres
        --@b5
        go_wp2_with fail
        go_ret
        exact ⟨by rw [HRES.out]; rfl, HB.out.below⟩
end Go.Proofs.YtoabeohfbikpcaaDoor.Sh
