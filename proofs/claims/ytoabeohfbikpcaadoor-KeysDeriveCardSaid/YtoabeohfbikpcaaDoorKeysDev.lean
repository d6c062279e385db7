/-
  Layer 26: the keys of a password, as lists of bytes; the program's functions.
-/
import Derived.Test.YtoabeohfbikpcaaDoorHmacTurn
set_option linter.unusedVariables false
set_option linter.unusedSimpArgs false
namespace Go.Proofs.YtoabeohfbikpcaaDoor.Sh
open Go.RowKit
open Rc
/-- A number in eight bytes, the lowest first. -/
def le8 (n : Nat) : List UInt8 := (List.range 8).map fun i => UInt8.ofNat (n / 2 ^ (8 * i) % 256)
theorem le8_length (n : Nat) : (le8 n).length = 8 := by simp [le8]
theorem le8_get (n : Nat) {i : Nat} (h : i < 8) : (le8 n).getD i 0 = UInt8.ofNat (n / 2 ^ (8 * i) % 256) := by
  simp [le8, List.getD_eq_getElem?_getD, List.getElem?_map, List.getElem?_range h]
/-- The rounds: a text, and the hash of hash, text and the round's number. -/
def kdf (t : List UInt8) : Nat → List UInt8
  | 0 => shaL t
  | i + 1 => shaL (kdf t i ++ t ++ le8 i)
theorem kdf_length (t : List UInt8) : ∀ i, (kdf t i).length = 32
  | 0 => rfl
  | _ + 1 => rfl
/-- A power, as it counts. -/
def clipP (p : Int) : Nat := (min (max p 0) 20).toNat
def cipherL : List UInt8 := [99, 105, 112, 104, 101, 114]
def sumL' : List UInt8 := [115, 117, 109]
theorem arr8_lie {w wr : World} {B : Nat} {l : List UInt8} {t : TypeId} (hb : Below w.heap.size w wr) (h : wr.heap[B]? = some (.cells (arr8 l) t (0, 0))) : Lie w B l wr :=
  ⟨hb, lt_of_heap h, fun j hj => (arr8_at h hj).1, fun j hj => (arr8_at h hj).2⟩
set_option maxRecDepth 100000 in
set_option maxHeartbeats 4000000 in
theorem put8_any (n : Nat) (hn : n ≤ 4294967296) (w : World) :
    Calls Tryd.prog 17 #[.int .i64 (n : Int), .int .i64 8] w fun z w' => z = .returned (.string (tx (le8 n))) ∧ Below w.heap.size w w' := by
  have hmk : (Instr.makeSlice 27 (.int .i64 8) (.int .i64 8)).run Tryd.prog w = .ok (.slice (some ⟨w.heap.size, 0, none⟩) 8 8) (w.alloc (.cells #[.int .u8 0, .int .u8 0, .int .u8 0, .int .u8 0, .int .u8 0, .int .u8 0, .int .u8 0, .int .u8 0] 5)) := by kernel_rfl
  obtain ⟨F, hF0, hFn, hFe⟩ := row_any (le8 n) 8 (le8_length n)
  have HFN := Lib.hid hFn
  have HFE := Lib.hid hFe
  have HG := Lib.hid (fun i (hi : i < 8) => le8_get n hi)
  have HB0 := Lib.hid (show BD w w.heap.size 5 (F 0) (w.alloc (.cells (arr8 (F 0)) 5)) from ⟨(Below.refl _ _).alloc (Nat.le_refl _) _, heap_alloc_new _ _⟩)
  rw [hF0] at HB0
  clear hFn hFe
  rw [show (#[.int .u8 0, .int .u8 0, .int .u8 0, .int .u8 0, .int .u8 0, .int .u8 0, .int .u8 0, .int .u8 0] : Array Value) = arr8 (List.replicate 8 0) from rfl] at hmk
  obtain ⟨D, hD⟩ : ∃ D, D = w.heap.size := ⟨_, rfl⟩
  rw [← hD] at HB0 hmk
  have hds : w.heap.size ≤ D := by omega
  clear hD
  generalize w.alloc (.cells (arr8 (List.replicate 8 0)) 5) = W0 at *
  rw [← hF0] at HB0
  clear hF0
  go_enter Tryd.func17, Tryd.ntmps17
  go_upto_region 2 with (fail)
  clear hmk
  --@1
  go_wp2_with fail
  go_loopw [6, 11, 12, 13, 14, 15, 16, 17, 18, 19, 20, 21, 22] (fun _ j _ _ _ _ _ _ _ _ _ _ _ wr => ∃ k : Nat, k ≤ 8 ∧ j = .int .i64 (k : Int) ∧ BD w D 5 (F k) wr) (fun _ j _ _ _ _ _ _ _ _ _ _ _ _ => 8 - (intOf j).toNat)
  case atStart => exact ⟨0, by omega, rfl, HB0.out⟩
  case round =>
    clear HB0
    obtain ⟨k, hk, rfl, hb⟩ := hrel
    have HB := Lib.hid hb
    clear hb
    by_cases hlt : k < 8
    · as_aux_lemma =>
      obtain ⟨f1, f2⟩ := HFN.out k hlt
      have hg := HG.out k hlt
      obtain ⟨hcn, hfn⟩ := arr8_at HB.out.d (i := k) (by omega)
      obtain ⟨s, hs⟩ : ∃ s, s = 8 * k := ⟨_, rfl⟩
      rw [← hs] at hg
      have g6 : (8 : Int) * (k : Int) = (s : Int) := by omega
      have g7 : (0 : Int) ≤ (s : Int) := by omega
      have g8 : (s : Int) ≤ 64 := by omega
      have g9 : (s : Int).toNat = s := rfl
      have e0 : (0 : Int) ≤ (k : Int) := by omega
      have e1 : (k : Int) < 8 := by omega
      have e2 : (k : Int).toNat = k := rfl
      clear hs
      have HV := Lib.hid (byte_at n s)
      rw [← hg] at HV
      generalize (le8 n).getD k 0 = bv at *
      have HB2 := Lib.hid (HB.out.set hds k bv)
      rw [f2] at HB2
      clear hg f1 f2
      --@2
      go_wp2_with fail
      --@3
      go_roundw
      case rel => rw [HV.out]; exact ⟨k + 1, by omega, by go_num, HB2.out⟩
      case measure => simp [intOf]; omega
    · as_aux_lemma =>
      have hkd : decide ((k : Int) < 8) = false := decide_eq_false (by omega)
      have hkp : ¬ (k : Int) < 8 := by omega
      rw [show F k = le8 n by rw [show k = 8 by omega, HFE.out]] at HB
      have hcv := bytes_text (W := wr) (k := D) (cap := 8) (le8 n) (fun i hi => (arr8_at HB.out.d (i := i) hi).1)
      rw [le8_length] at hcv
      generalize hres : le8 n = res at hcv
      have HRES := Lib.hid hres
      clear hres
      --@4
      go_wp2_with fail
      go_ret
      exact ⟨by rw [HRES.out]; rfl, HB.out.below⟩
/-- A struct of two texts, as it was made, in a block of one's own. -/
structure RB (w : World) (D : Nat) (wr : World) : Prop where
  below : Below w.heap.size w wr
  d : wr.heap[D]? = some (.cells #[.string ByteArray.empty, .string ByteArray.empty] 29 (0, 0))
theorem RB.trans {w wr w2 : World} {D : Nat} (h : RB w D wr) (hb : Below wr.heap.size wr w2) : RB w D w2 :=
  ⟨h.below.trans (hb.mono h.below.size), (hb.block D (lt_of_heap h.d)).trans h.d⟩
set_option maxRecDepth 100000 in
theorem rounds_any (p : Int) (h0 : -9223372036854775808 ≤ p) (h1 : p ≤ 9223372036854775807) (w : World) :
    Calls Tryd.prog 16 #[.int .i64 p] w fun z w' => z = .returned (.int .i64 ((2 ^ clipP p : Nat) : Int)) ∧ w = w' := by
  have HC : Hid (clipP p ≤ 20) := Lib.hid (by unfold clipP; omega)
  have HM : Hid (((clipP p : Nat) : Int) = min (max p 0) 20) := Lib.hid (by unfold clipP; omega)
  generalize clipP p = c at *
  go_enter Tryd.func16, Tryd.ntmps16
  go_wp2_with fail
  rw [← HM.out]
  have e1 : ((c : Nat) : Int).toNat = c := rfl
  have e2 : ((2 : Int) ^ c) = ((2 ^ c : Nat) : Int) := by simp
  have e3 : 2 ^ c ≤ 2 ^ 20 := Nat.pow_le_pow_right (by decide) HC.out
  have e4 : wrap64 (2 ^ ((c : Nat) : Int).toNat) = ((2 ^ c : Nat) : Int) := by
    rw [e1, e2]
    generalize 2 ^ c = x at *
    unfold wrap64
    omega
  rw [e4]
  go_ret
  exact ⟨rfl, rfl⟩
set_option maxRecDepth 100000 in
set_option maxHeartbeats 4000000 in
theorem derive_any (pw sa : List UInt8) (hp : pw.length ≤ 300000) (hs : sa.length ≤ 300000) (p : Int) (h0 : -9223372036854775808 ≤ p) (h1 : p ≤ 9223372036854775807) (w : World) (hks : Ks w) (hz : 0 < w.heap.size) :
    Calls Tryd.prog 8 #[.string (tx pw), .string (tx sa), .int .i64 p] w fun z w' => z = .returned (.agg #[.string (tx (hmacL (kdf (sa ++ pw) (2 ^ clipP p)) cipherL)), .string (tx (hmacL (kdf (sa ++ pw) (2 ^ clipP p)) sumL'))]) ∧ Below w.heap.size w w' := by
  have HRO := Lib.hid (fun (V : World) => rounds_any p h0 h1 V)
  have HN : Hid (2 ^ clipP p ≤ 1048576) := Lib.hid (by
    have : 2 ^ clipP p ≤ 2 ^ 20 := Nat.pow_le_pow_right (by decide) (by unfold clipP; omega)
    exact this)
  have HKS := Lib.hid (fun (V : World) (hb : Below w.heap.size w V) => hks.below hb hz)
  have HZ := Lib.hid (fun (V : World) (hb : Below w.heap.size w V) => Nat.lt_of_lt_of_le hz hb.size)
  have HA := Lib.hid (tx_append sa pw)
  have s1 : (tx sa).size = sa.length := tx_size _
  have s2 : (tx pw).size = pw.length := tx_size _
  have s3 : (tx (sa ++ pw)).size = sa.length + pw.length := by rw [tx_size, List.length_append]
  have htl : (sa ++ pw).length ≤ 600000 := by rw [List.length_append]; omega
  generalize hT : sa ++ pw = T at *
  clear hT
  have HS0 := Lib.hid (fun (V : World) (hb : Below w.heap.size w V) => show Calls Tryd.prog 10 #[.string (tx T)] V fun z w' => z = .returned (.string (tx (kdf T 0))) ∧ Below V.heap.size V w' from sum_any T (by omega) V (HKS.out V hb) (HZ.out V hb))
  have HSN := Lib.hid (fun (i : Nat) (V : World) (hb : Below w.heap.size w V) => show Calls Tryd.prog 10 #[.string (tx (kdf T i) ++ tx T ++ tx (le8 i))] V fun z w' => z = .returned (.string (tx (kdf T (i + 1)))) ∧ Below V.heap.size V w' from by
    rw [tx_append, tx_append]
    exact sum_any (kdf T i ++ T ++ le8 i) (by rw [List.length_append, List.length_append, kdf_length, le8_length]; omega) V (HKS.out V hb) (HZ.out V hb))
  have HPU := Lib.hid (fun (i : Nat) (hi : i ≤ 4294967296) (V : World) => put8_any i hi V)
  have HSI := Lib.hid (fun i => show (tx (kdf T i)).size = 32 by rw [tx_size, kdf_length])
  have HSL := Lib.hid (fun i => show (tx (le8 i)).size = 8 by rw [tx_size, le8_length])
  have HM1 := Lib.hid (fun (i : Nat) (V : World) (hb : Below w.heap.size w V) => show Calls Tryd.prog 11 #[.string (tx (kdf T i)), .string ⟨#[99, 105, 112, 104, 101, 114]⟩] V fun z w' => z = .returned (.string (tx (hmacL (kdf T i) cipherL))) ∧ Below V.heap.size V w' from hsum_any (kdf T i) cipherL (by rw [kdf_length]; omega) (by decide) V (HKS.out V hb) (HZ.out V hb))
  have HM2 := Lib.hid (fun (i : Nat) (V : World) (hb : Below w.heap.size w V) => show Calls Tryd.prog 11 #[.string (tx (kdf T i)), .string ⟨#[115, 117, 109]⟩] V fun z w' => z = .returned (.string (tx (hmacL (kdf T i) sumL'))) ∧ Below V.heap.size V w' from hsum_any (kdf T i) sumL' (by rw [kdf_length]; omega) (by decide) V (HKS.out V hb) (HZ.out V hb))
  generalize 2 ^ clipP p = N at *
  generalize tx T = TX at *
  generalize tx sa = A at *
  generalize tx pw = B at *
  clear hks hz h0 h1
  obtain ⟨D, hD⟩ : ∃ D, D = w.heap.size := ⟨_, rfl⟩
  have HB0 := Lib.hid (show RB w D (w.alloc (.cells #[.string ByteArray.empty, .string ByteArray.empty] 29)) from ⟨(Below.refl _ _).alloc (Nat.le_refl _) _, hD ▸ heap_alloc_new _ _⟩)
  go_enter Tryd.func8, Tryd.ntmps8
  go_upto_region 1 with (fail)
  rw [← hD]
  have hds : w.heap.size ≤ D := by omega
  clear hD
  rw [show (ByteArray.empty) = (⟨#[]⟩ : ByteArray) from rfl] at HB0
  generalize w.alloc (.cells #[.string ⟨#[]⟩, .string ⟨#[]⟩] 29) = W0 at *
  --@6
  go_upto_region 2 with (fail)
  rw [HA.out]
  go_wp2_with fail
  refine (HS0.out _ HB0.out.below).mono ?_
  rintro z w1 ⟨rfl, hb1⟩
  have HB1 := Lib.hid (HB0.out.trans hb1)
  clear hb1 HB0
  go_wp2_with fail
  refine (HRO.out _).mono ?_
  rintro z w2 ⟨rfl, rfl⟩
  --@7
  go_wp2_with fail
  go_loopw [8, 9, 17, 18, 19, 20, 21, 22, 23, 24, 25, 26, 27] (fun h _ j _ _ _ _ _ _ _ _ _ _ wr => ∃ k : Nat, k ≤ N ∧ h = .string (tx (kdf T k)) ∧ j = .int .i64 (k : Int) ∧ RB w D wr) (fun _ _ j _ _ _ _ _ _ _ _ _ _ _ => N - (intOf j).toNat)
  case atStart => exact ⟨0, by omega, rfl, rfl, HB1.out⟩
  case round =>
    clear HB1
    obtain ⟨k, hk, rfl, rfl, hb⟩ := hrel
    have HB := Lib.hid hb
    clear hb
    have hsi := HSI.out k
    by_cases hlt : k < N
    · as_aux_lemma =>
      have HPK := Lib.hid (fun (V : World) => HPU.out k (by have := HN.out; omega) V)
      have HSK := Lib.hid (HSN.out k)
      have hsl := HSL.out k
      have hn := HN.out
      have hlt2 : (k : Int) < (N : Int) := by omega
      generalize tx (kdf T k) = H at *
      generalize tx (le8 k) = L at *
      --@8
      go_wp2_with fail
      refine (HPK.out _).mono ?_
      rintro z w4 ⟨rfl, hb4⟩
      have HB4 := Lib.hid (HB.out.trans hb4)
      clear hb4
      go_wp2_with fail
      refine (HSK.out _ HB4.out.below).mono ?_
      rintro z w5 ⟨rfl, hb5⟩
      have HB5 := Lib.hid (HB4.out.trans hb5)
      clear hb5
      --@9
      go_wp2_with fail
      go_roundw
      case rel => exact ⟨k + 1, by omega, rfl, by go_num, HB5.out⟩
      case measure => simp [intOf]; omega
    · as_aux_lemma =>
      have hkp : ¬ (k : Int) < (N : Int) := by omega
      have hkd : decide ((k : Int) < (N : Int)) = false := decide_eq_false hkp
      rw [show tx (kdf T k) = tx (kdf T N) by rw [show k = N by omega]] at hsi ⊢
      have HK1 := Lib.hid (HM1.out N)
      have HK2 := Lib.hid (HM2.out N)
      generalize hX1 : tx (hmacL (kdf T N) cipherL) = X1 at *
      generalize hX2 : tx (hmacL (kdf T N) sumL') = X2 at *
      have HX1 := Lib.hid hX1
      have HX2 := Lib.hid hX2
      clear hX1 hX2
      generalize tx (kdf T N) = H at *
      --@10
      go_wp2_with fail
      refine (HK1.out _ HB.out.below).mono ?_
      rintro z w4 ⟨rfl, hb4⟩
      have HB4 := Lib.hid (HB.out.trans hb4)
      clear hb4
      go_wp2_with fail
      refine (HK2.out _ HB4.out.below).mono ?_
      rintro z w5 ⟨rfl, hb5⟩
      have HB5 := Lib.hid (HB4.out.trans hb5)
      clear hb5
      have c0 : w5.cell? ⟨D, 0, none⟩ = some (.string ByteArray.empty) := by simp [World.cell?, HB5.out.d]
      have c1 : w5.cell? ⟨D, 1, none⟩ = some (.string ByteArray.empty) := by simp [World.cell?, HB5.out.d]
      have z0 : w5.frozen? ⟨D, 0, none⟩ = false := by simp [World.frozen?, HB5.out.d]
      have z1 : w5.frozen? ⟨D, 1, none⟩ = false := by simp [World.frozen?, HB5.out.d]
      have hd2 := heap_setCell_same _ _ 0 _ _ (.string X1) HB5.out.d
      have hd3 := heap_setCell_same _ _ 1 _ _ (.string X2) hd2
      have HE := Lib.hid hd3
      clear hd2 hd3
      --@11
      go_wp2_with fail
      have hbe : Below w.heap.size w ((w5.setCell ⟨D, 0, none⟩ (.string X1)).setCell ⟨D, 1, none⟩ (.string X2)) := (HB5.out.below.setCell hds _).setCell hds _
      have hd3 := HE.out
      generalize (w5.setCell ⟨D, 0, none⟩ (.string X1)).setCell ⟨D, 1, none⟩ (.string X2) = W9 at *
      have c0 : W9.cell? ⟨D, 0, none⟩ = some (.string X1) := by simp [World.cell?, hd3]
      have c1 : W9.cell? ⟨D, 1, none⟩ = some (.string X2) := by simp [World.cell?, hd3]
      refine bodyPost_ret (v := .agg #[.string X1, .string X2]) ?_ rfl ⟨by rw [HX1.out, HX2.out], hbe⟩
      simp [results, Tryd.results8, go_sem, c0, c1]
end Go.Proofs.YtoabeohfbikpcaaDoor.Sh
