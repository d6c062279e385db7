/-
  Layer 23, the program's: the registers as bytes; the sum of a text.
-/
import Derived.Test.YtoabeohfbikpcaaDoorShaTop
set_option linter.unusedVariables false
set_option linter.unusedSimpArgs false
namespace Go.Proofs.YtoabeohfbikpcaaDoor.Sh
open Go.RowKit
open Rc
/-- A row of bytes laid one by one. -/
theorem row_any (l : List UInt8) (n : Nat) (hl : l.length = n) : ∃ F : Nat → List UInt8, F 0 = List.replicate n 0 ∧ (∀ i, i < n → (F i).length = n ∧ (F i).set i (l.getD i 0) = F (i + 1)) ∧ F n = l := by
  refine ⟨fun i => l.take i ++ List.replicate (n - i) 0, by simp, fun i h => ⟨by simp; omega, ?_⟩, by subst hl; simp⟩
  obtain ⟨z, hz⟩ : ∃ z, n - i = z + 1 := ⟨n - i - 1, by omega⟩
  have hz2 : n - (i + 1) = z := by omega
  have ht : (l.take i).length = i := by rw [List.length_take]; omega
  show (l.take i ++ List.replicate (n - i) 0).set i (l.getD i 0) = l.take (i + 1) ++ List.replicate (n - (i + 1)) 0
  rw [hz, hz2, List.set_append, if_neg (by omega), ht, Nat.sub_self, List.replicate_succ, List.set_cons_zero, List.take_succ_eq_append_getElem (by omega), List.append_assoc, List.getD_eq_getElem?_getD, List.getElem?_eq_getElem (by omega)]
  rfl
theorem byte_at (x s : Nat) : (x : Int) / 2 ^ s % 256 = (((UInt8.ofNat (x / 2 ^ s % 256)).toNat : Nat) : Int) := by
  have e : (x : Int) / 2 ^ s = ((x / 2 ^ s : Nat) : Int) := by simp
  rw [e, UInt8.toNat_ofNat', show (2 : Nat) ^ 8 = 256 from rfl]
  generalize x / 2 ^ s = q
  omega
theorem zero32b : (#[.int .u8 0, .int .u8 0, .int .u8 0, .int .u8 0, .int .u8 0, .int .u8 0, .int .u8 0, .int .u8 0, .int .u8 0, .int .u8 0, .int .u8 0, .int .u8 0, .int .u8 0, .int .u8 0, .int .u8 0, .int .u8 0, .int .u8 0, .int .u8 0, .int .u8 0, .int .u8 0, .int .u8 0, .int .u8 0, .int .u8 0, .int .u8 0, .int .u8 0, .int .u8 0, .int .u8 0, .int .u8 0, .int .u8 0, .int .u8 0, .int .u8 0, .int .u8 0] : Array Value) = arr8 (List.replicate 32 0) := rfl
set_option maxRecDepth 100000 in
set_option maxHeartbeats 4000000 in
theorem bytes_any (H : R8) (R : Nat) (w : World) (hr : w.heap[R]? = some (.cells (arr32 H.toL) 46 (0, 0))) :
    Calls Tryd.prog 21 #[.pointer (some ⟨R, 0, none⟩)] w fun z w' => z = .returned (.string (tx (outL H))) ∧ Below w.heap.size w w' := by
  obtain ⟨F, hF0, hFn, hFe⟩ := row_any (outL H) 32 rfl
  have HFN := Lib.hid hFn
  have HFE := Lib.hid hFe
  have HG := Lib.hid (fun i hi => outL_get H i hi)
  have HR := Lib.hid hr
  have HRL := Lib.hid (lt_of_heap hr)
  have HB0 := Lib.hid (show BD w w.heap.size 60 (F 0) (w.alloc (.cells (arr8 (F 0)) 60)) from ⟨(Below.refl _ _).alloc (Nat.le_refl _) _, heap_alloc_new _ _⟩)
  rw [hF0] at HB0
  clear hFn hFe hr
  go_enter Tryd.func21, Tryd.ntmps21
  go_upto_region 2 with (fail)
  rw [zero32b]
  obtain ⟨D, hD⟩ : ∃ D, D = w.heap.size := ⟨_, rfl⟩
  rw [← hD] at HB0 ⊢
  have hds : w.heap.size ≤ D := by omega
  clear hD
  generalize w.alloc (.cells (arr8 (List.replicate 32 0)) 60) = W0 at *
  rw [← hF0] at HB0
  clear hF0
  --@1
  go_wp2_with fail
  go_loopw [4, 5, 6, 7, 8, 9, 10, 11, 12, 13, 14, 15, 16, 17, 18, 19, 20, 21, 22] (fun _ j _ _ _ _ _ _ _ _ _ _ _ _ _ _ _ _ _ wr => ∃ k : Nat, k ≤ 32 ∧ j = .int .i64 (k : Int) ∧ BD w D 60 (F k) wr) (fun _ j _ _ _ _ _ _ _ _ _ _ _ _ _ _ _ _ _ _ => 32 - (intOf j).toNat)
  case atStart => exact ⟨0, by omega, rfl, HB0.out⟩
  case round =>
    clear HB0
    obtain ⟨k, hk, rfl, hb⟩ := hrel
    have HB := Lib.hid hb
    clear hb
    by_cases hlt : k < 32
    · as_aux_lemma =>
      obtain ⟨f1, f2⟩ := HFN.out k hlt
      have hg := HG.out k hlt
      have HRW : wr.heap[R]? = some (.cells (arr32 H.toL) 46 (0, 0)) := (HB.out.below.block R HRL.out).trans HR.out
      obtain ⟨q, hq⟩ : ∃ q, q = k / 4 := ⟨_, rfl⟩
      obtain ⟨r, hr⟩ : ∃ r, r = k % 4 := ⟨_, rfl⟩
      rw [← hq, ← hr] at hg
      have c0 := (arr32_at HRW (i := q) (by show q < 8; omega)).1
      obtain ⟨hn, hfn⟩ := arr8_at HB.out.d (i := k) (by omega)
      have g1 : (k : Int) / 4 = (q : Int) := by omega
      have g2 : (k : Int) % 4 = (r : Int) := by omega
      have g3 : (0 : Int) ≤ (q : Int) := by omega
      have g4 : (q : Int) < 8 := by omega
      have g5 : (q : Int).toNat = q := rfl
      obtain ⟨s, hs⟩ : ∃ s, s = 24 - r * 8 := ⟨_, rfl⟩
      rw [← hs] at hg
      have g6 : (24 : Int) - (r : Int) * 8 = (s : Int) := by omega
      have g7 : (0 : Int) ≤ (s : Int) := by omega
      have g8 : (s : Int) ≤ 32 := by omega
      have g9 : (s : Int).toNat = s := rfl
      have e0 : (0 : Int) ≤ (k : Int) := by omega
      have e1 : (k : Int) < 32 := by omega
      have e2 : (k : Int).toNat = k := rfl
      clear hq hr hs HRW
      generalize H.toL.getD q 0 = x at *
      have HV := Lib.hid (byte_at x s)
      rw [← hg] at HV
      generalize (outL H).getD k 0 = bv at *
      have HB2 := Lib.hid (HB.out.set hds k bv)
      rw [f2] at HB2
      clear hg f1 f2
      --@2
      go_wp2_with fail
      --@3
      go_roundw
      case rel => rw [HV.out]; exact ⟨k + 1, by omega, by go_num, HB2.out⟩
      case measure => simp [intOf]; omega
    · as_aux_lemma =>
      have hkd : decide ((k : Int) < 32) = false := decide_eq_false (by omega)
      have hkp : ¬ (k : Int) < 32 := by omega
      rw [show F k = outL H by rw [show k = 32 by omega, HFE.out]] at HB
      have hcv := bytes_text (W := wr) (k := D) (cap := 32) (outL H) (fun i hi => (arr8_at HB.out.d (i := i) hi).1)
      rw [outL_length] at hcv
      generalize hres : outL H = res at hcv
      have HRES := Lib.hid hres
      clear hres
      --@4
      go_wp2_with fail
      go_ret
      exact ⟨by rw [HRES.out]; rfl, HB.out.below⟩
theorem tail_length (e n : Nat) (he : e < 64) : e + (tailOf e n).length = 64 * ((e + 72) / 64) := by
  simp only [tailOf, List.length_cons, List.length_append, List.length_replicate, be_length, zeros]
  omega
set_option maxRecDepth 100000 in
set_option maxHeartbeats 4000000 in
theorem sum_any (l : List UInt8) (hl : l.length ≤ 900000) (w : World) (hks : Ks w) (hz : 0 < w.heap.size) :
    Calls Tryd.prog 10 #[.string (tx l)] w fun z w' => z = .returned (.string (tx (shaL l))) ∧ Below w.heap.size w w' := by
  obtain ⟨c, hc⟩ : ∃ c, c = l.length / 64 := ⟨_, rfl⟩
  obtain ⟨f, hf⟩ : ∃ f, f = 64 * c := ⟨_, rfl⟩
  obtain ⟨r, hr⟩ : ∃ r, r = l.length % 64 := ⟨_, rfl⟩
  have hal : (l.take f).length = 64 * c := by rw [List.length_take]; omega
  have hel : (l.drop f).length = r := by rw [List.length_drop]; omega
  have HSP := Lib.hid (show shaL l = outL (runB (l.drop f ++ tailOf (l.drop f).length ((l.take f).length + (l.drop f).length)) (runB (l.take f) h0 c) (((l.drop f).length + 72) / 64)) by rw [← shaL_parts hal (by omega), List.take_append_drop])
  rw [hel, hal, show 64 * c + r = l.length by omega] at HSP
  have hsz := tx_size l
  have HX1 := Lib.hid (show (tx l).extract 0 f = tx (l.take f) by rw [tx_extract]; simp)
  have HX2 := Lib.hid (show (tx l).extract f l.length = tx (l.drop f) by rw [tx_extract, List.take_of_length_le (by rw [List.length_drop]; omega)])
  have HKS := Lib.hid (fun (wr : World) (hb : Below w.heap.size w wr) => hks.below hb hz)
  have HA1 := Lib.hid (fun (R : Nat) (V : World) h1 h2 h3 => addAll_any h0 h0_ok (l.take f) c hal (by omega) R V h1 h2 h3)
  have HLE := Lib.hid (fun (V : World) => lengthened_any (l.drop f) (by omega) l.length (by omega) V)
  rw [hel] at HLE
  have htl := tail_length r l.length (by omega)
  have HA2 := Lib.hid (fun (R : Nat) (V : World) h1 h2 h3 => addAll_any (runB (l.take f) h0 c) (runB_ok h0_ok c) (l.drop f ++ tailOf r l.length) ((r + 72) / 64) (by rw [List.length_append, hel]; exact htl) (by rw [List.length_append, hel]; omega) R V h1 h2 h3)
  have HBY := Lib.hid (fun (R : Nat) (V : World) h1 => bytes_any (runB (l.drop f ++ tailOf r l.length) (runB (l.take f) h0 c) ((r + 72) / 64)) R V h1)
  rw [← HSP.out] at HBY
  have hn1 : (l.length : Int) % 64 = (r : Int) := by omega
  have hn2 : (l.length : Int) - (r : Int) = (f : Int) := by omega
  have hfn : f ≤ l.length := by omega
  have HZ := Lib.hid hz
  clear HSP htl hel hal hks hz hf hr hc
  generalize runB (l.drop f ++ tailOf r l.length) (runB (l.take f) h0 c) ((r + 72) / 64) = H2 at *
  generalize runB (l.take f) h0 c = H1 at *
  generalize tx (l.drop f ++ tailOf r l.length) = X3 at *
  generalize tx (l.drop f) = X2 at *
  generalize tx (l.take f) = X1 at *
  generalize hshl : tx (shaL l) = X4 at *
  generalize tx l = U at *
  generalize l.length = n at *
  clear hshl
  go_enter Tryd.func10, Tryd.ntmps10
  go_wp2_with fail
  refine (start_any _).mono ?_
  rintro z w1 ⟨rfl, hb1⟩
  have HB1 := Lib.hid (show Below w.heap.size w (w1.alloc (.cells (arr32 h0.toL) 46)) from hb1.alloc hb1.size _)
  have HN1 := Lib.hid (heap_alloc_new w1 (.cells (arr32 h0.toL) 46))
  have HSZ := Lib.hid hb1.size
  have HL := Lib.hid (show h0.toL.length = 8 from rfl)
  clear hb1
  generalize h0.toL = l0 at *
  --@1
  go_wp2_with (first | (refine wpList_store_row rfl 46 _ _ rfl w1.heap.size (arr32 l0) rfl rfl 46 _ (heap_alloc_new w1 _) (by rw [info8r, arr32_size, HL.out]) (by rw [arr32_size, HL.out]; rfl) (arr32_all _) ?_; rw [World.setRow_alloc_new]) | fail)
  --@2
  generalize w1.alloc (.cells (arr32 l0) 46) = W1 at *
  generalize w1.heap.size = D at *
  rw [HX1.out]
  refine (HA1.out D W1 HN1.out (by have := HZ.out; have := HSZ.out; omega) (HKS.out _ HB1.out)).mono ?_
  rintro z w2 ⟨rfl, ha⟩
  have HB2 := Lib.hid (show Below w.heap.size w w2 from HB1.out.trans (ha.fr.below (B := w.heap.size) HB1.out.size (fun k hk e => by have := HSZ.out; omega)))
  have HN2 := Lib.hid ha.r
  clear ha HB1 HN1
  --@3
  go_wp2_with fail
  --@4
  rw [HX2.out]
  refine (HLE.out _).mono ?_
  rintro z w3 ⟨rfl, hb3⟩
  have HB3 := Lib.hid (HB2.out.trans (hb3.mono HB2.out.size))
  have HN3 := Lib.hid ((hb3.block D (lt_of_heap HN2.out)).trans HN2.out)
  clear hb3 HB2 HN2
  go_wp2_with fail
  refine (HA2.out D w3 HN3.out (by have := HZ.out; have := HSZ.out; omega) (HKS.out _ HB3.out)).mono ?_
  rintro z w4 ⟨rfl, ha⟩
  have HB4 := Lib.hid (show Below w.heap.size w w4 from HB3.out.trans (ha.fr.below (B := w.heap.size) HB3.out.size (fun k hk e => by have := HSZ.out; omega)))
  have HN4 := Lib.hid ha.r
  clear ha HB3 HN3
  --@5
  go_wp2_with fail
  refine (HBY.out D w4 HN4.out).mono ?_
  rintro z w5 ⟨rfl, hb5⟩
  have HB5 := Lib.hid (HB4.out.trans (hb5.mono HB4.out.size))
  go_wp2_with fail
  go_ret
  exact ⟨rfl, HB5.out⟩
end Go.Proofs.YtoabeohfbikpcaaDoor.Sh
