/-
  Layer 24, the program's: a key turned; the sum under a key; whether two texts are the same.
-/
import Derived.Test.YtoabeohfbikpcaaDoorHmacDev
import Derived.Lib.ConvBytes
set_option linter.unusedVariables false
set_option linter.unusedSimpArgs false
namespace Go.Proofs.YtoabeohfbikpcaaDoor.Sh
open Go.RowKit
open Rc
/-- Bytes that lie in a block. -/
structure Lie (w : World) (B : Nat) (l : List UInt8) (wr : World) : Prop where
  below : Below w.heap.size w wr
  lt : B < wr.heap.size
  cell : ∀ j, j < l.length → wr.cell? ⟨B, j, none⟩ = some (.int .u8 ((l.getD j 0).toNat : Int))
  free : ∀ j, j < l.length → wr.frozen? ⟨B, j, none⟩ = false
theorem Lie.set {w wr : World} {B : Nat} {l : List UInt8} (h : Lie w B l wr) (hB : w.heap.size ≤ B) (m : Nat) (hm : m < l.length) (b : UInt8) : Lie w B (l.set m b) (wr.setCell ⟨B, m, none⟩ (.int .u8 (b.toNat : Int))) := by
  refine ⟨h.below.setCell hB _, by simpa using h.lt, fun j hj => ?_, fun j hj => ?_⟩
  · have hj' : j < l.length := by simpa using hj
    by_cases e : m = j
    · subst e
      rw [World.cell?_setCell_same _ _ _ (h.cell m hm)]
      simp [List.getD_eq_getElem?_getD, hm]
    · rw [World.cell?_setCell_other _ _ _ _ (by intro h; exact e (congrArg Addr.off h)), h.cell j hj']
      simp [List.getD_eq_getElem?_getD, List.getElem?_set_ne e]
  · rw [World.frozen?_setCell]
    exact h.free j (by simpa using hj)
theorem lie_new (w : World) (l : List UInt8) : ∃ (cap : Nat) (w2 : World), (convert 9 27 (.string (tx l))).run Tryd.prog w = .ok (.slice (some ⟨w.heap.size, 0, none⟩) l.length cap) w2 ∧ Lie w w.heap.size l w2 := by
  have h := Lib.run_convert_string_bytes w 9 27 5 (tx l) Tryd.underlying9 Tryd.underlying27 Tryd.underlying5
  rw [tx_size] at h
  refine ⟨_, _, h, ⟨⟨rfl, rfl, rfl, by rw [Lib.bytesWorld_size]; omega, fun k hk => Lib.bytesWorld_at_old w _ (tx l) k hk⟩, by rw [Lib.bytesWorld_size]; omega, fun j hj => ?_, fun j hj => ?_⟩⟩
  · have hj' : j < (tx l).size := by rw [tx_size]; exact hj
    rw [Lib.bytesWorld_cell w _ (tx l) j hj', tx_list]
  · have hj' : j < (tx l).size := by rw [tx_size]; exact hj
    have hb := Lib.bytesWorld_at_new w 5 (tx l)
    simp [World.frozen?, hb]
    simp [Lib.bytesCells]
    omega
theorem turn_steps (k : List UInt8) (b : UInt8) : ∃ F : Nat → List UInt8, F 0 = k ∧ (∀ i, i < k.length → (F i).length = k.length ∧ (F i).getD i 0 = k.getD i 0 ∧ (F i).set i (k.getD i 0 ^^^ b) = F (i + 1)) ∧ F k.length = xorL k b := by
  refine ⟨fun i => (xorL k b).take i ++ k.drop i, by simp, fun i h => ?_, by show (xorL k b).take k.length ++ k.drop k.length = xorL k b; rw [List.drop_length, List.append_nil, List.take_of_length_le (by rw [xorL_length]; exact Nat.le_refl _)]⟩
  have ht : ((xorL k b).take i).length = i := by rw [List.length_take, xorL_length]; omega
  have hd : k.drop i = k.getD i 0 :: k.drop (i + 1) := by rw [List.drop_eq_getElem_cons h, List.getD_eq_getElem?_getD, List.getElem?_eq_getElem h]; rfl
  refine ⟨by show ((xorL k b).take i ++ k.drop i).length = _; rw [List.length_append, ht, List.length_drop]; omega, ?_, ?_⟩
  · show ((xorL k b).take i ++ k.drop i).getD i 0 = _
    rw [hd, List.getD_eq_getElem?_getD, List.getElem?_append_right (by omega), ht, Nat.sub_self]
    rfl
  · show ((xorL k b).take i ++ k.drop i).set i (k.getD i 0 ^^^ b) = (xorL k b).take (i + 1) ++ k.drop (i + 1)
    rw [hd, List.set_append, if_neg (by omega), ht, Nat.sub_self, List.set_cons_zero, List.take_succ_eq_append_getElem (by rw [xorL_length]; exact h), List.append_assoc]
    congr 2
    simp [xorL, List.getD_eq_getElem?_getD, h]
theorem xor_byte (x b : UInt8) : bits .xor .u8 (x.toNat : Int) (b.toNat : Int) = ((x ^^^ b).toNat : Int) := by
  rw [u8_xor_nat _ _ x.toNat_lt b.toNat_lt, UInt8.toNat_xor]
set_option maxRecDepth 100000 in
set_option maxHeartbeats 4000000 in
theorem hturned_any (k : List UInt8) (hk : k.length ≤ 1000) (b : UInt8) (w : World) :
    Calls Tryd.prog 23 #[.string (tx k), .int .u8 (b.toNat : Int)] w fun z w' => z = .returned (.string (tx (xorL k b))) ∧ Below w.heap.size w w' := by
  obtain ⟨F, hF0, hFn, hFe⟩ := turn_steps k b
  have HFN := Lib.hid hFn
  have HFE := Lib.hid hFe
  obtain ⟨cap, w2, hcv, hl⟩ := lie_new w k
  have HL := Lib.hid hl
  rw [← hF0] at HL
  have HXL := Lib.hid (xorL_length k b)
  clear hFn hFe hF0 hl
  obtain ⟨D, hD⟩ : ∃ D, D = w.heap.size := ⟨_, rfl⟩
  rw [← hD] at hcv HL
  have hds : w.heap.size ≤ D := by omega
  clear hD
  generalize hn : k.length = n at *
  go_enter Tryd.func23, Tryd.ntmps23
  go_upto_region 2 with (fail)
  clear hcv
  --@1
  go_wp2_with fail
  go_loopw [6, 11, 12, 13, 14, 15, 16, 17, 18, 19, 20, 21] (fun _ j _ _ _ _ _ _ _ _ _ _ wr => ∃ i : Nat, i ≤ n ∧ j = .int .i64 (i : Int) ∧ Lie w D (F i) wr) (fun _ j _ _ _ _ _ _ _ _ _ _ _ => n - (intOf j).toNat)
  case atStart => exact ⟨0, by omega, rfl, HL.out⟩
  case round =>
    clear HL
    obtain ⟨i, hi, rfl, hl⟩ := hrel
    have HL := Lib.hid hl
    clear hl
    by_cases hlt : i < n
    · as_aux_lemma =>
      obtain ⟨f1, f2, f3⟩ := HFN.out i hlt
      have c0 := HL.out.cell i (by omega)
      have z0 := HL.out.free i (by omega)
      rw [f2] at c0
      have HL2 := Lib.hid (HL.out.set hds i (by omega) (k.getD i 0 ^^^ b))
      rw [f3] at HL2
      have hx := xor_byte (k.getD i 0) b
      generalize k.getD i 0 ^^^ b = y at *
      generalize k.getD i 0 = x at *
      have e0 : (0 : Int) ≤ (i : Int) := by omega
      have e1 : (i : Int) < (n : Int) := by omega
      have e2 : (i : Int).toNat = i := rfl
      clear f1 f2 f3
      --@2
      go_wp2_with fail
      --@3
      go_roundw
      case rel => exact ⟨i + 1, by omega, by go_num, HL2.out⟩
      case measure => simp [intOf]; omega
    · as_aux_lemma =>
      have hin : i = n := by omega
      rw [hin, HFE.out] at HL
      have hcv := bytes_text (W := wr) (k := D) (cap := cap) (xorL k b) (fun j hj => HL.out.cell j hj)
      rw [HXL.out] at hcv
      generalize hres : tx (xorL k b) = res at hcv
      have HRES := Lib.hid hres
      clear hres
      --@4
      go_wp2_with fail
      go_ret
      exact ⟨by rw [HRES.out]; rfl, HL.out.below⟩
set_option maxRecDepth 100000 in
set_option maxHeartbeats 4000000 in
theorem hsum_any (k s : List UInt8) (hk : k.length ≤ 500000) (hs : s.length ≤ 500000) (w : World) (hks : Ks w) (hz : 0 < w.heap.size) :
    Calls Tryd.prog 11 #[.string (tx k), .string (tx s)] w fun z w' => z = .returned (.string (tx (hmacL k s))) ∧ Below w.heap.size w w' := by
  have HFI := Lib.hid (filled_any k hk w hks hz)
  have HKS := Lib.hid (fun (V : World) (hb : Below w.heap.size w V) => hks.below hb hz)
  have HZ := Lib.hid (fun (V : World) (hb : Below w.heap.size w V) => Nat.lt_of_lt_of_le hz hb.size)
  have HT1 := Lib.hid (fun (V : World) => show Calls Tryd.prog 23 #[.string (tx (keyL k)), .int .u8 92] V _ from hturned_any (keyL k) (by rw [keyL_length]; omega) 92 V)
  have HT2 := Lib.hid (fun (V : World) => show Calls Tryd.prog 23 #[.string (tx (keyL k)), .int .u8 54] V _ from hturned_any (keyL k) (by rw [keyL_length]; omega) 54 V)
  have l1 : (xorL (keyL k) 92).length = 64 := by rw [xorL_length, keyL_length]
  have l2 : (xorL (keyL k) 54).length = 64 := by rw [xorL_length, keyL_length]
  have HS1 := Lib.hid (fun (V : World) (hb : Below w.heap.size w V) => sum_any (xorL (keyL k) 54 ++ s) (by rw [List.length_append, l2]; omega) V (HKS.out V hb) (HZ.out V hb))
  have HS2 := Lib.hid (fun (V : World) (hb : Below w.heap.size w V) => sum_any (xorL (keyL k) 92 ++ shaL (xorL (keyL k) 54 ++ s)) (by rw [List.length_append, l1, shaL_length]; omega) V (HKS.out V hb) (HZ.out V hb))
  have HX1 := Lib.hid (tx_append (xorL (keyL k) 54) s)
  have HX2 := Lib.hid (tx_append (xorL (keyL k) 92) (shaL (xorL (keyL k) 54 ++ s)))
  have HH := Lib.hid (show hmacL k s = shaL (xorL (keyL k) 92 ++ shaL (xorL (keyL k) 54 ++ s)) from rfl)
  rw [← HH.out] at HS2
  have z1 : (tx (xorL (keyL k) 92)).size = 64 := by rw [tx_size, l1]
  have z2 : (tx (xorL (keyL k) 54)).size = 64 := by rw [tx_size, l2]
  have z3 : (tx s).size ≤ 500000 := by rw [tx_size]; exact hs
  have z4 : (tx (shaL (xorL (keyL k) 54 ++ s))).size = 32 := tx_size _
  rw [← HX1.out] at HS1
  rw [← HX2.out] at HS2
  clear hks hz hk hs l1 l2 HH
  generalize tx (hmacL k s) = R at *
  generalize tx (shaL (xorL (keyL k) 54 ++ s)) = M at *
  generalize tx (xorL (keyL k) 92) = A at *
  generalize tx (xorL (keyL k) 54) = B at *
  generalize tx (keyL k) = K at *
  generalize tx s = S at *
  generalize tx k = U at *
  clear HX1 HX2
  go_enter Tryd.func11, Tryd.ntmps11
  go_wp2_with fail
  refine HFI.out.mono ?_
  rintro z w1 ⟨rfl, hb1⟩
  have HB1 := Lib.hid hb1
  clear hb1 HFI
  go_wp2_with fail
  refine (HT1.out _).mono ?_
  rintro z w2 ⟨rfl, hb2⟩
  have HB2 := Lib.hid (HB1.out.trans (hb2.mono HB1.out.size))
  clear hb2 HB1
  go_wp2_with fail
  refine (HT2.out _).mono ?_
  rintro z w3 ⟨rfl, hb3⟩
  have HB3 := Lib.hid (HB2.out.trans (hb3.mono HB2.out.size))
  clear hb3 HB2
  go_wp2_with fail
  refine (HS1.out _ HB3.out).mono ?_
  rintro z w4 ⟨rfl, hb4⟩
  have HB4 := Lib.hid (HB3.out.trans (hb4.mono HB3.out.size))
  clear hb4 HB3
  go_wp2_with fail
  refine (HS2.out _ HB4.out).mono ?_
  rintro z w5 ⟨rfl, hb5⟩
  have HB5 := Lib.hid (HB4.out.trans (hb5.mono HB4.out.size))
  clear hb5 HB4
  go_wp2_with fail
  go_ret
  exact ⟨rfl, HB5.out⟩
theorem nat_xor_zero (x y : Nat) : x ^^^ y = 0 ↔ x = y := ⟨fun h => by
  have := congrArg (fun z => z ^^^ y) h
  simpa [Nat.xor_assoc] using this, fun h => by rw [h, Nat.xor_self]⟩
theorem differ_next (d x y : UInt8) : (d ||| (x ^^^ y) = 0) ↔ d = 0 ∧ x = y := by
  rw [← UInt8.toNat_inj, ← UInt8.toNat_inj (a := d), ← UInt8.toNat_inj (a := x), UInt8.toNat_or, UInt8.toNat_xor]
  show d.toNat ||| (x.toNat ^^^ y.toNat) = 0 ↔ d.toNat = 0 ∧ _
  rw [Nat.or_eq_zero_iff, nat_xor_zero]
theorem or_byte (x b : UInt8) : bits .or .u8 (x.toNat : Int) (b.toNat : Int) = ((x ||| b).toNat : Int) := by
  rw [u8_or_nat _ _ x.toNat_lt b.toNat_lt, UInt8.toNat_or]
theorem take_next {a b : List UInt8} {i : Nat} (ha : i < a.length) (hb : i < b.length) : a.take (i + 1) = b.take (i + 1) ↔ a.take i = b.take i ∧ a.getD i 0 = b.getD i 0 := by
  rw [List.take_succ_eq_append_getElem ha, List.take_succ_eq_append_getElem hb, List.getD_eq_getElem?_getD, List.getElem?_eq_getElem ha, List.getD_eq_getElem?_getD, List.getElem?_eq_getElem hb]
  constructor
  · intro h
    have := List.append_inj' h rfl
    exact ⟨this.1, by simpa using this.2⟩
  · rintro ⟨h1, h2⟩
    rw [h1]
    congr 1
    simpa using h2
end Go.Proofs.YtoabeohfbikpcaaDoor.Sh
