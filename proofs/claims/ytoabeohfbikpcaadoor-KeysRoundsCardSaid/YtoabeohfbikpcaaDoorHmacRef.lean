/-
  Layer 24, the document's answer: the contract of its Sum.
-/
import Derived.Test.YtoabeohfbikpcaaDoorHmacTurn
import Derived.Test.YtoabeohfbikpcaaDoorShaRef
set_option linter.unusedVariables false
set_option linter.unusedSimpArgs false
namespace Go.Proofs.YtoabeohfbikpcaaDoor.Sh
open Go.RowKit
open Rc
theorem one_byte {W : World} (b : UInt8) : (convert 27 9 (.slice (some ⟨W.heap.size, 0, none⟩) 1 1)).run Tryd.prog (W.alloc (.cells #[.int .u8 ((b.toNat : Nat) : Int)] 5)) = .ok (.string (tx [b])) (W.alloc (.cells #[.int .u8 ((b.toNat : Nat) : Int)] 5)) := by
  have := one_text (W := W) b.toNat_lt
  rw [UInt8.ofNat_toNat] at this
  exact this
theorem xor_take (k : List UInt8) (b : UInt8) {i : Nat} (h : i < 64) : (xorL (keyL k) b).take i ++ [(keyL k).getD i 0 ^^^ b] = (xorL (keyL k) b).take (i + 1) := by
  have hl : i < (xorL (keyL k) b).length := by rw [xorL_length, keyL_length]; exact h
  rw [List.take_succ_eq_append_getElem hl]
  congr 2
  have hk : i < (keyL k).length := by rw [keyL_length]; exact h
  simp [xorL, List.getD_eq_getElem?_getD, hk]
set_option maxRecDepth 100000 in
set_option maxHeartbeats 4000000 in
theorem rsum24_any (k s : List UInt8) (hk : k.length ≤ 500000) (hs : s.length ≤ 500000) (g cap : Nat) (w : World) (hg : g < w.heap.size) (hks : ∀ i, i < 64 → w.cell? ⟨g, i, none⟩ = some (.int .u32 ((kL.getD i 0 : Nat) : Int))) :
    Calls Tryd.prog 9 #[.string (tx k), .string (tx s), .slice (some ⟨g, 0, none⟩) 64 cap] w fun z w' => z = .returned (.string (tx (hmacL k s))) ∧ Below w.heap.size w w' := by
  have HRF := Lib.hid (fun (l : List UInt8) (hl : l.length ≤ 1000000) (V : World) (hb : Below w.heap.size w V) => refsum_any l hl g cap V (Nat.lt_of_lt_of_le hg hb.size) (ksAt hks hg hb))
  have HR1G : Hid ((∀ (V : World) (hb : Below w.heap.size w V), Calls Tryd.prog 7 #[.string (tx (xorL (keyL k) 54 ++ s)), .slice (some ⟨g, 0, none⟩) 64 cap] V fun z w' => z = .returned (.string (tx (shaL (xorL (keyL k) 54 ++ s)))) ∧ Below V.heap.size V w') ∧
    (∀ (V : World) (hb : Below w.heap.size w V), Calls Tryd.prog 7 #[.string (tx (xorL (keyL k) 92 ++ shaL (xorL (keyL k) 54 ++ s))), .slice (some ⟨g, 0, none⟩) 64 cap] V fun z w' => z = .returned (.string (tx (hmacL k s))) ∧ Below V.heap.size V w')) := Lib.hid
    ⟨fun V hb => HRF.out _ (by rw [List.length_append, xorL_length, keyL_length]; omega) V hb, fun V hb => HRF.out _ (by rw [List.length_append, xorL_length, keyL_length, shaL_length]; omega) V hb⟩
  have HK1 := Lib.hid (HRF.out k (by omega) w (Below.refl _ _))
  have hsz := tx_size k
  have z3 : (tx s).size ≤ 500000 := by rw [tx_size]; exact hs
  have HKL0 := Lib.hid (show keyL k = (if k.length > 64 then shaL k else k) ++ List.replicate (64 - (if k.length > 64 then shaL k else k).length) 0 from rfl)
  have HTX0 := Lib.hid (fun (p : List UInt8) j => show tx (p ++ List.replicate j 0) ++ (⟨#[0]⟩ : ByteArray) = tx (p ++ List.replicate (j + 1) 0) by rw [show (⟨#[0]⟩ : ByteArray) = tx [0] from rfl, tx_append, List.append_assoc, List.replicate_succ'])
  have HSJ0 := Lib.hid (fun (p : List UInt8) j => show (tx (p ++ List.replicate j 0)).size = p.length + j by rw [tx_size]; simp)
  clear hks hg HRF
  generalize hS : tx s = S at *
  have HSE := Lib.hid hS
  clear hS
  generalize tx (hmacL k s) = R at *
  by_cases h64 : k.length > 64
  · as_aux_lemma =>
    have ht : (64 : Int) < (k.length : Int) := by omega
    rw [if_pos h64] at HKL0
    have HKL := Lib.hid HKL0.out
    have HTX := Lib.hid (HTX0.out (shaL k))
    have HSJ := Lib.hid (HSJ0.out (shaL k))
    have hpl : (shaL k).length ≤ 64 := by rw [shaL_length]; omega
    have hps := tx_size (shaL k)
    clear HKL0 HTX0 HSJ0
    generalize shaL k = p at *
    generalize hU : tx k = U at *
    have HU := Lib.hid hU
    clear hU
    generalize hkn : k.length = kn at *
    clear hkn
    go_enter Tryd.func9, Tryd.ntmps9
    go_wp2_with fail
    refine HK1.out.mono ?_
    rintro z w1 ⟨rfl, hb1⟩
    have HB0 := Lib.hid hb1
    clear hb1 HK1 ht
    go_wp2_with fail
    --@a1
    go_loopw [0, 16, 17, 18, 19, 20] (fun t _ _ _ _ _ wr => ∃ j : Nat, j ≤ 64 - p.length ∧ t = .string (tx (p ++ List.replicate j 0)) ∧ Below w.heap.size w wr) (fun t _ _ _ _ _ _ => match t with | .string t => 100 - t.size | _ => 0)
    case atStart => exact ⟨0, by omega, by simp, HB0.out⟩
    case round =>
      clear HB0
      obtain ⟨j, hj, rfl, hb⟩ := hrel
      have HB := Lib.hid hb
      clear hb
      have hsj := HSJ.out j
      have hsn := HSJ.out (j + 1)
      have HTJ := Lib.hid (HTX.out j)
      by_cases hlt : j < 64 - p.length
      · as_aux_lemma =>
        have ht : (p.length : Int) + (j : Int) < 64 := by omega
        have ht2 : p.length + j < 64 := by omega
        go_wp2_with fail
        --@9
        go_roundw
        case rel => exact ⟨j + 1, by omega, by rw [HTJ.out], HB.out⟩
        case measure => (dsimp only; rw [HTJ.out, hsn, hsj]; omega)
      · as_aux_lemma =>
        have ht : ¬ (p.length : Int) + (j : Int) < 64 := by omega
        have ht2 : ¬ p.length + j < 64 := by omega
        have hpj : p ++ List.replicate j 0 = keyL k := by rw [HKL.out, show j = 64 - p.length by omega]
        rw [hpj] at hsj ⊢
        have hk64 : (tx (keyL k)).size = 64 := by rw [tx_size, keyL_length]
        have HKU := Lib.hid (fun (i : Nat) (h : i < (tx (keyL k)).size) => show ((tx (keyL k))[i] : UInt8) = (keyL k).getD i 0 from tx_get _ i h)
        have hlj : p.length + j = 64 := by omega
        rw [hlj] at hsj
        generalize tx (keyL k) = K at *
        clear hsn HTJ HTX HSJ hpj hj hlt HKL hsj
        --@a2
        go_upto_region 7 with (fail)
        --@a3
        go_wp2_with fail
        go_loopw [7, 8, 9, 21, 22, 23, 24, 25, 26, 27, 28, 29, 30, 31, 32, 33, 34, 35, 36, 37, 38, 39, 40] (fun a b j _ _ _ _ _ _ _ _ _ _ _ _ _ _ _ _ _ _ _ _ wr => ∃ i : Nat, i ≤ 64 ∧ j = .int .i64 (i : Int) ∧ a = .string (tx ((xorL (keyL k) 92).take i)) ∧ b = .string (tx ((xorL (keyL k) 54).take i)) ∧ Below w.heap.size w wr) (fun _ _ j _ _ _ _ _ _ _ _ _ _ _ _ _ _ _ _ _ _ _ _ _ => 64 - (intOf j).toNat)
        case atStart => exact ⟨0, by omega, rfl, rfl, rfl, HB.out⟩
        case round =>
          clear HB
          rename World => wq
          obtain ⟨i, hi, rfl, rfl, rfl, hb⟩ := hrel
          have HB := Lib.hid hb
          clear hb
          by_cases hlt : i < 64
          · as_aux_lemma =>
            have i1 : i < K.size := by omega
            have hx := HKU.out i i1
            have HN1 := Lib.hid (show tx ((xorL (keyL k) 92).take i) ++ tx [K[i] ^^^ 92] = tx ((xorL (keyL k) 92).take (i + 1)) by rw [hx, tx_append, xor_take _ _ hlt])
            have HN2 := Lib.hid (show tx ((xorL (keyL k) 54).take i) ++ tx [K[i] ^^^ 54] = tx ((xorL (keyL k) 54).take (i + 1)) by rw [hx, tx_append, xor_take _ _ hlt])
            have s1 : (tx ((xorL (keyL k) 92).take i)).size ≤ 64 := by rw [tx_size, List.length_take]; omega
            have s2 : (tx ((xorL (keyL k) 54).take i)).size ≤ 64 := by rw [tx_size, List.length_take]; omega
            have x1 : bits .xor .u8 (K[i].toNat : Int) 92 = (((K[i] ^^^ 92).toNat : Nat) : Int) := xor_byte K[i] 92
            have x2 : bits .xor .u8 (K[i].toNat : Int) 54 = (((K[i] ^^^ 54).toNat : Nat) : Int) := xor_byte K[i] 54
            have c1 := one_byte (W := wq) (K[i] ^^^ 92)
            have HC2 := Lib.hid (fun (V : World) => one_byte (W := V) (K[i] ^^^ 54))
            have q1 : (tx [K[i] ^^^ 92]).size = 1 := tx_size _
            have q2 : (tx [K[i] ^^^ 54]).size = 1 := tx_size _
            clear hx
            generalize tx [K[i] ^^^ 92] = T1 at *
            generalize tx [K[i] ^^^ 54] = T2 at *
            generalize (K[i] ^^^ 92).toNat = n1 at *
            generalize (K[i] ^^^ 54).toNat = n2 at *
            generalize tx ((xorL (keyL k) 92).take i) = P1 at *
            generalize tx ((xorL (keyL k) 54).take i) = P2 at *
            --@a4
            go_upto_region 10 with (fail)
            have HB2 := Lib.hid (show Below w.heap.size w (wq.alloc (.cells #[.int .u8 (n1 : Int)] 5)) from HB.out.alloc HB.out.size _)
            clear c1 HB
            generalize wq.alloc (.cells #[.int .u8 (n1 : Int)] 5) = wq2 at *
            have c2 := HC2.out wq2
            have HB3 := Lib.hid (show Below w.heap.size w (wq2.alloc (.cells #[.int .u8 (n2 : Int)] 5)) from HB2.out.alloc HB2.out.size _)
            --@a5
            go_wp2_with fail
            go_roundw
            case rel => exact ⟨i + 1, by omega, by go_num, by rw [HN1.out], by rw [HN2.out], HB3.out⟩
            case measure => simp [intOf]; omega
          · as_aux_lemma =>
            have hi64 : i = 64 := by omega
            have hkd : decide ((i : Int) < 64) = false := decide_eq_false (by omega)
            have hkp : ¬ (i : Int) < 64 := by omega
            rw [show (xorL (keyL k) 92).take i = xorL (keyL k) 92 by rw [List.take_of_length_le (by rw [xorL_length, keyL_length]; omega)], show (xorL (keyL k) 54).take i = xorL (keyL k) 54 by rw [List.take_of_length_le (by rw [xorL_length, keyL_length]; omega)]]
            have HR1 := Lib.hid (HR1G.out)
            have HX1 := Lib.hid (show tx (xorL (keyL k) 54) ++ S = tx (xorL (keyL k) 54 ++ s) by rw [← HSE.out, tx_append])
            have HX2 := Lib.hid (tx_append (xorL (keyL k) 92) (shaL (xorL (keyL k) 54 ++ s)))
            have z1 : (tx (xorL (keyL k) 92)).size = 64 := by rw [tx_size, xorL_length, keyL_length]
            have z2 : (tx (xorL (keyL k) 54)).size = 64 := by rw [tx_size, xorL_length, keyL_length]
            have z4 : (tx (shaL (xorL (keyL k) 54 ++ s))).size = 32 := tx_size _
            rw [← HX1.out, ← HX2.out] at HR1
            clear HX1 HX2
            generalize tx (shaL (xorL (keyL k) 54 ++ s)) = M at *
            generalize tx (xorL (keyL k) 92) = A at *
            generalize tx (xorL (keyL k) 54) = B at *
            --@a6
            go_wp2_with fail
            refine (HR1.out.1 _ HB.out).mono ?_
            rintro z w4 ⟨rfl, hb4⟩
            have HB4 := Lib.hid (HB.out.trans (hb4.mono HB.out.size))
            clear hb4
            go_wp2_with fail
            refine (HR1.out.2 _ HB4.out).mono ?_
            rintro z w5 ⟨rfl, hb5⟩
            have HB5 := Lib.hid (HB4.out.trans (hb5.mono HB4.out.size))
            clear hb5
            go_wp2_with fail
            go_ret
            exact ⟨rfl, HB5.out⟩
  · as_aux_lemma =>
    have ht : ¬ (64 : Int) < (k.length : Int) := by omega
    rw [if_neg h64] at HKL0
    have HKL := Lib.hid HKL0.out
    have HTX := Lib.hid (HTX0.out k)
    have HSJ := Lib.hid (HSJ0.out k)
    have hpl : k.length ≤ 64 := by omega
    obtain ⟨p, hp⟩ : ∃ p, p = k := ⟨_, rfl⟩
    have HPK := Lib.hid (show tx k = tx (p ++ List.replicate 0 0) by rw [hp]; simp)
    have hkp : k.length = p.length := by rw [hp]
    rw [hkp] at hsz hpl ht
    have HKL2 : Hid (keyL k = p ++ List.replicate (64 - p.length) 0) := Lib.hid (by rw [HKL.out, hp])
    have HTX2 : Hid (∀ j, tx (p ++ List.replicate j 0) ++ (⟨#[0]⟩ : ByteArray) = tx (p ++ List.replicate (j + 1) 0)) := Lib.hid (by rw [hp]; exact HTX.out)
    have HSJ2 : Hid (∀ j, (tx (p ++ List.replicate j 0)).size = p.length + j) := Lib.hid (by rw [hp]; exact HSJ.out)
    have HB0 := Lib.hid (Below.refl w.heap.size w)
    clear HKL0 HTX0 HSJ0 HK1 hkp hp HKL HTX HSJ
    have HKL := Lib.hid HKL2.out
    have HTX := Lib.hid HTX2.out
    have HSJ := Lib.hid HSJ2.out
    clear HKL2 HTX2 HSJ2
    generalize tx k = U at *
    go_enter Tryd.func9, Tryd.ntmps9
    go_wp2_with fail
    --@b1
    go_loopw [0, 16, 17, 18, 19, 20] (fun t _ _ _ _ _ wr => ∃ j : Nat, j ≤ 64 - p.length ∧ t = .string (tx (p ++ List.replicate j 0)) ∧ Below w.heap.size w wr) (fun t _ _ _ _ _ _ => match t with | .string t => 100 - t.size | _ => 0)
    case atStart => exact ⟨0, by omega, by rw [HPK.out], HB0.out⟩
    case round =>
      clear HB0
      obtain ⟨j, hj, rfl, hb⟩ := hrel
      have HB := Lib.hid hb
      clear hb
      have hsj := HSJ.out j
      have hsn := HSJ.out (j + 1)
      have HTJ := Lib.hid (HTX.out j)
      by_cases hlt : j < 64 - p.length
      · as_aux_lemma =>
        have ht : (p.length : Int) + (j : Int) < 64 := by omega
        have ht2 : p.length + j < 64 := by omega
        go_wp2_with fail
        --@9
        go_roundw
        case rel => exact ⟨j + 1, by omega, by rw [HTJ.out], HB.out⟩
        case measure => (dsimp only; rw [HTJ.out, hsn, hsj]; omega)
      · as_aux_lemma =>
        have ht : ¬ (p.length : Int) + (j : Int) < 64 := by omega
        have ht2 : ¬ p.length + j < 64 := by omega
        have hpj : p ++ List.replicate j 0 = keyL k := by rw [HKL.out, show j = 64 - p.length by omega]
        rw [hpj] at hsj ⊢
        have hk64 : (tx (keyL k)).size = 64 := by rw [tx_size, keyL_length]
        have HKU := Lib.hid (fun (i : Nat) (h : i < (tx (keyL k)).size) => show ((tx (keyL k))[i] : UInt8) = (keyL k).getD i 0 from tx_get _ i h)
        have hlj : p.length + j = 64 := by omega
        rw [hlj] at hsj
        generalize tx (keyL k) = K at *
        clear hsn HTJ HTX HSJ hpj hj hlt HKL hsj
        --@b2
        go_upto_region 7 with (fail)
        --@b3
        go_wp2_with fail
        go_loopw [7, 8, 9, 21, 22, 23, 24, 25, 26, 27, 28, 29, 30, 31, 32, 33, 34, 35, 36, 37, 38, 39, 40] (fun a b j _ _ _ _ _ _ _ _ _ _ _ _ _ _ _ _ _ _ _ _ wr => ∃ i : Nat, i ≤ 64 ∧ j = .int .i64 (i : Int) ∧ a = .string (tx ((xorL (keyL k) 92).take i)) ∧ b = .string (tx ((xorL (keyL k) 54).take i)) ∧ Below w.heap.size w wr) (fun _ _ j _ _ _ _ _ _ _ _ _ _ _ _ _ _ _ _ _ _ _ _ _ => 64 - (intOf j).toNat)
        case atStart => exact ⟨0, by omega, rfl, rfl, rfl, HB.out⟩
        case round =>
          clear HB
          rename World => wq
          obtain ⟨i, hi, rfl, rfl, rfl, hb⟩ := hrel
          have HB := Lib.hid hb
          clear hb
          by_cases hlt : i < 64
          · as_aux_lemma =>
            have i1 : i < K.size := by omega
            have hx := HKU.out i i1
            have HN1 := Lib.hid (show tx ((xorL (keyL k) 92).take i) ++ tx [K[i] ^^^ 92] = tx ((xorL (keyL k) 92).take (i + 1)) by rw [hx, tx_append, xor_take _ _ hlt])
            have HN2 := Lib.hid (show tx ((xorL (keyL k) 54).take i) ++ tx [K[i] ^^^ 54] = tx ((xorL (keyL k) 54).take (i + 1)) by rw [hx, tx_append, xor_take _ _ hlt])
            have s1 : (tx ((xorL (keyL k) 92).take i)).size ≤ 64 := by rw [tx_size, List.length_take]; omega
            have s2 : (tx ((xorL (keyL k) 54).take i)).size ≤ 64 := by rw [tx_size, List.length_take]; omega
            have x1 : bits .xor .u8 (K[i].toNat : Int) 92 = (((K[i] ^^^ 92).toNat : Nat) : Int) := xor_byte K[i] 92
            have x2 : bits .xor .u8 (K[i].toNat : Int) 54 = (((K[i] ^^^ 54).toNat : Nat) : Int) := xor_byte K[i] 54
            have c1 := one_byte (W := wq) (K[i] ^^^ 92)
            have HC2 := Lib.hid (fun (V : World) => one_byte (W := V) (K[i] ^^^ 54))
            have q1 : (tx [K[i] ^^^ 92]).size = 1 := tx_size _
            have q2 : (tx [K[i] ^^^ 54]).size = 1 := tx_size _
            clear hx
            generalize tx [K[i] ^^^ 92] = T1 at *
            generalize tx [K[i] ^^^ 54] = T2 at *
            generalize (K[i] ^^^ 92).toNat = n1 at *
            generalize (K[i] ^^^ 54).toNat = n2 at *
            generalize tx ((xorL (keyL k) 92).take i) = P1 at *
            generalize tx ((xorL (keyL k) 54).take i) = P2 at *
            --@b4
            go_upto_region 10 with (fail)
            have HB2 := Lib.hid (show Below w.heap.size w (wq.alloc (.cells #[.int .u8 (n1 : Int)] 5)) from HB.out.alloc HB.out.size _)
            clear c1 HB
            generalize wq.alloc (.cells #[.int .u8 (n1 : Int)] 5) = wq2 at *
            have c2 := HC2.out wq2
            have HB3 := Lib.hid (show Below w.heap.size w (wq2.alloc (.cells #[.int .u8 (n2 : Int)] 5)) from HB2.out.alloc HB2.out.size _)
            --@b5
            go_wp2_with fail
            go_roundw
            case rel => exact ⟨i + 1, by omega, by go_num, by rw [HN1.out], by rw [HN2.out], HB3.out⟩
            case measure => simp [intOf]; omega
          · as_aux_lemma =>
            have hi64 : i = 64 := by omega
            have hkd : decide ((i : Int) < 64) = false := decide_eq_false (by omega)
            have hkp : ¬ (i : Int) < 64 := by omega
            rw [show (xorL (keyL k) 92).take i = xorL (keyL k) 92 by rw [List.take_of_length_le (by rw [xorL_length, keyL_length]; omega)], show (xorL (keyL k) 54).take i = xorL (keyL k) 54 by rw [List.take_of_length_le (by rw [xorL_length, keyL_length]; omega)]]
            have HR1 := Lib.hid (HR1G.out)
            have HX1 := Lib.hid (show tx (xorL (keyL k) 54) ++ S = tx (xorL (keyL k) 54 ++ s) by rw [← HSE.out, tx_append])
            have HX2 := Lib.hid (tx_append (xorL (keyL k) 92) (shaL (xorL (keyL k) 54 ++ s)))
            have z1 : (tx (xorL (keyL k) 92)).size = 64 := by rw [tx_size, xorL_length, keyL_length]
            have z2 : (tx (xorL (keyL k) 54)).size = 64 := by rw [tx_size, xorL_length, keyL_length]
            have z4 : (tx (shaL (xorL (keyL k) 54 ++ s))).size = 32 := tx_size _
            rw [← HX1.out, ← HX2.out] at HR1
            clear HX1 HX2
            generalize tx (shaL (xorL (keyL k) 54 ++ s)) = M at *
            generalize tx (xorL (keyL k) 92) = A at *
            generalize tx (xorL (keyL k) 54) = B at *
            --@b6
            go_wp2_with fail
            refine (HR1.out.1 _ HB.out).mono ?_
            rintro z w4 ⟨rfl, hb4⟩
            have HB4 := Lib.hid (HB.out.trans (hb4.mono HB.out.size))
            clear hb4
            go_wp2_with fail
            refine (HR1.out.2 _ HB4.out).mono ?_
            rintro z w5 ⟨rfl, hb5⟩
            have HB5 := Lib.hid (HB4.out.trans (hb5.mono HB4.out.size))
            clear hb5
            go_wp2_with fail
            go_ret
            exact ⟨rfl, HB5.out⟩
end Go.Proofs.YtoabeohfbikpcaaDoor.Sh
