/-
  Statement KeysDerive: the walk of the law.
-/
import Derived.Test.YtoabeohfbikpcaaDoorKeysSpeaks
import Derived.Test.YtoabeohfbikpcaaDoorHmacRef
import Derived.Great.BuildSlice
set_option linter.unusedVariables false
set_option linter.unusedSimpArgs false
namespace Go.Proofs.YtoabeohfbikpcaaDoor.Sh
open Go.RowKit
open Rc
theorem le8_small {n : Nat} (h : n < 256) : le8 n = [UInt8.ofNat n, 0, 0, 0, 0, 0, 0, 0] := by
  have e : ∀ m < 256, le8 m = [UInt8.ofNat m, 0, 0, 0, 0, 0, 0, 0] := by decide +kernel
  exact e n h
theorem eight_text {W : World} {b c : Nat} (hb : b < 256) (hc : c < 256) : (convert 27 9 (.slice (some ⟨W.heap.size, 0, none⟩) 8 8)).run Tryd.prog (W.alloc (.cells #[.int .u8 (b : Int), .int .u8 (c : Int), .int .u8 0, .int .u8 0, .int .u8 0, .int .u8 0, .int .u8 0, .int .u8 0] 5)) = .ok (.string (tx [UInt8.ofNat b, UInt8.ofNat c, 0, 0, 0, 0, 0, 0])) (W.alloc (.cells #[.int .u8 (b : Int), .int .u8 (c : Int), .int .u8 0, .int .u8 0, .int .u8 0, .int .u8 0, .int .u8 0, .int .u8 0] 5)) := by
  refine bytes_text [UInt8.ofNat b, UInt8.ofNat c, 0, 0, 0, 0, 0, 0] (fun i hi => ?_)
  have := heap_alloc_new W (.cells #[.int .u8 (b : Int), .int .u8 (c : Int), .int .u8 0, .int .u8 0, .int .u8 0, .int .u8 0, .int .u8 0, .int .u8 0] 5)
  have e : ∀ b, b < 256 → (UInt8.ofNat b).toNat = b := fun b hb => by rw [UInt8.toNat_ofNat']; omega
  unfold World.cell?
  rw [this]
  match i, hi with
  | 0, _ => show some (Value.int .u8 (b : Int)) = some (Value.int .u8 ((UInt8.ofNat b).toNat : Int)); rw [e _ hb]
  | 1, _ => show some (Value.int .u8 (c : Int)) = some (Value.int .u8 ((UInt8.ofNat c).toNat : Int)); rw [e _ hc]
  | 2, _ | 3, _ | 4, _ | 5, _ | 6, _ | 7, _ => rfl
theorem info8z : (Tryd.prog.info? 5).map (fun i => (i.zero, i.size)) = some (some (.int .u8 0), 1) := by kernel_rfl
theorem eight_fill (b c : Int) : Instr.fill (fun i => some (i * 1, 1)) ((Array.range (8 * 1)).map ((Value.int .u8 0).cells[· % (Value.int .u8 0).cells.size]!)) [(0, .int .u8 b), (1, .int .u8 c), (2, .int .u8 0), (3, .int .u8 0), (4, .int .u8 0), (5, .int .u8 0), (6, .int .u8 0), (7, .int .u8 0)] = some #[.int .u8 b, .int .u8 c, .int .u8 0, .int .u8 0, .int .u8 0, .int .u8 0, .int .u8 0, .int .u8 0] := by kernel_rfl
theorem wp_eight {ops : Array Oper} {rest : List Oper} {o : Oper} {a : Act} {w : World} {Q : Exit → Act → World → Prop} (hg : o.guard = none) (parts : Array (Nat × Operand)) (ho : o.op = .buildSlice 27 8 parts) (b c : Int)
    (hp : (parts.map fun (i, x) => (i, a.eval x)).toList = [(0, .int .u8 b), (1, .int .u8 c), (2, .int .u8 0), (3, .int .u8 0), (4, .int .u8 0), (5, .int .u8 0), (6, .int .u8 0), (7, .int .u8 0)])
    (h : wpList Tryd.prog ops Q rest (a.put o.dst (.slice (some ⟨w.heap.size, 0, none⟩) 8 8)) (w.alloc (.cells #[.int .u8 b, .int .u8 c, .int .u8 0, .int .u8 0, .int .u8 0, .int .u8 0, .int .u8 0, .int .u8 0] 5))) : wpList Tryd.prog ops Q (o :: rest) a w := by
  have hi := info8z
  cases hie : Tryd.prog.info? 5 with
  | none => simp [hie] at hi
  | some ie =>
    simp only [hie, Option.map_some, Option.some.injEq, Prod.mk.injEq] at hi
    refine wpList_buildSlice hg 27 5 8 parts ho _ ie _ Tryd.underlying27 hie hi.1 (by rw [hi.2]; omega) (by rw [hi.2]; omega) ?_ h
    rw [hp, hi.2]
    exact eight_fill b c
set_option maxRecDepth 100000 in
set_option maxHeartbeats 4000000 in
theorem keysDerive_walk (pw sa : ByteArray) (z : Int) (w : World) (hks : Ks w) (hz : 0 < w.heap.size) (hp : pw.size ≤ maxLen) (hs : sa.size ≤ maxLen) (hz0 : -128 ≤ z) (hz1 : z ≤ 127) : Calls Tryd.prog 3 #[.string pw, .string sa, .int .i8 z] w fun x w' => x = .returned (.bool true) ∧ Below w.heap.size w w' := by
  have HSP := Lib.hid (speaks26 w hks hz)
  have HKS := Lib.hid (fun (V : World) (hb : Below w.heap.size w V) => hks.below hb hz)
  have HZ := Lib.hid (fun (V : World) (hb : Below w.heap.size w V) => Nat.lt_of_lt_of_le hz hb.size)
  clear hks hz
  unfold maxLen at hp hs
  go_enter Tryd.func3, Tryd.ntmps3
  go_wp2_with fail
  refine HSP.out.mono ?_
  rintro z w1 ⟨rfl, hb1⟩
  have HB1 := Lib.hid hb1
  clear hb1 HSP
  --@1
  go_upto_region 3 with (fail)
  go_quiet (fail)
  have HB2 := Lib.hid (below_drawn HB1.out nq)
  clear HB1
  generalize w1.drewN nq = w2 at *
  have hku : (pw.extract 0 (min (pw.size : Int) 40).toNat).size ≤ 40 := by simp; omega
  have hsu : (sa.extract 0 (min (sa.size : Int) 40).toNat).size ≤ 40 := by simp; omega
  generalize min (pw.size : Int) 40 = mk at *
  generalize min (sa.size : Int) 40 = ms at *
  generalize pw.extract 0 mk.toNat = UP at *
  generalize sa.extract 0 ms.toNat = US at *
  obtain ⟨lp, rfl⟩ : ∃ l, UP = tx l := ⟨UP.data.toList, (tx_of UP).symm⟩
  obtain ⟨ls, rfl⟩ : ∃ l, US = tx l := ⟨US.data.toList, (tx_of US).symm⟩
  have hlp : lp.length ≤ 40 := by rw [tx_size] at hku; exact hku
  have hls : ls.length ≤ 40 := by rw [tx_size] at hsu; exact hsu
  clear hku hsu
  --@2
  have HT : Hid ((ls ++ lp).length ≤ 80) := Lib.hid (by rw [List.length_append]; omega)
  have HA := Lib.hid (tx_append ls lp)
  have HDE := Lib.hid (fun (P : Int) (h0 : -128 ≤ P) (h1 : P ≤ 3) (V : World) (hb : Below w.heap.size w V) => derive_any lp ls (by omega) (by omega) P (by omega) (by omega) V (HKS.out V hb) (HZ.out V hb))
  generalize hT : ls ++ lp = T at *
  clear hT
  have s1 : (tx ls).size ≤ 40 := by rw [tx_size]; exact hls
  have s2 : (tx lp).size ≤ 40 := by rw [tx_size]; exact hlp
  have HR0 := Lib.hid (fun (g cap : Nat) (V : World) (h1 : g < V.heap.size) (h2 : ∀ i, i < 64 → V.cell? ⟨g, i, none⟩ = some (.int .u32 ((kL.getD i 0 : Nat) : Int))) => show Calls Tryd.prog 7 #[.string (tx T), .slice (some ⟨g, 0, none⟩) 64 cap] V fun z w' => z = .returned (.string (tx (kdf T 0))) ∧ Below V.heap.size V w' from refsum_any T (by have := HT.out; omega) g cap V h1 h2)
  have HRN := Lib.hid (fun (i : Nat) (hi : i < 8) (g cap : Nat) (V : World) (h1 : g < V.heap.size) (h2 : ∀ i, i < 64 → V.cell? ⟨g, i, none⟩ = some (.int .u32 ((kL.getD i 0 : Nat) : Int))) => show Calls Tryd.prog 7 #[.string (tx (kdf T i) ++ tx ls ++ tx lp ++ tx [UInt8.ofNat i, 0, 0, 0, 0, 0, 0, 0]), .slice (some ⟨g, 0, none⟩) 64 cap] V fun z w' => z = .returned (.string (tx (kdf T (i + 1)))) ∧ Below V.heap.size V w' from by
    have hi2 : i < 256 := by omega
    rw [ByteArray.append_assoc (a := tx (kdf T i)), HA.out, tx_append, tx_append, ← le8_small hi2]
    exact refsum_any (kdf T i ++ T ++ le8 i) (by rw [List.length_append, List.length_append, kdf_length, le8_length]; have := HT.out; omega) g cap V h1 h2)
  have HM1 := Lib.hid (fun (i g cap : Nat) (V : World) (h1 : g < V.heap.size) (h2 : ∀ i, i < 64 → V.cell? ⟨g, i, none⟩ = some (.int .u32 ((kL.getD i 0 : Nat) : Int))) => show Calls Tryd.prog 9 #[.string (tx (kdf T i)), .string ⟨#[99, 105, 112, 104, 101, 114]⟩, .slice (some ⟨g, 0, none⟩) 64 cap] V fun z w' => z = .returned (.string (tx (hmacL (kdf T i) cipherL))) ∧ Below V.heap.size V w' from rsum24_any (kdf T i) cipherL (by rw [kdf_length]; omega) (by decide) g cap V h1 h2)
  have HM2 := Lib.hid (fun (i g cap : Nat) (V : World) (h1 : g < V.heap.size) (h2 : ∀ i, i < 64 → V.cell? ⟨g, i, none⟩ = some (.int .u32 ((kL.getD i 0 : Nat) : Int))) => show Calls Tryd.prog 9 #[.string (tx (kdf T i)), .string ⟨#[115, 117, 109]⟩, .slice (some ⟨g, 0, none⟩) 64 cap] V fun z w' => z = .returned (.string (tx (hmacL (kdf T i) sumL'))) ∧ Below V.heap.size V w' from rsum24_any (kdf T i) sumL' (by rw [kdf_length]; omega) (by decide) g cap V h1 h2)
  have HSI := Lib.hid (fun i => show (tx (kdf T i)).size = 32 by rw [tx_size, kdf_length])
  have HSB := Lib.hid (fun i => show (tx [UInt8.ofNat i, 0, 0, 0, 0, 0, 0, 0]).size = 8 by rw [tx_size]; rfl)
  have hz3 : (tx T).size ≤ 80 := by rw [tx_size]; exact HT.out
  clear hlp hls
  generalize tx ls = A at *
  generalize tx lp = B at *
  generalize hTX : tx T = TX at *
  clear hTX HT
  have hw : wrap64 z = z := by unfold wrap64; omega
  have HPP : Hid (∀ P : Int, P ≤ 3 → clipP P = P.toNat ∧ 2 ^ P.toNat ≤ 8) := Lib.hid (fun P h => ⟨by unfold clipP; omega, by
    have : 2 ^ P.toNat ≤ 2 ^ 3 := Nat.pow_le_pow_right (by decide) (by omega)
    exact this⟩)
  by_cases hz3 : 3 < z
  all_goals
    have hz4 : -128 ≤ z % 4 ∧ z % 4 ≤ 3 := by omega
    go_upto_region 7 with (fail)
    first | (have hq : 3 < z := hz3; clear hq; generalize z % 4 = P at *; obtain ⟨hP0, hP1⟩ := hz4; clear hz3 hw hz0 hz1) | (have hP1 : z ≤ 3 := (by omega); have hP0 : -128 ≤ z := hz0; clear hz4 hz3 hw hz0 hz1; generalize hPz : z = P; rw [hPz] at hP0 hP1; clear hPz)
    obtain ⟨hc1, hc2⟩ := HPP.out P hP1
    have HDP := Lib.hid (HDE.out P hP0 hP1)
    rw [hc1] at HDP
    have HC2 := Lib.hid hc2
    clear hc1 hc2 HPP HDE
    go_wp2_with fail
    refine (constants_any _).mono ?_
    rintro x w4 ⟨v, rfl, hb4, hrow⟩
    have HB4 := Lib.hid (HB2.out.trans (hb4.mono HB2.out.size))
    obtain ⟨g, cap, rfl⟩ := own_form hrow (by omega)
    have HG := Lib.hid (ownsRow_lt hrow g rfl)
    have HKC : Hid (∀ (i : Nat) (hi : i < 64), w4.cell? ⟨g, i, none⟩ = some (.int .u32 ((kL.getD i 0 : Nat) : Int))) := Lib.hid (fun i (hi : i < 64) => by
      have := hrow.cells (g := g) rfl i (.int .u32 ((kL.getD i 0 : Nat) : Int)) (by rw [u32s, List.getElem?_map, List.getD_eq_getElem?_getD, List.getElem?_eq_getElem (by rw [kL_length]; exact hi)]; rfl)
      rw [show ((⟨g, 0, none⟩ : Addr).add i) = ⟨g, i, none⟩ by simp [Addr.add]; exact fun h => h.symm] at this
      exact this)
    have HKA := Lib.hid (fun (V : World) (hb : Below w4.heap.size w4 V) => show g < V.heap.size ∧ ∀ i, i < 64 → V.cell? ⟨g, i, none⟩ = some (.int .u32 ((kL.getD i 0 : Nat) : Int)) from ⟨Nat.lt_of_lt_of_le HG.out hb.size, ksAt HKC.out HG.out hb⟩)
    clear hb4 hrow HB2 HKC HG
    --@3
    go_wp2_with fail
    --@3b
    rw [HA.out]
    have hk4 := HKA.out w4 (Below.refl _ _)
    refine (HR0.out g cap w4 hk4.1 hk4.2).mono ?_
    rintro x w5 ⟨rfl, hb5⟩
    have HF5 := Lib.hid hb5
    clear hb5 hk4
    --@4
    go_wp2_with fail
    go_loopw [10, 11, 38, 39, 40, 41, 42, 43, 44] (fun r j _ _ _ _ _ _ _ wr => ∃ k : Nat, k ≤ P.toNat ∧ r = .int .i64 ((2 ^ k : Nat) : Int) ∧ j = .int .i64 (k : Int) ∧ wr = w5) (fun _ j _ _ _ _ _ _ _ _ => P.toNat - (intOf j).toNat)
    case atStart => exact ⟨0, by omega, rfl, rfl, by first | trivial | rfl⟩
    case round =>
      obtain ⟨k, hk, rfl, rfl, rfl⟩ := hrel
      by_cases hlt : k < P.toNat
      · as_aux_lemma =>
        have h1 : (k : Int) < P := by omega
        have hc2 := HC2.out
        have h2 : 2 ^ (k + 1) ≤ 2 ^ P.toNat := Nat.pow_le_pow_right (by decide) (by omega)
        rw [Nat.pow_succ] at h2
        have h3 : 2 ^ k ≤ 8 := by omega
        have HE := Lib.hid (show ((2 ^ k : Nat) : Int) * 2 = ((2 ^ (k + 1) : Nat) : Int) by rw [Nat.pow_succ]; omega)
        generalize 2 ^ k = y at *
        have h4 : wrap64 ((y : Int) * 2) = (y : Int) * 2 := by unfold wrap64; omega
        clear h2 hc2
        --@5
        go_wp2_with fail
        go_roundw
        case rel => exact ⟨k + 1, by omega, by rw [HE.out], by go_num, by first | trivial | rfl⟩
        case measure => simp [intOf]; omega
      · have h1 : ¬ (k : Int) < P := by omega
        have hkd : decide ((k : Int) < P) = false := decide_eq_false h1
        rw [show (2 : Nat) ^ k = 2 ^ P.toNat by rw [show k = P.toNat by omega]]
        have hc2 := HC2.out
        generalize 2 ^ P.toNat = N at *
        as_aux_lemma =>
        clear hlt hk hc2
        have HNB : Hid (N ≤ 8) := Lib.hid HC2.out
        clear HC2
        --@6
        go_wp2_with fail
        --@6a
        go_loopw [9, 12, 45, 46, 47, 48, 49, 50, 51, 52, 53, 54, 55, 56, 57, 58, 59, 60, 61] (fun h j _ _ _ _ _ _ _ _ _ _ _ _ _ _ _ _ _ wr => ∃ m : Nat, m ≤ N ∧ h = .string (tx (kdf T m)) ∧ j = .int .i64 (m : Int) ∧ Below w4.heap.size w4 wr) (fun _ j _ _ _ _ _ _ _ _ _ _ _ _ _ _ _ _ _ _ => N - (intOf j).toNat)
        case atStart => exact ⟨0, by omega, rfl, rfl, HF5.out⟩
        case round =>
          clear HF5
          rename World => wq
          obtain ⟨m, hm, rfl, rfl, hb⟩ := hrel
          have HB := Lib.hid hb
          clear hb
          --@6b
          have hsi := HSI.out m
          by_cases hlt : m < N
          · as_aux_lemma =>
            have hn := HNB.out
            have m1 : (m : Int) < (N : Int) := by omega
            have m2 : m < 256 := by omega
            have HRM := Lib.hid (HRN.out m (by omega))
            have hsb := HSB.out m
            have m5 : (m : Int) % 256 = (m : Int) := by omega
            --@6c
            have hcv := eight_text (W := wq) (b := m) (c := 0) m2 (by omega)
            rw [show UInt8.ofNat 0 = 0 from rfl, show ((0 : Nat) : Int) = 0 from rfl] at hcv
            have HBA := Lib.hid (show Below w4.heap.size w4 (wq.alloc (.cells #[.int .u8 (m : Int), .int .u8 0, .int .u8 0, .int .u8 0, .int .u8 0, .int .u8 0, .int .u8 0, .int .u8 0] 5)) from HB.out.alloc HB.out.size _)
            --@6d
            generalize tx (kdf T m) = H at *
            generalize tx [UInt8.ofNat m, 0, 0, 0, 0, 0, 0, 0] = L at *
            --@7
            go_wp2_with (first | (refine wp_eight rfl _ rfl (m : Int) 0 ?_ ?_) | fail)
            clear hcv
            have hk := HKA.out _ HBA.out
            refine (HRM.out g cap _ hk.1 hk.2).mono ?_
            rintro x w6 ⟨rfl, hb6⟩
            have HB6 := Lib.hid (HBA.out.trans (hb6.mono HBA.out.size))
            clear hb6 hk
            go_wp2_with fail
            --@9
            go_roundw
            case rel => exact ⟨m + 1, by omega, rfl, by go_num, HB6.out⟩
            case measure => simp [intOf]; omega
          · as_aux_lemma =>
            have m1 : ¬ (m : Int) < (N : Int) := by omega
            have hkd2 : decide ((m : Int) < (N : Int)) = false := decide_eq_false m1
            rw [show tx (kdf T m) = tx (kdf T N) by rw [show m = N by omega]] at hsi ⊢
            have HX1 := Lib.hid (HM1.out N)
            have HX2 := Lib.hid (HM2.out N)
            clear HM1 HM2 HR0 HRN HSI HSB hlt hm
            have HBW := Lib.hid (HB4.out.trans (HB.out.mono HB4.out.size))
            have HDX := Lib.hid (HDP.out _ HBW.out)
            clear HDP
            generalize hY1 : tx (hmacL (kdf T N) cipherL) = Y1 at *
            generalize hY2 : tx (hmacL (kdf T N) sumL') = Y2 at *
            generalize tx (kdf T N) = H at *
            clear hY1 hY2
            --@8
            go_wp2_with fail
            refine HDX.out.mono ?_
            rintro x w6 ⟨rfl, hb6⟩
            have HB6 := Lib.hid (HB.out.trans (hb6.mono HB.out.size))
            clear hb6 HDX
            --@10
            go_upto_region 19 with (fail)
            obtain ⟨D, hD⟩ : ∃ D, D = w6.heap.size := ⟨_, rfl⟩
            have HK0 := Lib.hid (show KB w4 D Y1 Y2 (w6.alloc (.cells #[.string Y1, .string Y2] 29)) from ⟨HB6.out.alloc HB6.out.size _, hD ▸ heap_alloc_new _ _⟩)
            rw [← hD]
            clear hD
            generalize w6.alloc (.cells #[.string Y1, .string Y2] 29) = w7 at *
            --@11
            go_region_held3 (fun W' => KB w4 D Y1 Y2 W' ∧ W'.cell? ⟨D, 0, none⟩ = some (.string Y1) ∧ W'.cell? ⟨D, 1, none⟩ = some (.string Y2)) (first | assumption | exact HK0.out.pt | exact HK0.out.drew.pt | exact HK1.out.pt | exact HK2.out.pt) (first | (go_at_call 9; have hk0 := HKA.out _ HK0.out.drew.below; (with_reducible refine (HX1.out g cap _ hk0.1 hk0.2).mono ?_); rintro z w8 ⟨rfl, hb8⟩; clear hk0; have HK1 := Lib.hid (HK0.out.drew.trans hb8)) | (go_at_call 9; have hk1 := HKA.out _ HK1.out.below; (with_reducible refine (HX2.out g cap _ hk1.1 hk1.2).mono ?_); rintro z w9 ⟨rfl, hb9⟩; clear hk1; have HK2 := Lib.hid (HK1.out.trans hb9)))
            all_goals
              have HBF := Lib.hid (HB4.out.trans (HK2.out.below.mono HB4.out.size))
              clear HK0 HK1 HK2 HB6 HBW HX1 HX2
              go_wp2_with fail
              go_ret
              exact ⟨by first | rfl | simp, HBF.out⟩
end Go.Proofs.YtoabeohfbikpcaaDoor.Sh
