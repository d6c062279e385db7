/-
  Statement HmacSums: the walk of the law.
-/
import Derived.Test.YtildpnfpbagjhaaDoorHmacRef
set_option linter.unusedVariables false
set_option linter.unusedSimpArgs false
namespace Go.Proofs.YtildpnfpbagjhaaDoor.Sh
open Go.RowKit
open Rc
theorem tx_eqb (a b : List UInt8) : ((tx a).toList == (tx b).toList) = decide (a = b) := by
  rw [ByteArray.toList_eq, ByteArray.toList_eq, tx_list, tx_list]
  by_cases h : a = b
  · rw [decide_eq_true h, h, beq_self_eq_true]
  · rw [decide_eq_false h, beq_eq_false_iff_ne]
    exact h
theorem below_drawn {B : Nat} {w w' : World} (h : Below B w w') (k : Nat) : Below B w (w'.drewN k) := ⟨h.os, h.tape, h.output, h.size, h.block⟩
set_option maxRecDepth 100000 in
set_option maxHeartbeats 4000000 in
theorem speaks24 (w : World) (hks : Ks w) (hz : 0 < w.heap.size) : Calls Tryd.prog 9 #[] w fun x w' => x = .returned (.bool true) ∧ Below w.heap.size w w' := by
  obtain ⟨A, hA⟩ : ∃ A, A = tx (hmacL [107, 101, 121] [84, 104, 101, 32, 113, 117, 105, 99, 107, 32, 98, 114, 111, 119, 110, 32, 102, 111, 120, 32, 106, 117, 109, 112, 115, 32, 111, 118, 101, 114, 32, 116, 104, 101, 32, 108, 97, 122, 121, 32, 100, 111, 103]) := ⟨_, rfl⟩
  have HS1 := Lib.hid (show Calls Tryd.prog 10 #[.string ⟨#[107, 101, 121]⟩, .string ⟨#[84, 104, 101, 32, 113, 117, 105, 99, 107, 32, 98, 114, 111, 119, 110, 32, 102, 111, 120, 32, 106, 117, 109, 112, 115, 32, 111, 118, 101, 114, 32, 116, 104, 101, 32, 108, 97, 122, 121, 32, 100, 111, 103]⟩] w fun z w' => z = .returned (.string A) ∧ Below w.heap.size w w' from by
    rw [hA]
    exact hsum_any [107, 101, 121] [84, 104, 101, 32, 113, 117, 105, 99, 107, 32, 98, 114, 111, 119, 110, 32, 102, 111, 120, 32, 106, 117, 109, 112, 115, 32, 111, 118, 101, 114, 32, 116, 104, 101, 32, 108, 97, 122, 121, 32, 100, 111, 103] (by simp) (by simp) w hks hz)
  have HM1 := Lib.hid (fun (V : World) => show Calls Tryd.prog 12 #[.string ⟨#[97]⟩, .string ⟨#[97]⟩] V fun z w' => z = .returned (.bool true) ∧ ∃ k, w' = V.drewN k from same_any [97] [97] (by simp) (by simp) V)
  have HM2 := Lib.hid (fun (V : World) => show Calls Tryd.prog 12 #[.string ⟨#[97]⟩, .string ⟨#[98]⟩] V fun z w' => z = .returned (.bool false) ∧ ∃ k, w' = V.drewN k from same_any [97] [98] (by simp) (by simp) V)
  have a1 : A.size = 32 := by rw [hA]; exact tx_size _
  have a2 : A.extract 0 4 = ⟨#[247, 188, 131, 244]⟩ := by rw [hA, tx_extract, List.drop_zero, key_ends]; rfl
  clear hA hks hz
  go_enter Tryd.func9, Tryd.ntmps9
  go_wp2_with fail
  refine HS1.out.mono ?_
  rintro z w1 ⟨rfl, hb1⟩
  have HB1 := Lib.hid hb1
  clear hb1
  --@1
  go_wp2_with fail
  refine (HM1.out _).mono ?_
  rintro z w2 ⟨rfl, k1, rfl⟩
  go_wp2_with fail
  refine (HM2.out _).mono ?_
  rintro z w3 ⟨rfl, k2, rfl⟩
  --@2
  go_wp2_with fail
  go_ret
  exact ⟨rfl, below_drawn HB1.out _⟩
set_option maxRecDepth 100000 in
set_option maxHeartbeats 4000000 in
theorem hmacSums_walk (k s : ByteArray) (same : Bool) (w : World) (hks : Ks w) (hz : 0 < w.heap.size) (hk : k.size ≤ maxLen) (hs : s.size ≤ maxLen) : Calls Tryd.prog 4 #[.string k, .string s, .bool same] w fun x w' => x = .returned (.bool true) ∧ Below w.heap.size w w' := by
  have HSP := Lib.hid (speaks24 w hks hz)
  have HKS := Lib.hid (fun (V : World) (hb : Below w.heap.size w V) => hks.below hb hz)
  have HZ := Lib.hid (fun (V : World) (hb : Below w.heap.size w V) => Nat.lt_of_lt_of_le hz hb.size)
  clear hks hz
  unfold maxLen at hk hs
  go_enter Tryd.func4, Tryd.ntmps4
  go_wp2_with fail
  refine HSP.out.mono ?_
  rintro z w1 ⟨rfl, hb1⟩
  have HB1 := Lib.hid hb1
  clear hb1 HSP
  --@3
  go_upto_region 3 with (fail)
  --@4
  go_quiet (fail)
  have HB2 := Lib.hid (below_drawn HB1.out nq)
  clear HB1
  generalize w1.drewN nq = w2 at *
  have hku : (k.extract 0 (min (k.size : Int) 150).toNat).size ≤ 150 := by simp; omega
  have hsu : (s.extract 0 (min (s.size : Int) 150).toNat).size ≤ 150 := by simp; omega
  generalize min (k.size : Int) 150 = mk at *
  generalize min (s.size : Int) 150 = ms at *
  generalize k.extract 0 mk.toNat = UK at *
  generalize s.extract 0 ms.toNat = US at *
  obtain ⟨lk, rfl⟩ : ∃ l, UK = tx l := ⟨UK.data.toList, (tx_of UK).symm⟩
  obtain ⟨ls, rfl⟩ : ∃ l, US = tx l := ⟨US.data.toList, (tx_of US).symm⟩
  have hlk : lk.length ≤ 150 := by rw [tx_size] at hku; exact hku
  have hls : ls.length ≤ 150 := by rw [tx_size] at hsu; exact hsu
  clear hku hsu
  --@5
  cases same
  · as_aux_lemma =>
    have HM := Lib.hid (fun (V : World) => same_any ls lk (by omega) (by omega) V)
    have heq := tx_eqb ls lk
    have HSU := Lib.hid (fun (V : World) (hb : Below w.heap.size w V) => hsum_any lk ls (by omega) (by omega) V (HKS.out V hb) (HZ.out V hb))
    have HRE := Lib.hid (fun (g cap : Nat) (V : World) h1 h2 => rsum24_any lk ls (by omega) (by omega) g cap V h1 h2)
    clear hlk hls
    generalize tx (hmacL lk ls) = X at *
    generalize tx lk = K at *
    generalize tx ls = S at *
    generalize decide (ls = lk) = d at *
    go_wp2_with fail
    refine (HSU.out _ HB2.out).mono ?_
    rintro z w3 ⟨rfl, hb3⟩
    have HB3 := Lib.hid (HB2.out.trans (hb3.mono HB2.out.size))
    clear hb3 HSU HB2
    go_wp2_with fail
    refine (constants_any _).mono ?_
    rintro z w4 ⟨v, rfl, hb4, hrow⟩
    have HB4 := Lib.hid (HB3.out.trans (hb4.mono HB3.out.size))
    obtain ⟨g, cap, rfl⟩ := own_form hrow (by omega)
    have HG := Lib.hid (ownsRow_lt hrow g rfl)
    have HKC := Lib.hid (fun i (hi : i < 64) => show w4.cell? ⟨g, i, none⟩ = some (.int .u32 ((kL.getD i 0 : Nat) : Int)) from by
      have := hrow.cells (g := g) rfl i (.int .u32 ((kL.getD i 0 : Nat) : Int)) (by rw [u32s, List.getElem?_map, List.getD_eq_getElem?_getD, List.getElem?_eq_getElem (by rw [kL_length]; exact hi)]; rfl)
      rw [show ((⟨g, 0, none⟩ : Addr).add i) = ⟨g, i, none⟩ by simp [Addr.add]; exact fun h => h.symm] at this
      exact this)
    clear hb4 hrow HB3
    go_wp2_with fail
    refine (HRE.out g cap w4 HG.out HKC.out).mono ?_
    rintro z w5 ⟨rfl, hb5⟩
    have HB5 := Lib.hid (HB4.out.trans (hb5.mono HB4.out.size))
    clear hb5 HB4
    --@6a
    go_wp2_with fail
    refine (HM.out _).mono ?_
    rintro z w6 ⟨rfl, kk, rfl⟩
    have HB6 := Lib.hid (below_drawn HB5.out kk)
    --@7a
    go_wp2_with fail
    go_ret
    all_goals exact ⟨by first | rfl | simp, HB6.out⟩
  · as_aux_lemma =>
    have HM := Lib.hid (fun (V : World) => same_any ls ls (by omega) (by omega) V)
    have hdd : decide (ls = ls) = true := decide_eq_true rfl
    rw [hdd] at HM
    clear hdd
    have HSU := Lib.hid (fun (V : World) (hb : Below w.heap.size w V) => hsum_any lk ls (by omega) (by omega) V (HKS.out V hb) (HZ.out V hb))
    have HRE := Lib.hid (fun (g cap : Nat) (V : World) h1 h2 => rsum24_any lk ls (by omega) (by omega) g cap V h1 h2)
    clear hlk hls
    generalize tx (hmacL lk ls) = X at *
    generalize tx lk = K at *
    generalize tx ls = S at *
    go_wp2_with fail
    refine (HSU.out _ HB2.out).mono ?_
    rintro z w3 ⟨rfl, hb3⟩
    have HB3 := Lib.hid (HB2.out.trans (hb3.mono HB2.out.size))
    clear hb3 HSU HB2
    go_wp2_with fail
    refine (constants_any _).mono ?_
    rintro z w4 ⟨v, rfl, hb4, hrow⟩
    have HB4 := Lib.hid (HB3.out.trans (hb4.mono HB3.out.size))
    obtain ⟨g, cap, rfl⟩ := own_form hrow (by omega)
    have HG := Lib.hid (ownsRow_lt hrow g rfl)
    have HKC := Lib.hid (fun i (hi : i < 64) => show w4.cell? ⟨g, i, none⟩ = some (.int .u32 ((kL.getD i 0 : Nat) : Int)) from by
      have := hrow.cells (g := g) rfl i (.int .u32 ((kL.getD i 0 : Nat) : Int)) (by rw [u32s, List.getElem?_map, List.getD_eq_getElem?_getD, List.getElem?_eq_getElem (by rw [kL_length]; exact hi)]; rfl)
      rw [show ((⟨g, 0, none⟩ : Addr).add i) = ⟨g, i, none⟩ by simp [Addr.add]; exact fun h => h.symm] at this
      exact this)
    clear hb4 hrow HB3
    go_wp2_with fail
    refine (HRE.out g cap w4 HG.out HKC.out).mono ?_
    rintro z w5 ⟨rfl, hb5⟩
    have HB5 := Lib.hid (HB4.out.trans (hb5.mono HB4.out.size))
    clear hb5 HB4
    --@6b
    go_wp2_with fail
    refine (HM.out _).mono ?_
    rintro z w6 ⟨rfl, kk, rfl⟩
    have HB6 := Lib.hid (below_drawn HB5.out kk)
    --@7b
    go_wp2_with fail
    go_ret
    all_goals exact ⟨by first | rfl | simp, HB6.out⟩
end Go.Proofs.YtildpnfpbagjhaaDoor.Sh
