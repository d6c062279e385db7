/-
  Statement ShaSums: the walk of the law.
-/
import Derived.Test.YtildpnfpbagjhaaDoorShaDone
import Derived.Test.YtildpnfpbagjhaaDoorShaRef
import Derived.Test.YtildpnfpbagjhaaDoorShaEnds
set_option linter.unusedVariables false
set_option linter.unusedSimpArgs false
namespace Go.Proofs.YtildpnfpbagjhaaDoor.Sh
open Go.RowKit
open Rc
set_option maxRecDepth 100000 in
set_option maxHeartbeats 4000000 in
theorem speaks23 (w : World) (hks : Ks w) (hz : 0 < w.heap.size) : Calls Tryd.prog 5 #[] w fun x w' => x = .returned (.bool true) ∧ Below w.heap.size w w' := by
  have HS1 := Lib.hid (show Calls Tryd.prog 6 #[.string ⟨#[]⟩] w fun z w' => z = .returned (.string (tx (shaL []))) ∧ Below w.heap.size w w' from sum_any [] (by simp) w hks hz)
  have HS2 := Lib.hid (fun (V : World) (hb : Below w.heap.size w V) => show Calls Tryd.prog 6 #[.string ⟨#[97, 98, 99]⟩] V fun z w' => z = .returned (.string (tx (shaL [97, 98, 99]))) ∧ Below V.heap.size V w' from sum_any [97, 98, 99] (by simp) V (hks.below hb hz) (Nat.lt_of_lt_of_le hz hb.size))
  have a1 : (tx (shaL [])).size = 32 := tx_size _
  have b1 : (tx (shaL [97, 98, 99])).size = 32 := tx_size _
  have a2 : (tx (shaL [])).extract 0 4 = ⟨#[227, 176, 196, 66]⟩ := by rw [tx_extract, List.drop_zero, empty_ends]; rfl
  have b2 : (tx (shaL [97, 98, 99])).extract 0 4 = ⟨#[186, 120, 22, 191]⟩ := by rw [tx_extract, List.drop_zero, abc_ends]; rfl
  generalize tx (shaL []) = A at *
  generalize tx (shaL [97, 98, 99]) = B at *
  clear hks hz
  go_enter Tryd.func5, Tryd.ntmps5
  go_wp2_with fail
  refine HS1.out.mono ?_
  rintro z w1 ⟨rfl, hb1⟩
  have HB1 := Lib.hid hb1
  clear hb1
  go_wp2_with fail
  refine (HS2.out _ HB1.out).mono ?_
  rintro z w2 ⟨rfl, hb2⟩
  have HB2 := Lib.hid (HB1.out.trans (hb2.mono HB1.out.size))
  clear hb2
  --@1
  go_wp2_with fail
  go_ret
  exact ⟨rfl, HB2.out⟩
set_option maxRecDepth 100000 in
set_option maxHeartbeats 4000000 in
theorem shaSums_walk (s : ByteArray) (w : World) (hks : Ks w) (hz : 0 < w.heap.size) (hs : s.size ≤ maxLen) : Calls Tryd.prog 3 #[.string s] w fun x w' => x = .returned (.bool true) ∧ Below w.heap.size w w' := by
  have HSP := Lib.hid (speaks23 w hks hz)
  have HKS := Lib.hid (fun (V : World) (hb : Below w.heap.size w V) => hks.below hb hz)
  have HZ := Lib.hid (fun (V : World) (hb : Below w.heap.size w V) => Nat.lt_of_lt_of_le hz hb.size)
  clear hks hz
  unfold maxLen at hs
  go_enter Tryd.func3, Tryd.ntmps3
  go_wp2_with fail
  refine HSP.out.mono ?_
  rintro z w1 ⟨rfl, hb1⟩
  have HB1 := Lib.hid hb1
  clear hb1 HSP
  --@2
  go_upto_region 4 with (fail)
  have hmm : (if (200 : Int) < (s.size : Int) then (200 : Int) else (s.size : Int)) = min (s.size : Int) 200 := by split <;> omega
  rw [hmm]
  clear hmm
  have hu : (s.extract 0 (min (s.size : Int) 200).toNat).size ≤ 200 := by simp; omega
  generalize min (s.size : Int) 200 = mn at *
  generalize s.extract 0 mn.toNat = U at *
  obtain ⟨l, rfl⟩ : ∃ l, U = tx l := ⟨U.data.toList, (tx_of U).symm⟩
  rw [tx_size] at hu
  have HSU := Lib.hid (sum_any l (by omega) w1 (HKS.out w1 HB1.out) (HZ.out w1 HB1.out))
  have HRE := Lib.hid (fun (g cap : Nat) (V : World) h1 h2 => refsum_any l (by omega) g cap V h1 h2)
  clear hu
  generalize tx (shaL l) = X at *
  generalize tx l = U at *
  --@3
  go_wp2_with fail
  refine HSU.out.mono ?_
  rintro z w2 ⟨rfl, hb2⟩
  have HB2 := Lib.hid (HB1.out.trans (hb2.mono HB1.out.size))
  clear hb2 HSU HB1
  go_wp2_with fail
  refine (constants_any _).mono ?_
  rintro z w3 ⟨v, rfl, hb3, hrow⟩
  have HB3 := Lib.hid (HB2.out.trans (hb3.mono HB2.out.size))
  obtain ⟨g, cap, rfl⟩ := own_form hrow (by omega)
  have HG := Lib.hid (ownsRow_lt hrow g rfl)
  have HKC := Lib.hid (fun i (hi : i < 64) => show w3.cell? ⟨g, i, none⟩ = some (.int .u32 ((kL.getD i 0 : Nat) : Int)) from by
    have := hrow.cells (g := g) rfl i (.int .u32 ((kL.getD i 0 : Nat) : Int)) (by rw [u32s, List.getElem?_map, List.getD_eq_getElem?_getD, List.getElem?_eq_getElem (by rw [kL_length]; exact hi)]; rfl)
    rw [show ((⟨g, 0, none⟩ : Addr).add i) = ⟨g, i, none⟩ by simp [Addr.add]; exact fun h => h.symm] at this
    exact this)
  clear hb3 hrow HB2
  --@4
  go_wp2_with fail
  refine (HRE.out g cap w3 HG.out HKC.out).mono ?_
  rintro z w4 ⟨rfl, hb4⟩
  have HB4 := Lib.hid (HB3.out.trans (hb4.mono HB3.out.size))
  clear hb4
  go_wp2_with fail
  --@5
  go_ret
  exact ⟨by simp, HB4.out⟩
end Go.Proofs.YtildpnfpbagjhaaDoor.Sh
