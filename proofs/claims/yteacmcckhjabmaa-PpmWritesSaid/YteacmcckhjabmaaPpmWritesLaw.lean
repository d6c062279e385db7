/-
  The walk of the statement PpmWrites: for every text, order and cells it returns true, and writes nothing that was there.
  Statement PpmWrites: for every input the call returns true and its arguments read as before. The row's frame; no condition beside the statement's own.
-/
import Derived.Test.YteacmcckhjabmaaPpmWritten
import Derived.Test.YteacmcckhjabmaaRows
import Derived.WalkKit
import Derived.ProofKit
import Derived.OpenShut
import Derived.ShutString
import Derived.ChangeOld
import Derived.Below
import Derived.ChangeSame
import Derived.ChangeArms
import Derived.ChangeAt
section
set_option linter.unusedVariables false
set_option linter.unusedSimpArgs false
namespace Go.Proofs.Yteacmcckhjabmaa.Rx
open Go.RowKit
open Pp (encS speaks19 encode_any)
set_option maxRecDepth 100000 in
set_option maxHeartbeats 1000000 in
theorem writes_walk (t : ByteArray) (o c : Int) (w : World) (ht : t.size ≤ maxLen) :
    Calls Try.prog 4 #[.string t, .int .i64 o, .int .i64 c] w fun x w' => x = .returned (.bool true) ∧ Below w.heap.size w w' := by
  unfold maxLen at ht
  have HSP := Lib.hid (speaks19 w)
  go_enter Try.func4, Try.ntmps4
  go_wp2_with fail
  refine HSP.out.mono ?_
  rintro x w1 ⟨rfl, hb1⟩
  have HB1 := Lib.hid hb1
  clear hb1 HSP
  go_upto_region 4 with (fail)
  have hmm : (if (100 : Int) < (t.size : Int) then (100 : Int) else (t.size : Int)) = min (t.size : Int) 100 := by split <;> omega
  try rw [hmm]
  clear hmm
  have hus : (t.extract 0 (min (t.size : Int) 100).toNat).size ≤ 100 := by simp; omega
  generalize min (t.size : Int) 100 = mn at *
  generalize t.extract 0 mn.toNat = s at *
  have HE := Lib.hid (encode_any s o c w1 (by omega))
  have HW := Lib.hid (fun (W : World) => written_any s o c W hus)
  generalize encS s o c = B at *
  go_wp2_with fail
  refine HE.out.mono ?_
  rintro x w2 ⟨rfl, hb2⟩
  have HB2 := Lib.hid (HB1.out.trans (hb2.mono HB1.out.size))
  clear hb2 HE
  go_wp2_with fail
  refine (HW.out w2).mono ?_
  rintro x w3 ⟨rfl, hb3⟩
  have HB3 := Lib.hid (HB2.out.trans (hb3.mono HB2.out.size))
  clear hb3
  go_wp2_with fail
  go_ret
  exact ⟨rfl, HB3.out⟩
end Go.Proofs.Yteacmcckhjabmaa.Rx
end
section
namespace Go.Proofs.Yteacmcckhjabmaa.ppmWrites
open Go.ChangeShapes Go.WideShapes Go.ChangeAt Go.RowKit
open Go.ChangeMaps (open_string shut_string)
set_option linter.unusedVariables false
theorem wf_i64 {n : Int} (h : (Lit.int .i64 n).wf = true) : -9223372036854775808 ≤ n ∧ n ≤ 9223372036854775807 := by simpa [Lit.wf, IntKind.min, IntKind.max, IntKind.signed, IntKind.bits] using h
theorem own : ownKnob Try.prog.godebug = none := by kernel_rfl
set_option maxRecDepth 100000 in
theorem lifted (os : Os) (started : os.Started) (H : Type) (enc : TypeId × Value → H) :
    ReturnsInHanded {} Try.checked os 4 .any (Rows.ppmWritesSpec.pre6 enc Try.prog Try.f4 Rows.ppmWritesRow.domain false) (Rows.ppmWritesSpec.post enc Try.prog Try.f4 false true false false) := by
  refine returnsInHanded_of_change (C := Try.checked) own started (by kernel_rfl) Try.func4
    (ChangeSpec.witness6 (enc := enc) (C := Try.checked) false ⟨#[], #[.string ByteArray.empty, .int .i64 0, .int .i64 0], []⟩ 8 (by kernel_rfl) (by kernel_rfl) (by kernel_rfl) (by kernel_rfl)) ?_
  intro W base args ds gs before hval0 hW hcnd _
  have hval : ∀ (j : Nat) t v, Try.f4.params[j]? = some t → args[j]? = some v → Value.okWide Try.prog W .any base t v := hval0
  have hW' := hW
  obtain ⟨p, q, hA0, hV, rfl, hfz, hnd⟩ := hW
  have hA : DataW.TrodAll enc Try.prog W 0 (fun _ => true) true Try.f4.params.toList args.toList ds p := hA0
  rw [Try.params4] at hA hval
  obtain ⟨v0, vs0, d0, ds0, p0, q0, hargs, rfl, rfl, h0, r0⟩ := trodAll_cons hA
  obtain ⟨v1, vs1, d1, ds1, p1, q1, rfl, rfl, rfl, h1, r1⟩ := trodAll_cons r0
  obtain ⟨v2, vs2, d2, ds2, p2, q2, rfl, rfl, rfl, h2, r2⟩ := trodAll_cons r1
  obtain ⟨rfl, rfl, rfl⟩ := trodAll_nil r2
  obtain rfl : args = #[v0, v1, v2] := by cases args; simp_all
  obtain ⟨rfl, rfl⟩ := trodVars_none hV
  obtain ⟨a0, rfl, rfl, rfl, w0⟩ := open_string Try.underlying9 (hval 0 9 v0 rfl rfl) h0
  obtain ⟨a1, rfl, rfl, rfl, w1⟩ := open_int Try.underlying3 (hval 1 3 v1 rfl rfl) h1
  obtain ⟨a2, rfl, rfl, rfl, w2⟩ := open_int Try.underlying3 (hval 2 3 v2 rfl rfl) h2
  clear hA0 hval0
  refine (Rx.writes_walk a0 a1 a2 W w0).mono fun e W' ⟨he, hg⟩ => ?_
  subst he
  exact ⟨_, rfl, _, _, _, [], _, [], hW', trodAll_mk1 (shut_bool Try.underlying4 _), (trodAll_cons_mk (shut_string Try.underlying9 w0) (trodAll_cons_mk (shut_int Try.underlying3 w1) (trodAll_cons_mk (shut_int Try.underlying3 w2) trodAll_mk0))), rfl, hg.frame _, fun h => by cases h⟩
theorem over : Rows.ppmWritesRow.holds Try.pinned (OpenSpec.ofChange Rows.ppmWritesSpec) :=
  OpenClaim.holds_of_wide 4 Try.f4 rfl rfl rfl rfl rfl rfl rfl ⟨rfl, rfl, rfl, rfl, rfl⟩ rfl rfl rfl rfl rfl (by kernel_rfl) Try.func4 (by kernel_rfl)
    (of_decide_eq_true (by kernel_rfl)) (by unfold Func.isWrapper; first | (rw [if_pos (by decide +kernel)]; kernel_rfl) | (rw [if_neg (by decide +kernel)]; exact ⟨rfl, rfl⟩))
    (fun os started H enc _ => lifted os started H enc)
end Go.Proofs.Yteacmcckhjabmaa.ppmWrites
namespace Go.Proofs.Yteacmcckhjabmaa
/-- The statement. -/
theorem ppmWrites_holds : Rows.PpmWritesSaid := ppmWrites.over
end Go.Proofs.Yteacmcckhjabmaa
end
