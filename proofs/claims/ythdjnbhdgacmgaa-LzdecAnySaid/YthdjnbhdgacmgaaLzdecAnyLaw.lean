/-
  Statement LzdecAny: for every input the call returns true and its arguments read as before. The row's frame; no condition beside the statement's own.
-/
import Derived.Test.YthdjnbhdgacmgaaLzdecAnyWalk
import Derived.Test.YthdjnbhdgacmgaaOpens
import Derived.Test.YthdjnbhdgacmgaaRows
import Derived.WalkKit
import Derived.ProofKit
import Derived.OpenShut
import Derived.ShutString
import Derived.ChangeOld
import Derived.Below
namespace Go.Proofs.Ythdjnbhdgacmgaa.lzdecAny
open Go.ChangeShapes Go.WideShapes Go.ChangeAt Go.RowKit
open Go.ChangeMaps (open_string shut_string)
set_option linter.unusedVariables false

theorem cellsAsk : Try.prog.cellsOf 25 = 6 := by kernel_rfl
theorem cellsS : Try.prog.cellsOf 9 = 1 := by kernel_rfl
theorem cellsX : Try.prog.cellsOf 22 = 3 := by kernel_rfl
theorem cellsI : Try.prog.cellsOf 3 = 1 := by kernel_rfl
theorem cellsU : Try.prog.cellsOf 23 = 1 := by kernel_rfl
theorem cellsB : Try.prog.cellsOf 5 = 1 := by kernel_rfl
/-- The argument, opened. -/
theorem open_ask_gen {P : Program} {t tS tX tI tU tB : TypeId} {f0 f1 f2 f3 : Field} (hu : P.underlying t = some (.struct #[f0, f1, f2, f3])) (c6 : P.cellsOf t = 6)
    (o0 : f0.offset = 0) (o1 : f1.offset = 1) (o2 : f2.offset = 4) (o3 : f3.offset = 5) (u0 : f0.type = tS) (u1 : f1.type = tX) (u2 : f2.type = tI) (u3 : f3.type = tU)
    (hS : P.underlying tS = some .string) (hX : P.underlying tX = some (.array 3 tB)) (hB : P.underlying tB = some (.int .u8)) (hI : P.underlying tI = some (.int .i64)) (hU : P.underlying tU = some (.int .u16))
    (cS : P.cellsOf tS = 1) (cX : P.cellsOf tX = 3) (cI : P.cellsOf tI = 1) (cU : P.cellsOf tU = 1) (cB : P.cellsOf tB = 1)
    {H : Type} {enc : TypeId × Value → H} {w W : World} {base b0 : Nat} {spare : Nat → Bool} {held : Bool} {v : Value} {d : DataW H} {p : List MemPlace} {r : Reach}
    (hk : Value.okWide P W r b0 t v) (h : DataW.Trod enc P w base spare held t v d p) :
    ∃ (S : ByteArray) (x0 x1 x2 n mo : Int), v = .agg #[.string S, .int .u8 x0, .int .u8 x1, .int .u8 x2, .int .i64 n, .int .u16 mo] ∧ S.size ≤ maxLen ∧ (Lit.int .u8 x0).wf = true ∧ (Lit.int .u8 x1).wf = true ∧ (Lit.int .u8 x2).wf = true ∧ (Lit.int .i64 n).wf = true ∧ (Lit.int .u16 mo).wf = true := by
  simp only [Value.okWide, hu] at hk
  obtain ⟨cs, rfl, h2, _⟩ := hk
  obtain ⟨fuel, hf⟩ := h
  obtain ⟨xs, m, _, ex, hlen, hl, hel⟩ := DataW.trod_struct hu hf
  obtain ⟨l⟩ := cs
  rw [c6] at hlen
  match l, hlen with
  | [a, b0, b1, b2, c, e], _ =>
    match xs, hl with
    | [y0, y1, y2, y3], _ =>
      have k0 := hel 0 f0 rfl
      have k1 := hel 1 f1 rfl
      have k2 := hel 2 f2 rfl
      have k3 := hel 3 f3 rfl
      rw [o0, u0, cS] at k0
      rw [o1, u1, cX] at k1
      rw [o2, u2, cI] at k2
      rw [o3, u3, cU] at k3
      obtain ⟨S, s0, _, w0⟩ := DataW.trod_string hS k0
      obtain ⟨n, n0, _, w2⟩ := DataW.trod_int hI k2
      obtain ⟨mo, m0, _, w3⟩ := DataW.trod_int hU k3
      obtain ⟨zs, m1, _, _, zlen, zl, zel⟩ := DataW.trod_array hX k1
      match zs, zl with
      | [z0, z1, z2], _ =>
        have q0 := zel 0 (by omega)
        have q1 := zel 1 (by omega)
        have q2 := zel 2 (by omega)
        rw [cB] at q0 q1 q2
        obtain ⟨g0, v0, _, t0⟩ := DataW.trod_int hB q0
        obtain ⟨g1, v1, _, t1⟩ := DataW.trod_int hB q1
        obtain ⟨g2, v2, _, t2⟩ := DataW.trod_int hB q2
        simp [Value.cells] at s0 n0 m0 v0 v1 v2
        exact ⟨S, g0, g1, g2, n, mo, by rw [s0, n0, m0, v0, v1, v2], w0, t0, t1, t2, w2, w3⟩
set_option maxRecDepth 1000000 in
theorem open_ask {H : Type} {enc : TypeId × Value → H} {w W : World} {base b0 : Nat} {spare : Nat → Bool} {held : Bool} {v : Value} {d : DataW H} {p : List MemPlace} {r : Reach}
    (hk : Value.okWide Try.prog W r b0 25 v) (h : DataW.Trod enc Try.prog w base spare held 25 v d p) :
    ∃ (S : ByteArray) (x0 x1 x2 : Nat) (n : Int) (mo : Nat), v = .agg #[.string S, .int .u8 (x0 : Int), .int .u8 (x1 : Int), .int .u8 (x2 : Int), .int .i64 n, .int .u16 (mo : Int)] ∧ S.size ≤ maxLen ∧ x0 < 256 ∧ x1 < 256 ∧ x2 < 256 ∧ (-9223372036854775808 ≤ n ∧ n ≤ 9223372036854775807) ∧ mo < 65536 := by
  obtain ⟨S, y0, y1, y2, n, m, e, hs, w0, w1, w2, w3, w4⟩ := open_ask_gen Try.underlying25 cellsAsk rfl rfl rfl rfl rfl rfl rfl rfl Try.underlying9 Try.underlying22 Try.underlying5 Try.underlying3 Try.underlying23 cellsS cellsX cellsI cellsU cellsB hk h
  have r0 := wf_u8 w0
  have r1 := wf_u8 w1
  have r2 := wf_u8 w2
  have r3 := wf_u16 w4
  obtain ⟨o0, rfl⟩ := Int.eq_ofNat_of_zero_le r0.1
  obtain ⟨o1, rfl⟩ := Int.eq_ofNat_of_zero_le r1.1
  obtain ⟨o2, rfl⟩ := Int.eq_ofNat_of_zero_le r2.1
  obtain ⟨o3, rfl⟩ := Int.eq_ofNat_of_zero_le r3.1
  exact ⟨S, o0, o1, o2, n, o3, e, hs, by omega, by omega, by omega, wf_i64 w3, by omega⟩
theorem own : ownKnob Try.prog.godebug = none := by kernel_rfl
set_option maxRecDepth 100000 in
theorem lifted (os : Os) (started : os.Started) (H : Type) (enc : TypeId × Value → H) :
    ReturnsInHanded {} Try.checked os 3 .any (Rows.lzdecAnySpec.pre6 enc Try.prog Try.f3 Rows.lzdecAnyRow.domain false) (Rows.lzdecAnySpec.post enc Try.prog Try.f3 false true false false) := by
  refine returnsInHanded_of_change (C := Try.checked) own started (by kernel_rfl) Try.func3
    (ChangeSpec.witness6 (enc := enc) (C := Try.checked) false ⟨#[], #[.agg #[.string ByteArray.empty, .int .u8 0, .int .u8 0, .int .u8 0, .int .i64 0, .int .u16 0]], []⟩ 8 (by kernel_rfl) (by kernel_rfl) (by kernel_rfl) (by kernel_rfl)) ?_
  intro W base args ds gs before hval0 hW hcnd _
  have hval : ∀ (j : Nat) t v, Try.f3.params[j]? = some t → args[j]? = some v → Value.okWide Try.prog W .any base t v := hval0
  have hW' := hW
  obtain ⟨p, q, hA0, hV, rfl, hfz, hnd⟩ := hW
  have hA : DataW.TrodAll enc Try.prog W 0 (fun _ => true) true Try.f3.params.toList args.toList ds p := hA0
  rw [Try.params3] at hA hval
  obtain ⟨v0, vs0, d0, ds0, p0, q0, hargs, rfl, rfl, h0, r0⟩ := trodAll_cons hA
  obtain ⟨rfl, rfl, rfl⟩ := trodAll_nil r0
  obtain rfl : args = #[v0] := by cases args; simp_all
  obtain ⟨rfl, rfl⟩ := trodVars_none hV
  obtain ⟨S, x0, x1, x2, n, mo, rfl, w0, w1, w2, w3, w4, w5⟩ := open_ask (hval 0 25 v0 rfl rfl) h0
  have k0 := h0
  have lt0 : ∀ x ∈ p0, x.block < W.heap.size := by obtain ⟨m, hm⟩ := k0; exact DataW.trod_lt m _ _ _ hm
  clear hA0 hval0
  refine (Lz.lzany_walk S w0 x0 x1 x2 w1 w2 w3 n w4.1 w4.2 mo w5 W).mono fun e W' ⟨he, hg⟩ => ?_
  subst he
  exact ⟨_, rfl, _, _, _, [], _, [], hW', trodAll_mk1 (shut_bool Try.underlying4 _), (trodAll_cons_mk (Below.trod Mo.laidOut (by kernel_rfl) (of_decide_eq_true (by kernel_rfl)) k0 hg lt0) trodAll_mk0), rfl, hg.frame _, fun h => by cases h⟩

theorem over : Rows.lzdecAnyRow.holds Try.pinned (OpenSpec.ofChange Rows.lzdecAnySpec) :=
  OpenClaim.holds_of_wide 3 Try.f3 rfl rfl rfl rfl rfl rfl rfl ⟨rfl, rfl, rfl, rfl, rfl⟩ rfl rfl rfl rfl rfl (by kernel_rfl) Try.func3 (by kernel_rfl)
    (of_decide_eq_true (by kernel_rfl)) (by unfold Func.isWrapper; first | (rw [if_pos (by decide +kernel)]; kernel_rfl) | (rw [if_neg (by decide +kernel)]; exact ⟨rfl, rfl⟩))
    (fun os started H enc _ => lifted os started H enc)
end Go.Proofs.Ythdjnbhdgacmgaa.lzdecAny
namespace Go.Proofs.Ythdjnbhdgacmgaa
/-- The statement. -/
theorem lzdecAny_holds : Rows.LzdecAnySaid := lzdecAny.over
end Go.Proofs.Ythdjnbhdgacmgaa
