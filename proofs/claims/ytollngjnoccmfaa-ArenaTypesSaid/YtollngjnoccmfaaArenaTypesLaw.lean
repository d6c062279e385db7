/-
  Statement ArenaTypes: for every input the call returns true and its arguments read as before. The row's frame; no condition beside the statement's own.
-/
import Derived.Test.YtollngjnoccmfaaArenaTypesWalk
import Derived.Test.YtollngjnoccmfaaRows
import Derived.Deep.Slices
import Derived.WalkKit
import Derived.ProofKit
import Derived.OpenShut
import Derived.ShutString
import Derived.ChangeOld
import Derived.Below
namespace Go.Proofs.Ytollngjnoccmfaa.arenaTypes
open Go.ChangeShapes Go.WideShapes Go.ChangeAt Go.RowKit
open Go.ChangeMaps (open_string shut_string)
set_option linter.unusedVariables false

theorem laidOut : laidOutB Try.prog = true := by kernel_rfl
theorem addr_add (b off j : Nat) : (⟨b, off, none⟩ : Addr).add j = ⟨b, off + j, none⟩ := by unfold Addr.add; split <;> simp_all
theorem strs_of {a : Option Addr} {w : World} : ∀ (n : Nat) (b off : Nat), a = some ⟨b, off, none⟩ → (∀ i, i < n → ∃ s, w.cell? ⟨b, off + i, none⟩ = some (.string s)) → ∃ ss : List ByteArray, ss.length = n ∧ As.IsStrs w a ss := by
  intro n b off ha h
  have key : ∀ n, (∀ i, i < n → ∃ s, w.cell? ⟨b, off + i, none⟩ = some (.string s)) → ∃ ss : List ByteArray, ss.length = n ∧ ∀ i (hi : i < ss.length), w.cell? ⟨b, off + i, none⟩ = some (.string ss[i]) := by
    intro n
    induction n with
    | zero => exact fun _ => ⟨[], rfl, fun i hi => absurd hi (by simp)⟩
    | succ n ih =>
      intro h
      obtain ⟨ss, h1, h2⟩ := ih (fun i hi => h i (by omega))
      obtain ⟨s, hs⟩ := h n (by omega)
      refine ⟨ss ++ [s], by simp [h1], fun i hi => ?_⟩
      simp only [List.length_append, List.length_cons, List.length_nil] at hi
      by_cases hq : i < ss.length
      · rw [List.getElem_append_left hq]
        exact h2 i hq
      · obtain rfl : i = ss.length := by omega
        rw [List.getElem_append_right (Nat.le_refl _)]
        simp only [Nat.sub_self, List.getElem_cons_zero]
        rw [h1]
        exact hs
  obtain ⟨ss, h1, h2⟩ := key n h
  exact ⟨ss, h1, .inr ⟨b, off, ha, h2⟩⟩
theorem open_strs (N : Nat) {H : Type} {enc : TypeId × Value → H} {w : World} {base : Nat} {spare : Nat → Bool} {held : Bool} {a : Option Addr} {len cap : Nat} {d : DataW H} {p : List MemPlace}
    (h : DataW.Trod enc Try.prog w base spare held 64 (.slice a len cap) d p) : ∃ ss : List ByteArray, ss.length = min len N ∧ As.IsStrs w a ss ∧ len ≤ cap ∧ len ≤ maxLen ∧ (a = none → len = 0 ∧ cap = 0) := by
  obtain ⟨fuel, hf⟩ := h
  rcases Go.Deep.open_slice1 Try.underlying64 (by kernel_rfl) hf with ⟨hcs, _⟩ | ⟨x, l, c, m, n, V, D, Pl, hcs, _, hl, hm, hmm, _, hi⟩
  · simp [Value.cells] at hcs
    obtain ⟨rfl, rfl, rfl⟩ := hcs
    exact ⟨[], by simp, .inl rfl, Nat.le_refl _, by unfold maxLen; omega, fun _ => ⟨rfl, rfl⟩⟩
  · simp [Value.cells] at hcs
    obtain ⟨rfl, rfl, rfl⟩ := hcs
    have hno : (some x : Option Addr) = none → len = 0 ∧ cap = 0 := fun e => by cases e
    by_cases h0 : len = 0
    · subst h0
      exact ⟨[], by simp, .inl rfl, hl, by unfold maxLen; omega, hno⟩
    · obtain ⟨b, off, spot⟩ := x
      have hlm : len ≤ m := by rw [hmm]; split <;> omega
      have hspot : spot = none := by
        obtain ⟨h1, h2⟩ := hi 0 (by omega)
        simpa [Addr.add] using World.cell?_spot h1
      subst hspot
      have key : ∀ i, i < min len N → ∃ s, w.cell? ⟨b, off + i, none⟩ = some (.string s) := by
        intro i hlt
        obtain ⟨h1, h2⟩ := hi i (by omega)
        obtain ⟨s, e0, _, _⟩ := DataW.trod_string Try.underlying9 h2
        simp only [List.cons.injEq, and_true] at e0
        rw [addr_add, e0] at h1
        exact ⟨s, h1⟩
      obtain ⟨ss, h1, h2⟩ := strs_of _ b off rfl key
      exact ⟨ss, h1, h2, hl, Nat.le_trans hl hm, hno⟩
theorem own : ownKnob Try.prog.godebug = none := by kernel_rfl
set_option maxRecDepth 100000 in
theorem lifted (os : Os) (started : os.Started) (H : Type) (enc : TypeId × Value → H) :
    ReturnsInHanded {} Try.checked os 6 .any (Rows.arenaTypesSpec.pre6 enc Try.prog Try.f6 Rows.arenaTypesRow.domain false) (Rows.arenaTypesSpec.post enc Try.prog Try.f6 false true false false) := by
  refine returnsInHanded_of_change (C := Try.checked) own started (by kernel_rfl) Try.func6
    (ChangeSpec.witness6 (enc := enc) (C := Try.checked) false ⟨#[], #[.slice none 0 0], []⟩ 8 (by kernel_rfl) (by kernel_rfl) (by kernel_rfl) (by kernel_rfl)) ?_
  intro W base args ds gs before hval0 hW hcnd _
  have hval : ∀ (j : Nat) t v, Try.f6.params[j]? = some t → args[j]? = some v → Value.okWide Try.prog W .any base t v := hval0
  have hW' := hW
  obtain ⟨p, q, hA0, hV, rfl, hfz, hnd⟩ := hW
  have hA : DataW.TrodAll enc Try.prog W 0 (fun _ => true) true Try.f6.params.toList args.toList ds p := hA0
  rw [Try.params6] at hA hval
  obtain ⟨v0, vs0, d0, ds0, p0, q0, hargs, rfl, rfl, h0, r0⟩ := trodAll_cons hA
  obtain ⟨rfl, rfl, rfl⟩ := trodAll_nil r0
  obtain rfl : args = #[v0] := by cases args; simp_all
  obtain ⟨rfl, rfl⟩ := trodVars_none hV
  obtain ⟨a0, len0, cap0, rfl⟩ := okWide_slice Try.underlying64 (hval 0 64 v0 rfl rfl)
  have k0 := h0
  have lt0 : ∀ x ∈ p0, x.block < W.heap.size := by obtain ⟨m, hm⟩ := k0; exact DataW.trod_lt m _ _ _ hm
  obtain ⟨ss, e1, e2, e3, e4, e5⟩ := open_strs 60 h0
  clear hA0 hval0
  refine (As.types_walk a0 len0 cap0 W ss e1 e3 e4 e2 e5).mono fun e W' ⟨he, hg⟩ => ?_
  subst he
  exact ⟨_, rfl, _, _, _, [], _, [], hW', trodAll_mk1 (shut_bool Try.underlying4 _), (trodAll_cons_mk (Below.trod laidOut (by kernel_rfl) (of_decide_eq_true (by kernel_rfl)) k0 hg lt0) trodAll_mk0), rfl, hg.frame _, fun h => by cases h⟩

theorem over : Rows.arenaTypesRow.holds Try.pinned (OpenSpec.ofChange Rows.arenaTypesSpec) :=
  OpenClaim.holds_of_wide 6 Try.f6 rfl rfl rfl rfl rfl rfl rfl ⟨rfl, rfl, rfl, rfl, rfl⟩ rfl rfl rfl rfl rfl (by kernel_rfl) Try.func6 (by kernel_rfl)
    (of_decide_eq_true (by kernel_rfl)) (by unfold Func.isWrapper; first | (rw [if_pos (by decide +kernel)]; kernel_rfl) | (rw [if_neg (by decide +kernel)]; exact ⟨rfl, rfl⟩))
    (fun os started H enc _ => lifted os started H enc)
end Go.Proofs.Ytollngjnoccmfaa.arenaTypes
namespace Go.Proofs.Ytollngjnoccmfaa
/-- The statement. -/
theorem arenaTypes_holds : Rows.ArenaTypesSaid := arenaTypes.over
end Go.Proofs.Ytollngjnoccmfaa
