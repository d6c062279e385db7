/-
  The program's contexts and the document's, side by side in memory.
-/
import Derived.Test.YteacmcckhjabmaaRcxCouple
import Derived.Test.YteacmcckhjabmaaRcxLearns
set_option linter.unusedVariables false
set_option linter.unusedSimpArgs false
namespace Go.Proofs.Yteacmcckhjabmaa.Rx
open Go.RowKit
open Fq Rc
open Cx (Tl TOk Rw RwAt CM cols CxTo)
theorem Rd.learn1_bd (q : Rd) (s a : Nat) (ho : q.order ≤ 16) : (q.learn1 s a).hist.length ≤ q.hist.length + 1 ∧ (q.learn1 s a).n ≤ q.n + 17 ∧ (q.learn1 s a).rs = q.rs := by
  obtain ⟨h1, h2, h3, h4, h5⟩ := Rd.addN_parts q s a (q.room a)
  refine ⟨?_, ?_, h3⟩
  · show ((q.addN s a (q.room a)).hist ++ [_]).length ≤ _
    rw [h4]
    simp
  · show (q.addN s a (q.room a)).n ≤ _
    rw [h5]
    unfold Rd.room
    omega
theorem Rd.learn_bd (q : Rd) (s : Nat) (f : Int) (ho : q.order ≤ 16) : (q.learn s f).hist.length ≤ q.hist.length + 1 ∧ (q.learn s f).n ≤ q.n + 17 ∧ (q.learn s f).rs ≤ q.rs + 1 := by
  unfold Rd.learn
  split
  · obtain ⟨h1, h2, h3⟩ := Rd.learn1_bd q.forget s 0 ho
    refine ⟨Nat.le_trans h1 (by show 0 + 1 ≤ _; omega), Nat.le_trans h2 (by show 0 + 17 ≤ _; omega), by rw [h3]; exact Nat.le_refl _⟩
  · obtain ⟨h1, h2, h3⟩ := Rd.learn1_bd q s (max f 0).toNat ho
    exact ⟨h1, h2, by rw [h3]; omega⟩
structure TwoC (w : World) (O : Paint) (d e : Nat) (m : CM) (r : Rw) (mb : Nat) (D : Dv) (q : Rd) (j : Nat) : Prop where
  dev : RwAt w O 10 d m r
  ref : RdAt w O 40 e mb D q
  cp : Cp r q
  hist : q.hist.length ≤ j
  n : q.n ≤ 17 * j
  rs : q.rs ≤ j
section
variable {w w' : World} {O O' : Paint} {d e mb j : Nat} {m : CM} {r : Rw} {D : Dv} {q : Rd}
theorem TwoC.idle (h : TwoC w O d e m r mb D q j) (hs : Step [] w O w' O') : TwoC w' O' d e m r mb D q j := ⟨h.dev.idle hs, h.ref.step hs (by simp), h.cp, h.hist, h.n, h.rs⟩
theorem TwoC.ord (h : TwoC w O d e m r mb D q j) : q.order ≤ 16 ∧ q.cells ≤ 1048576 ∧ q.sum ≤ 1000000000 := by
  have h1 := h.cp.ok.order
  have h2 := h.cp.ok.cells.2
  have h3 := h.cp.ok.used
  rw [h.cp.order] at h1
  rw [h.cp.cells] at h2 h3
  rw [h.cp.u] at h3
  exact ⟨h1, h2, by omega⟩
/-- The program learns. -/
theorem TwoC.learn1 (h : TwoC w O d e m r mb D q j) (hj : j ≤ 100000) {s : Nat} (hs : s < 256) (f : Int) :
    Calls Try.prog 33 #[.pointer (some ⟨d, 0, none⟩), .int .u8 (s : Int), .int .i64 f] w fun x w' => x = .returned (.tuple #[]) ∧ ∃ O' m', Step (cols 10) w O w' O' ∧ RwAt w' O' 10 d m' (r.learn s f) ∧ RdAt w' O' 40 e mb D q := by
  refine (Cx.learn_any h.dev hs f (by rw [h.cp.rs]; have := h.rs; omega)).mono ?_
  rintro x w' ⟨rfl, O', m', hs', h'⟩
  exact ⟨rfl, O', m', hs', h', h.ref.step hs' (by simp [cols])⟩
/-- And the document's. -/
theorem two_learn {w2 : World} {O2 : Paint} {m2 : CM} (h : TwoC w O d e m r mb D q j) (hj : j ≤ 100000) {s : Nat} (hs : s < 256) {f : Int} (hf : f ≤ (r.pth.length : Int) - 1) (h1 : RwAt w2 O2 10 d m2 (r.learn s f)) (h2 : RdAt w2 O2 40 e mb D q) :
    Calls Try.prog 42 #[.pointer (some ⟨e, 0, none⟩), .int .u8 (s : Int), .int .i64 f] w2 fun x w' => x = .returned (.tuple #[]) ∧ ∃ O' mb' D', Step [40] w2 O2 w' O' ∧ TwoC w' O' d e m2 (r.learn s f) mb' D' (q.learn s f) (j + 1) := by
  obtain ⟨a1, a2, a3⟩ := h.ord
  have b1 := h.hist
  have b2 := h.n
  have b3 := h.rs
  have hp := h.cp.ok.short.1
  refine (learn_dw h2 a1 (by omega) a2 a3 (by omega) hs f (by omega) (by omega)).mono ?_
  rintro x w' ⟨rfl, O', mb', D', hs', h'⟩
  obtain ⟨c1, c2, c3⟩ := q.learn_bd s f a1
  exact ⟨rfl, O', mb', D', hs', ⟨h1.step hs' (by simp [cols]), h', h.cp.learn hs hf, by omega, by omega, by omega⟩⟩
end
end Go.Proofs.Yteacmcckhjabmaa.Rx
