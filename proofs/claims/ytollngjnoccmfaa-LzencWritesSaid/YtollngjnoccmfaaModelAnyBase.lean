/-
  Layer 10's statement ModelAny: New of params that may not be; packets that are told one after another tell the text (mathematics).
-/
import Derived.Test.YtollngjnoccmfaaModelPair
import Derived.Test.YtollngjnoccmfaaPackDo
set_option linter.unusedVariables false
namespace Go.Proofs.Ytollngjnoccmfaa.Mo
open Go.RowKit
open Rc
open Pk (Rp Pt four applyL)
open Pl (flatP)
set_option maxRecDepth 100000 in
theorem new_nil (lc lp pb most : Int) (h1 : -9223372036854775808 ≤ lc ∧ lc ≤ 9223372036854775807) (h2 : -9223372036854775808 ≤ lp ∧ lp ≤ 9223372036854775807) (hg : goodB lc lp pb = false) (w : World) :
    Calls Try.prog 52 #[.agg #[.int .i64 lc, .int .i64 lp, .int .i64 pb], .int .i64 most] w fun x w' => x = .returned (.pointer none) ∧ Below w.heap.size w w' := by
  have hb1 : Below w.heap.size w (w.alloc (.cells #[.int .i64 lc, .int .i64 lp, .int .i64 pb] 26)) := (Below.refl _ _).alloc (Nat.le_refl _) _
  have hz := heap_alloc_new w (.cells #[.int .i64 lc, .int .i64 lp, .int .i64 pb] 26)
  obtain ⟨p0, p1, p2⟩ := three hz
  have HB1 := Lib.hid hb1
  have HG := Lib.hid (fun W => good_any lc lp pb h1 h2 W)
  rw [hg] at HG
  clear hb1 hz h1 h2 hg
  go_enter Try.func52, Try.ntmps52
  go_upto_region 1 with (fail)
  generalize w.alloc (.cells #[.int .i64 lc, .int .i64 lp, .int .i64 pb] 26) = W1 at *
  go_wp2_with fail
  refine (HG.out W1).mono ?_
  rintro z W2 ⟨rfl, hb2⟩
  have HB2 := Lib.hid (HB1.out.trans (hb2.mono HB1.out.size))
  clear hb2 HB1 p0 p1 p2
  go_wp2_with fail
  go_ret
  exact ⟨rfl, HB2.out⟩
/-- The packets that were told tell the text. -/
def Telling (m : Ms) (l : List Pt) : Prop := ∀ k, applyL 2000 (l ++ k) [] ⟨1, 1, 1, 1⟩ = applyL 2000 k m.l m.r
theorem telling_new (lc lp pb : Nat) : Telling (mNew lc lp pb) [] := fun _ => rfl
theorem telling_all {m : Ms} {l : List Pt} (h : Telling m l) : applyL 2000 l [] ⟨1, 1, 1, 1⟩ = (m.l, 0) := by
  have := h []
  rw [List.append_nil] at this
  rw [this, applyL]
theorem telling_more {m : Ms} {l : List Pt} {most : Int} {p : Pt} {y : Int × Int × Rp} (h : Telling m l) (hm : most ≤ 2000) (hr : m.r.pos) (hy : fitM most m p = some y) : Telling (m.tell p y) (l ++ [p]) := by
  intro k
  rw [List.append_assoc, h]
  obtain ⟨d, n, s⟩ := y
  obtain ⟨h1, h2⟩ := fitM_some hy
  obtain ⟨_, h4⟩ := Pk.fit_some h1 hr
  show applyL 2000 (p :: k) m.l m.r = _
  rw [applyL, h1]
  simp only
  have ht : p.tell 2000 m.l d n = some (m.tell p (d, n, s)).l := by
    rcases h4 with ⟨hk, rfl⟩ | ⟨hk, h5, h6, h7, _⟩
    · unfold Pk.Pt.tell
      rw [if_pos hk, if_pos (by simp only at h2; omega)]
      simp only [Ms.tell, if_pos hk]
    · unfold Pk.Pt.tell
      rw [if_neg hk, if_pos (by simp only at h2; omega)]
      simp only [Ms.tell, if_neg hk]
  rw [ht]
  rfl
end Go.Proofs.Ytollngjnoccmfaa.Mo
