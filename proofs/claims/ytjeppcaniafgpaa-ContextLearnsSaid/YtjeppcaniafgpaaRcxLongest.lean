/-
  The reference of layer 18: the contract of Longest.
-/
import Derived.Test.YtjeppcaniafgpaaRcxTable
set_option linter.unusedVariables false
set_option linter.unusedSimpArgs false
namespace Go.Proofs.Ytjeppcaniafgpaa.Rx
open Go.RowKit Go.Maps
open Fq
open Rc
open Cx (Tl TOk)
namespace Rd
def longN (q : Rd) : Nat → Int
  | 0 => -1
  | j + 1 => if (q.at' j).isSome = true then (j : Int) else q.longN j
def long (q : Rd) : Int := q.longN (q.order + 1)
end Rd
section
variable {cs : List Nat} {w w' : World} {O O' : Paint} {c d mb : Nat} {D : Dv} {q : Rd} {v1 v2 : Value} {t : Option Tl}
theorem RowsC.shape (h : RowsC w O c v1 v2 t) : ∃ A p A2 p2, v1 = .slice A (t.getD []).length p ∧ v2 = .slice A2 (t.getD []).length p2 := RefT.shape h.ref.ref
set_option maxRecDepth 100000 in
set_option maxHeartbeats 1000000 in
theorem longest_dw (h : RdAt w O c d mb D q) (ho : q.order ≤ 16) (hh : q.hist.length ≤ 1000000) :
    Calls Try.prog 19 #[.pointer (some ⟨d, 0, none⟩)] w fun x w' => x = .returned (.int .i64 q.long) ∧ Below w.heap.size w w' := by
  obtain ⟨e0, e1, e2, e3, e4⟩ := five_at h.obj.1
  have H := Lib.hid h
  have HL := Lib.hid (show q.long = q.longN (q.order + 1) from rfl)
  clear e1 e2 e3 e4
  go_enter Try.func19, Try.ntmps19
  go_wp2_with fail
  go_loopw [3] (fun i wr => ∃ j : Nat, j ≤ q.order + 1 ∧ i = .int .i64 ((j : Int) - 1) ∧ q.long = q.longN j ∧ Below w.heap.size w wr) (fun i _ => (intOf i + 1).toNat)
  case atStart => exact ⟨q.order + 1, Nat.le_refl _, by congr 1; omega, HL.out, Below.refl _ _⟩
  case round =>
    obtain ⟨j, hj, rfl, hl, hb⟩ := hrel
    have HB := Lib.hid hb
    cases j with
    | zero =>
      have g0 : ¬ 0 ≤ ((0 : Nat) : Int) - 1 := by omega
      have HN := Lib.hid hl
      clear hb hl
      go_wp2_with fail
      go_ret
      exact ⟨by rw [HN.out]; rfl, HB.out⟩
    | succ j =>
      have e5 : ((j + 1 : Nat) : Int) - 1 = (j : Int) := by omega
      rw [e5]
      have g0 : 0 ≤ (j : Int) := by omega
      have HT := Lib.hid (table_dw (H.out.step (Step.of_below_same hb O) (by simp)) ho hh j (by omega))
      obtain ⟨w1, w2⟩ := wr_in (x := (j : Int) - 1) (by omega) (by omega)
      have HN := Lib.hid (show q.long = if (q.at' j).isSome = true then (j : Int) else q.longN j from hl)
      clear hb hl e5
      cases hs : (q.at' j).isSome with
      | true =>
        rw [hs] at HT HN
        clear hs
        go_wp2_with fail
        refine HT.out.mono ?_
        rintro x w3 ⟨v1, v2, rfl, hr, hb3⟩
        obtain ⟨A1, p1, A2, p2, rfl, rfl⟩ := hr.shape
        have HB3 := Lib.hid (HB.out.trans (hb3.mono HB.out.size))
        clear hb3 hr
        go_wp2_with fail
        go_ret
        exact ⟨by rw [HN.out]; rfl, bel_alloc _ HB3.out⟩
      | false =>
        rw [hs] at HT HN
        clear hs
        go_wp2_with fail
        refine HT.out.mono ?_
        rintro x w3 ⟨v1, v2, rfl, hr, hb3⟩
        obtain ⟨A1, p1, A2, p2, rfl, rfl⟩ := hr.shape
        have HB3 := Lib.hid (HB.out.trans (hb3.mono HB.out.size))
        clear hb3 hr
        go_wp2_with fail
        go_roundw
        case rel => exact ⟨j, by omega, rfl, by rw [HN.out]; rfl, bel_alloc _ HB3.out⟩
        case measure => simp [intOf]
end
end Go.Proofs.Ytjeppcaniafgpaa.Rx
