/-
  Layer 17's statements: their first lines (speaks) return true.
-/
import Derived.Test.YtollngjnoccmfaaArenaTake
set_option linter.unusedVariables false
set_option linter.unusedSimpArgs false
namespace Go.Proofs.Ytollngjnoccmfaa.Ar
open Go.RowKit
open Rc
theorem run_step {cs : List Nat} {w0 w w' : World} {O O' : Paint} (h : Below w0.heap.size w0 w ∧ ∀ k, k < w0.heap.size → O k = 0) (hs : Step cs w O w' O') (h0 : 0 ∉ cs) : Below w0.heap.size w0 w' ∧ ∀ k, k < w0.heap.size → O' k = 0 :=
  ⟨h.1.trans (hs.below h.1.size (fun k hk hc => h0 (by rw [h.2 k hk] at hc; exact hc))), fun k hk => (hs.ext k (Nat.lt_of_lt_of_le hk h.1.size)).trans (h.2 k hk)⟩
def t1 : Aren := (zNew 2).take (.int .i64 7)
def t2 : Aren := t1.take (.int .i64 8)
def t3 : Aren := t2.free 1 (.int .i64 0)
def t4 : Aren := t3.take (.int .i64 5)
set_option maxRecDepth 100000 in
set_option maxHeartbeats 4000000 in
theorem speaks17 (w : World) : Calls Try.prog 20 #[] w fun x w' => x = .returned (.bool true) ∧ Below w.heap.size w w' := by
  have HN := Lib.hid (new_any (c1 := 1) (c2 := 2) (c3 := 3) (c4 := 4) 2 (by omega) w (fun _ => 0) (by decide) (fun _ => 0) (fun _ => #[]))
  go_enter Try.func20, Try.ntmps20
  go_wp2_with fail
  refine HN.out.mono ?_
  rintro x w1 ⟨O1, a, rfl, hs1, hA1⟩
  have HR1 := Lib.hid (run_step ⟨Below.refl _ w, fun _ _ => rfl⟩ hs1 (by simp))
  have HA1 := Lib.hid hA1
  clear hs1 hA1 HN
  go_wp2_with fail
  refine (take_any (z := zNew 2) HA1.out (by decide) (by decide) 7).mono ?_
  rintro x w2 ⟨rfl, O2, B2, A2, vp2, vf2, hs2, hA2⟩
  have HR2 := Lib.hid (run_step HR1.out hs2 (by decide))
  have HA2 : Hid (ArenaAt w2 O2 1 2 3 4 a _ _ _ t1 0 B2 A2 vp2 vf2) := Lib.hid hA2
  clear hs2 hA2 HR1 HA1
  rw [show ((zNew 2).next : Int) = 1 from rfl]
  go_wp2_with fail
  refine (take_any (z := t1) HA2.out (by decide) (by decide) 8).mono ?_
  rintro x w3 ⟨rfl, O3, B3, A3, vp3, vf3, hs3, hA3⟩
  have HR3 := Lib.hid (run_step HR2.out hs3 (by decide))
  have HA3 : Hid (ArenaAt w3 O3 1 2 3 4 a _ _ _ t2 0 B3 A3 vp3 vf3) := Lib.hid hA3
  clear hs3 hA3 HR2 HA2
  rw [show (t1.next : Int) = 2 from rfl]
  go_wp2_with fail
  refine (take_none (z := t2) HA3.out (by decide) _).mono ?_
  rintro x w4 ⟨rfl, n, rfl⟩
  have HR4 := Lib.hid (run_step HR3.out ((Step.refl [] w3 O3).drewN n) (by simp))
  have HA4 := Lib.hid (drewN_at HA3.out n)
  clear HR3 HA3
  generalize w3.drewN n = W4 at *
  go_wp2_with fail
  refine (free_yes (z := t2) (i := 1) HA4.out (by decide) (by decide)).mono ?_
  rintro x w5 ⟨rfl, O5, A5, vf5, hs5, hA5⟩
  have HR5 := Lib.hid (run_step HR4.out hs5 (by decide))
  have HA5 : Hid (ArenaAt w5 O5 1 2 3 4 a _ _ _ t3 0 B3 A5 vp3 vf5) := Lib.hid hA5
  clear hs5 hA5 HR4 HA4
  go_wp2_with fail
  refine (take_any (z := t3) HA5.out (by decide) (by decide) 5).mono ?_
  rintro x w6 ⟨rfl, O6, B6, A6, vp6, vf6, hs6, hA6⟩
  have HR6 := Lib.hid (run_step HR5.out hs6 (by decide))
  have HA6 : Hid (ArenaAt w6 O6 1 2 3 4 a _ _ _ t4 0 B6 A6 vp6 vf6) := Lib.hid hA6
  clear hs6 hA6 HR5 HA5
  rw [show (t3.next : Int) = 1 from rfl]
  go_wp2_with fail
  refine (at_any (z := t4) HA6.out 1 rfl).mono ?_
  rintro x w7 ⟨rfl, n, rfl⟩
  rw [if_pos (show t4.takenB 1 = true by decide)]
  have HR7 := Lib.hid (run_step HR6.out ((Step.refl [] w6 O6).drewN n) (by simp))
  have hc := ((drewN_at HA6.out n).two (i := 1) (by decide) (by decide) (by decide)).1
  rw [show (t4.C 1).1 = .int .i64 5 from rfl] at hc
  clear HR6 HA6
  generalize w6.drewN n = W7 at *
  rw [show (1 : Int).toNat = 1 from rfl]
  generalize B6 (lg 1) = bb at *
  generalize 2 * pk 1 = oo at *
  go_wp2_with fail
  go_ret
  exact ⟨rfl, HR7.out.1⟩
end Go.Proofs.Ytollngjnoccmfaa.Ar
