/-
  Layer 15: contracts of the document's tables: Good, Bits, Match.
-/
import Derived.Test.YteacmcckhjabmaaPriceDev
set_option linter.unusedVariables false
namespace Go.Proofs.Yteacmcckhjabmaa.Pc
open Go.RowKit
open Pk (ret_bool)
theorem five_set {w : World} {X : Nat} {a b c d e : Value} {t : TypeId} (h : w.heap[X]? = some (.cells #[a, b, c, d, e] t (0, 0))) : X < w.heap.size := lt_of_heap h
theorem bits_any (d : Int) (h0 : -9223372036854775808 ≤ d) (h1 : d ≤ 9223372036854775807) (w : World) : Calls Try.prog 60 #[.int .i64 d] w fun x w' => x = .returned (.int .i64 (dbits d : Int)) ∧ w = w' := by
  by_cases hd : 1 < d
  · have HD : Hid (dbits d = Lib.bitLen (d - 1).toNat) := Lib.hid (by unfold dbits; rw [if_neg (by omega)])
    have hle := dbits_le h1
    have c1 : IntKind.u64.wrap (d - 1) = d - 1 := by rw [IntKind.wrap_u64]; omega
    have c2 : wrap64 (d - 1) = d - 1 := by unfold wrap64; omega
    obtain ⟨x, hx⟩ : ∃ x : Nat, d - 1 = (x : Int) := ⟨(d - 1).toNat, by omega⟩
    have HX := Lib.hid (show Lib.bitLen x = Lib.bitLen (d - 1).toNat by rw [hx]; rfl)
    rw [HD.out, ← HX.out] at hle
    have hx2 : x < 9223372036854775808 := by omega
    rw [hx] at c1 c2
    go_enter Try.func60, Try.ntmps60
    rw [HD.out, ← HX.out]
    have c0 : IntKind.i64.wrap (d - 1) = (x : Int) := by rw [IntKind.wrap_i64]; omega
    have c3 : wrap64 (d - 1) = (x : Int) := by unfold wrap64; omega
    go_wp2_with fail
    go_loopw [3, 4] (fun i v wr => ∃ (k y : Nat), y ≤ x ∧ i = .int .i64 k ∧ v = .int .u64 y ∧ wr = w ∧ k + Lib.bitLen y = Lib.bitLen x) (fun _ v _ => (intOf v).toNat)
    case atStart => exact ⟨0, x, Nat.le_refl _, rfl, by first | rfl | go_num, by first | rfl | trivial, by omega⟩
    case round =>
      obtain ⟨k, y, hy, rfl, rfl, rfl, hs⟩ := hrel
      have HS := Lib.hid hs
      have hk : k ≤ 63 := by omega
      clear hs
      by_cases h0 : y = 0
      · subst h0
        go_wp2_with fail
        go_ret
        have h00 : Lib.bitLen 0 = 0 := rfl
        exact ⟨ret_i (by have := HS.out; omega), by first | rfl | trivial⟩
      · have hp : (0 : Int) < (y : Int) := by omega
        have HH := Lib.hid (Lib.bitLen_half y h0 (by have : (2 : Nat) ^ 64 = 18446744073709551616 := by decide
                                                     omega))
        go_wp2_with fail
        go_roundw
        case rel => exact ⟨k + 1, y / 2, by omega, by go_num, by go_num, by first | rfl | trivial, by have := HS.out; have := HH.out; omega⟩
        case measure => simp [intOf]; omega
  · have e : dbits d = 0 := by
      unfold dbits
      split
      · rfl
      · have : d = 1 := by omega
        subst this
        rfl
    rw [e]
    go_enter Try.func60, Try.ntmps60
    go_wp2_with fail
    go_ret
    exact ⟨rfl, rfl⟩
set_option maxHeartbeats 8000000 in
theorem rmatch_any (t : Tb) (h : t.good = true) (n d : Int) (h0 : -9223372036854775808 ≤ d) (h1 : d ≤ 9223372036854775807) (w : World) : Calls Try.prog 29 #[.agg #[.int .i64 t.l, .int .i64 t.m, .int .i64 t.n, .int .i64 t.f, .int .i64 t.b], .int .i64 n, .int .i64 d] w fun x w' => x = .returned (.int .i64 (t.cost n d)) ∧ Below w.heap.size w w' := by
  have hd := t.dist_range h h1
  have hl := t.len_range h n
  have hm := (t.good_range h).2.1
  have HB := Lib.hid (bits_any d h0 h1)
  have HC : Hid (t.cost n d = t.m + t.len n + t.dist d) := Lib.hid rfl
  have HD : Hid (t.dist d = t.b * (dbits d : Int)) := Lib.hid rfl
  have HL : Hid (t.len n = if n < 10 then t.n else t.f) := Lib.hid rfl
  obtain ⟨l, m, x, f, b⟩ := t
  simp only at hm
  have hb1 : Below w.heap.size w (w.alloc (.cells #[.int .i64 l, .int .i64 m, .int .i64 x, .int .i64 f, .int .i64 b] 37)) := (Below.refl _ _).alloc (Nat.le_refl _) _
  obtain ⟨p0, p1, p2, p3, p4⟩ := five (heap_alloc_new w (.cells #[.int .i64 l, .int .i64 m, .int .i64 x, .int .i64 f, .int .i64 b] 37))
  have HB1 := Lib.hid hb1
  clear hb1
  rw [HC.out]
  rw [HD.out] at hd ⊢
  rw [HL.out] at hl ⊢
  simp only at hd hl ⊢
  generalize dbits d = q at *
  have c1 : wrap64 (b * (q : Int)) = b * (q : Int) := by unfold wrap64; omega
  have c2 : wrap64 (m + b * (q : Int)) = m + b * (q : Int) := by unfold wrap64; omega
  go_enter Try.func29, Try.ntmps29
  go_upto_region 1 with (fail)
  generalize w.alloc (.cells #[.int .i64 l, .int .i64 m, .int .i64 x, .int .i64 f, .int .i64 b] 37) = W1 at *
  have HB1' := HB1.out
  go_quiet ((go_at_call 60; exact Calls.quiet_of_same (still (HB.out _))))
  have HBn := Lib.hid (below_drewN HB1' nq)
  clear HB1'
  by_cases hn : n < 10
  · rw [if_pos hn] at hl
    have c3 : wrap64 (m + b * (q : Int) + x) = m + b * (q : Int) + x := by unfold wrap64; omega
    go_wp2_with fail
    go_ret
    exact ⟨ret_i (by omega), HBn.out⟩
  · rw [if_neg hn] at hl
    have c3 : wrap64 (m + b * (q : Int) + f) = m + b * (q : Int) + f := by unfold wrap64; omega
    go_wp2_with fail
    go_ret
    exact ⟨ret_i (by omega), HBn.out⟩
end Go.Proofs.Yteacmcckhjabmaa.Pc
