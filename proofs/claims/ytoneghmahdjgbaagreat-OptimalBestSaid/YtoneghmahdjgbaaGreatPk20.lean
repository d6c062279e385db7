/-
  The library's bits.Len of numbers that are not negative.
  Layer 15: contracts of the developers' tables, and of the document's; how many bits a number has.
-/
import Derived.Test.YtoneghmahdjgbaaGreatPk01
import Derived.Test.YtoneghmahdjgbaaGreatPk04
import Derived.Lib.BitFns
import Derived.BigQuiet
import Derived.Deep.QuietTactic
import Derived.Deep.RegionHeld3
section
set_option linter.unusedVariables false
namespace Go.Proofs.YtoneghmahdjgbaaGreat.Pc
open Go.RowKit
theorem ret_i {a b : Int} (h : a = b) : Ending.returned (.int .i64 a) = .returned (.int .i64 b) := by rw [h]
theorem five {w : World} {X : Nat} {a b c d e : Value} {t : TypeId} (h : w.heap[X]? = some (.cells #[a, b, c, d, e] t (0, 0))) :
    w.cell? ⟨X, 0, none⟩ = some a ∧ w.cell? ⟨X, 1, none⟩ = some b ∧ w.cell? ⟨X, 2, none⟩ = some c ∧ w.cell? ⟨X, 3, none⟩ = some d ∧ w.cell? ⟨X, 4, none⟩ = some e := by
  refine ⟨?_, ?_, ?_, ?_, ?_⟩ <;> simp [World.cell?, h]
theorem still {f : Nat} {args : Array Value} {w : World} {v : Value} (h : Calls Tryz.prog f args w fun x w' => x = .returned v ∧ w = w') : Calls Tryz.prog f args w fun x w' => x = .returned v ∧ w' = w := h.mono fun _ _ ⟨a, b⟩ => ⟨a, b.symm⟩
theorem fin {a q : Nat} (l : q ≤ 8) {k : Nat} (s : a = k + q) (hk : k ≤ 56) : wrap64 ((k : Int) + wrap64 (q : Int)) = (a : Int) := by
  unfold wrap64
  omega
theorem fin0 {q : Nat} (l : q ≤ 8) : wrap64 (wrap64 (q : Int)) = (q : Int) := by
  unfold wrap64
  omega
set_option maxHeartbeats 4000000 in
set_option maxRecDepth 100000 in
theorem len64_int (x : Int) (h0 : 0 ≤ x) (h1 : x ≤ 9223372036854775807) (w : World) : Calls Tryz.prog 65 #[.int .u64 x] w fun e w' => e = .returned (.int .i64 (Lib.bitLen x.toNat : Int)) ∧ w = w' := by
  by_cases a32 : x < 4294967296
  · by_cases a16 : x < 65536
    · by_cases a8 : x < 256
      · have d1 : x ≤ 255 := by omega
        go_enter Tryz.func65, Tryz.ntmps65
        go_wp2
        go_ret
        refine ⟨ret_i ?_, rfl⟩
        rw [Lib.len8_of x h0 d1]
        have l := Lib.bitLen_le8' x h0 d1
        exact fin0 l
      · have d0 : 0 ≤ x / 256 := by omega
        have d1 : x / 256 ≤ 255 := by omega
        go_enter Tryz.func65, Tryz.ntmps65
        go_wp2
        go_ret
        refine ⟨ret_i ?_, rfl⟩
        rw [Lib.len8_of (x / 256) d0 d1]
        have l := Lib.bitLen_le8' (x / 256) d0 d1
        have s := Lib.bitLen_shift8 x.toNat (by omega) (by omega)
        have e : (x / 256).toNat = x.toNat / 256 := by omega
        rw [e] at l ⊢
        exact fin l s (by decide)
    · by_cases a8 : x / 65536 < 256
      · have d0 : 0 ≤ x / 65536 := by omega
        have d1 : x / 65536 ≤ 255 := by omega
        go_enter Tryz.func65, Tryz.ntmps65
        go_wp2
        go_ret
        refine ⟨ret_i ?_, rfl⟩
        rw [Lib.len8_of (x / 65536) d0 d1]
        have l := Lib.bitLen_le8' (x / 65536) d0 d1
        have s := Lib.bitLen_shift16 x.toNat (by omega) (by omega)
        have e : (x / 65536).toNat = x.toNat / 65536 := by omega
        rw [e] at l ⊢
        exact fin l s (by decide)
      · have d0 : 0 ≤ x / 65536 / 256 := by omega
        have d1 : x / 65536 / 256 ≤ 255 := by omega
        go_enter Tryz.func65, Tryz.ntmps65
        go_wp2
        go_ret
        refine ⟨ret_i ?_, rfl⟩
        rw [Lib.len8_of (x / 65536 / 256) d0 d1]
        have l := Lib.bitLen_le8' (x / 65536 / 256) d0 d1
        have s := Lib.bitLen_shift24 x.toNat (by omega) (by omega)
        have e : (x / 65536 / 256).toNat = x.toNat / 16777216 := by omega
        rw [e] at l ⊢
        exact fin l s (by decide)
  · by_cases a16 : x / 4294967296 < 65536
    · by_cases a8 : x / 4294967296 < 256
      · have d0 : 0 ≤ x / 4294967296 := by omega
        have d1 : x / 4294967296 ≤ 255 := by omega
        go_enter Tryz.func65, Tryz.ntmps65
        go_wp2
        go_ret
        refine ⟨ret_i ?_, rfl⟩
        rw [Lib.len8_of (x / 4294967296) d0 d1]
        have l := Lib.bitLen_le8' (x / 4294967296) d0 d1
        have s := Lib.bitLen_shift32 x.toNat (by omega) (by omega)
        have e : (x / 4294967296).toNat = x.toNat / 4294967296 := by omega
        rw [e] at l ⊢
        exact fin l s (by decide)
      · have d0 : 0 ≤ x / 4294967296 / 256 := by omega
        have d1 : x / 4294967296 / 256 ≤ 255 := by omega
        go_enter Tryz.func65, Tryz.ntmps65
        go_wp2
        go_ret
        refine ⟨ret_i ?_, rfl⟩
        rw [Lib.len8_of (x / 4294967296 / 256) d0 d1]
        have l := Lib.bitLen_le8' (x / 4294967296 / 256) d0 d1
        have s := Lib.bitLen_shift40 x.toNat (by omega) (by omega)
        have e : (x / 4294967296 / 256).toNat = x.toNat / 1099511627776 := by omega
        rw [e] at l ⊢
        exact fin l s (by decide)
    · by_cases a8 : x / 4294967296 / 65536 < 256
      · have d0 : 0 ≤ x / 4294967296 / 65536 := by omega
        have d1 : x / 4294967296 / 65536 ≤ 255 := by omega
        go_enter Tryz.func65, Tryz.ntmps65
        go_wp2
        go_ret
        refine ⟨ret_i ?_, rfl⟩
        rw [Lib.len8_of (x / 4294967296 / 65536) d0 d1]
        have l := Lib.bitLen_le8' (x / 4294967296 / 65536) d0 d1
        have s := Lib.bitLen_shift48 x.toNat (by omega) (by omega)
        have e : (x / 4294967296 / 65536).toNat = x.toNat / 281474976710656 := by omega
        rw [e] at l ⊢
        exact fin l s (by decide)
      · have d0 : 0 ≤ x / 4294967296 / 65536 / 256 := by omega
        have d1 : x / 4294967296 / 65536 / 256 ≤ 255 := by omega
        go_enter Tryz.func65, Tryz.ntmps65
        go_wp2
        go_ret
        refine ⟨ret_i ?_, rfl⟩
        rw [Lib.len8_of (x / 4294967296 / 65536 / 256) d0 d1]
        have l := Lib.bitLen_le8' (x / 4294967296 / 65536 / 256) d0 d1
        have s := Lib.bitLen_shift56 x.toNat (by omega) (by omega)
        have e : (x / 4294967296 / 65536 / 256).toNat = x.toNat / 72057594037927936 := by omega
        rw [e] at l ⊢
        exact fin l s (by decide)
theorem len_int (x : Int) (h0 : 0 ≤ x) (h1 : x ≤ 9223372036854775807) (w : World) : Calls Tryz.prog 42 #[.int .u64 x] w fun e w' => e = .returned (.int .i64 (Lib.bitLen x.toNat : Int)) ∧ w = w' := by
  have HL := Lib.hid (len64_int x h0 h1)
  go_enter Tryz.func42, Tryz.ntmps42
  go_wp2_with fail
  refine (HL.out _).mono ?_
  rintro e w1 ⟨rfl, rfl⟩
  go_wp2_with fail
  go_ret
  exact ⟨rfl, rfl⟩
end Go.Proofs.YtoneghmahdjgbaaGreat.Pc
end
section
set_option linter.unusedVariables false
namespace Go.Proofs.YtoneghmahdjgbaaGreat.Pc
open Go.RowKit
open Pk (Pt ret_bool)
set_option maxHeartbeats 4000000 in
set_option maxRecDepth 100000 in
theorem good_any (t : Tb) (w : World) : Calls Tryz.prog 5 #[.agg #[.int .i64 t.l, .int .i64 t.m, .int .i64 t.n, .int .i64 t.f, .int .i64 t.b]] w fun x w' => x = .returned (.bool t.good) ∧ Below w.heap.size w w' := by
  obtain ⟨l, m, n, f, b⟩ := t
  have hb1 : Below w.heap.size w (w.alloc (.cells #[.int .i64 l, .int .i64 m, .int .i64 n, .int .i64 f, .int .i64 b] 25)) := (Below.refl _ _).alloc (Nat.le_refl _) _
  obtain ⟨p0, p1, p2, p3, p4⟩ := five (heap_alloc_new w (.cells #[.int .i64 l, .int .i64 m, .int .i64 n, .int .i64 f, .int .i64 b] 25))
  have HB1 := Lib.hid hb1
  clear hb1
  go_enter Tryz.func5, Tryz.ntmps5
  go_upto_region 1 with (fail)
  generalize w.alloc (.cells #[.int .i64 l, .int .i64 m, .int .i64 n, .int .i64 f, .int .i64 b] 25) = W1 at *
  go_wp2_with fail
  clear p0 p1 p2 p3 p4
  have i0 : ∀ w, (Instr.index 42 (.agg #[.int .i64 l, .int .i64 m, .int .i64 n, .int .i64 f, .int .i64 b]) (.int .i64 0)).run Tryz.prog w = .ok (.int .i64 l) w := fun _ => by kernel_rfl
  have j0 : ∀ w, (Instr.index 42 (.agg #[.int .i64 l, .int .i64 m, .int .i64 n, .int .i64 f, .int .i64 b]) (.int .i64 ((0 : Nat) : Int))).run Tryz.prog w = .ok (.int .i64 l) w := fun _ => by kernel_rfl
  have i1 : ∀ w, (Instr.index 42 (.agg #[.int .i64 l, .int .i64 m, .int .i64 n, .int .i64 f, .int .i64 b]) (.int .i64 1)).run Tryz.prog w = .ok (.int .i64 m) w := fun _ => by kernel_rfl
  have j1 : ∀ w, (Instr.index 42 (.agg #[.int .i64 l, .int .i64 m, .int .i64 n, .int .i64 f, .int .i64 b]) (.int .i64 ((1 : Nat) : Int))).run Tryz.prog w = .ok (.int .i64 m) w := fun _ => by kernel_rfl
  have i2 : ∀ w, (Instr.index 42 (.agg #[.int .i64 l, .int .i64 m, .int .i64 n, .int .i64 f, .int .i64 b]) (.int .i64 2)).run Tryz.prog w = .ok (.int .i64 n) w := fun _ => by kernel_rfl
  have j2 : ∀ w, (Instr.index 42 (.agg #[.int .i64 l, .int .i64 m, .int .i64 n, .int .i64 f, .int .i64 b]) (.int .i64 ((2 : Nat) : Int))).run Tryz.prog w = .ok (.int .i64 n) w := fun _ => by kernel_rfl
  have i3 : ∀ w, (Instr.index 42 (.agg #[.int .i64 l, .int .i64 m, .int .i64 n, .int .i64 f, .int .i64 b]) (.int .i64 3)).run Tryz.prog w = .ok (.int .i64 f) w := fun _ => by kernel_rfl
  have j3 : ∀ w, (Instr.index 42 (.agg #[.int .i64 l, .int .i64 m, .int .i64 n, .int .i64 f, .int .i64 b]) (.int .i64 ((3 : Nat) : Int))).run Tryz.prog w = .ok (.int .i64 f) w := fun _ => by kernel_rfl
  have i4 : ∀ w, (Instr.index 42 (.agg #[.int .i64 l, .int .i64 m, .int .i64 n, .int .i64 f, .int .i64 b]) (.int .i64 4)).run Tryz.prog w = .ok (.int .i64 b) w := fun _ => by kernel_rfl
  have j4 : ∀ w, (Instr.index 42 (.agg #[.int .i64 l, .int .i64 m, .int .i64 n, .int .i64 f, .int .i64 b]) (.int .i64 ((4 : Nat) : Int))).run Tryz.prog w = .ok (.int .i64 b) w := fun _ => by kernel_rfl
  go_loopw [16] (fun i wr => ∃ k : Nat, k ≤ 5 ∧ i = .int .i64 k ∧ wr = W1 ∧ ([l, m, n, f, b].take k).all one = true) (fun i _ => 5 - (intOf i).toNat)
  case atStart => exact ⟨0, by omega, rfl, rfl, rfl⟩
  case round =>
    obtain ⟨k, hk, rfl, rfl, hall⟩ := hrel
    have key : k = 0 ∨ k = 1 ∨ k = 2 ∨ k = 3 ∨ k = 4 ∨ k = 5 := by omega
    rcases key with rfl | rfl | rfl | rfl | rfl | rfl
    case' inl => obtain ⟨x, hx⟩ : ∃ x, x = l := ⟨_, rfl⟩
    case' inr.inl => obtain ⟨x, hx⟩ : ∃ x, x = m := ⟨_, rfl⟩
    case' inr.inr.inl => obtain ⟨x, hx⟩ : ∃ x, x = n := ⟨_, rfl⟩
    case' inr.inr.inr.inl => obtain ⟨x, hx⟩ : ∃ x, x = f := ⟨_, rfl⟩
    case' inr.inr.inr.inr.inl => obtain ⟨x, hx⟩ : ∃ x, x = b := ⟨_, rfl⟩
    case inr.inr.inr.inr.inr =>
      go_wp2_with fail
      go_ret
      exact ⟨ret_bool (by simpa [Tb.good] using hall), HB1.out⟩
    all_goals
      simp only [List.take_succ_cons, List.take_zero, List.all_cons, List.all_nil, Bool.and_true, Bool.and_eq_true] at hall
      have HA := Lib.hid hall
      clear hall
      by_cases h1 : x < 1
      · go_wp2_with fail
        go_ret
        exact ⟨ret_bool (by subst hx; simp [Tb.good, one]; omega), HB1.out⟩
      · by_cases h2 : 10000 < x
        · go_wp2_with fail
          go_ret
          exact ⟨ret_bool (by subst hx; simp [Tb.good, one]; omega), HB1.out⟩
        · have hone : one x = true := by simp [one]; omega
          rw [hx] at hone
          have HA2 := Lib.hid (And.intro HA.out hone)
          clear hone
          go_wp2_with fail
          go_roundw
          case rel => first | exact ⟨1, by omega, by go_num, by first | rfl | trivial, by have := HA2.out; simp_all⟩ | exact ⟨2, by omega, by go_num, by first | rfl | trivial, by have := HA2.out; simp_all⟩ | exact ⟨3, by omega, by go_num, by first | rfl | trivial, by have := HA2.out; simp_all⟩ | exact ⟨4, by omega, by go_num, by first | rfl | trivial, by have := HA2.out; simp_all⟩ | exact ⟨5, by omega, by go_num, by first | rfl | trivial, by have := HA2.out; simp_all⟩
          case measure => simp [intOf]
theorem length_any (t : Tb) (n : Int) (w : World) : Calls Tryz.prog 19 #[.agg #[.int .i64 t.l, .int .i64 t.m, .int .i64 t.n, .int .i64 t.f, .int .i64 t.b], .int .i64 n] w fun x w' => x = .returned (.int .i64 (t.len n)) ∧ Below w.heap.size w w' := by
  obtain ⟨l, m, x, f, b⟩ := t
  have hb1 : Below w.heap.size w (w.alloc (.cells #[.int .i64 l, .int .i64 m, .int .i64 x, .int .i64 f, .int .i64 b] 25)) := (Below.refl _ _).alloc (Nat.le_refl _) _
  obtain ⟨p0, p1, p2, p3, p4⟩ := five (heap_alloc_new w (.cells #[.int .i64 l, .int .i64 m, .int .i64 x, .int .i64 f, .int .i64 b] 25))
  have HB1 := Lib.hid hb1
  clear hb1
  by_cases h : n < 10
  all_goals
    go_enter Tryz.func19, Tryz.ntmps19
    go_upto_region 1 with (fail)
    generalize w.alloc (.cells #[.int .i64 l, .int .i64 m, .int .i64 x, .int .i64 f, .int .i64 b] 25) = W1 at *
    go_wp2_with fail
    go_ret
    exact ⟨ret_i (by simp only [Tb.len]; split <;> first | rfl | omega), HB1.out⟩
set_option maxHeartbeats 4000000 in
theorem dist_any (t : Tb) (h : t.good = true) (d : Int) (h0 : -9223372036854775808 ≤ d) (h1 : d ≤ 9223372036854775807) (w : World) : Calls Tryz.prog 20 #[.agg #[.int .i64 t.l, .int .i64 t.m, .int .i64 t.n, .int .i64 t.f, .int .i64 t.b], .int .i64 d] w fun x w' => x = .returned (.int .i64 (t.dist d)) ∧ Below w.heap.size w w' := by
  have hr := t.dist_range h h1
  have hbit := t.good_range h
  obtain ⟨l, m, x, f, b⟩ := t
  simp only at hbit
  have hb1 : Below w.heap.size w (w.alloc (.cells #[.int .i64 l, .int .i64 m, .int .i64 x, .int .i64 f, .int .i64 b] 25)) := (Below.refl _ _).alloc (Nat.le_refl _) _
  obtain ⟨p0, p1, p2, p3, p4⟩ := five (heap_alloc_new w (.cells #[.int .i64 l, .int .i64 m, .int .i64 x, .int .i64 f, .int .i64 b] 25))
  have HB1 := Lib.hid hb1
  clear hb1
  by_cases hd : d < 1
  · go_enter Tryz.func20, Tryz.ntmps20
    go_upto_region 1 with (fail)
    generalize w.alloc (.cells #[.int .i64 l, .int .i64 m, .int .i64 x, .int .i64 f, .int .i64 b] 25) = W1 at *
    go_wp2_with fail
    go_ret
    exact ⟨ret_i (by simp [Tb.dist, dbits, hd]), HB1.out⟩
  · have HL := Lib.hid (len_int (d - 1) (by omega) (by omega))
    have HD : Hid (Tb.dist ⟨l, m, x, f, b⟩ d = b * (Lib.bitLen (d - 1).toNat : Int)) := Lib.hid (by unfold Tb.dist dbits; rw [if_neg hd])
    have c1 : IntKind.i64.wrap (d - 1) = d - 1 := by rw [IntKind.wrap_i64]; omega
    have c2 : IntKind.u64.wrap (d - 1) = d - 1 := by rw [IntKind.wrap_u64]; omega
    rw [HD.out] at hr
    generalize Lib.bitLen (d - 1).toNat = q at *
    have c3 : IntKind.i64.wrap (b * (q : Int)) = b * (q : Int) := by rw [IntKind.wrap_i64]; omega
    have c4 : wrap64 (d - 1) = d - 1 := by unfold wrap64; omega
    have c5 : wrap64 (b * (q : Int)) = b * (q : Int) := by unfold wrap64; omega
    clear hr hbit
    go_enter Tryz.func20, Tryz.ntmps20
    go_upto_region 1 with (fail)
    generalize w.alloc (.cells #[.int .i64 l, .int .i64 m, .int .i64 x, .int .i64 f, .int .i64 b] 25) = W1 at *
    go_wp2_with fail
    go_quiet ((go_at_call 42; exact Calls.quiet_of_same (still (HL.out _))))
    go_wp2_with fail
    go_ret
    exact ⟨ret_i (by rw [HD.out]), by obtain ⟨nq', hn⟩ : ∃ k, k = nq := ⟨_, rfl⟩; exact below_drewN HB1.out nq⟩
end Go.Proofs.YtoneghmahdjgbaaGreat.Pc
end
