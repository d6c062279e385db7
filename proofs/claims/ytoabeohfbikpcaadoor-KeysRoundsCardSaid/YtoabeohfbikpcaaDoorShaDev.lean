/-
  Layer 23, the program's: contracts of its small functions.
-/
import Derived.Test.YtoabeohfbikpcaaDoorShaMem
import Derived.Laws.BitsAllLaws
set_option linter.unusedVariables false
set_option linter.unusedSimpArgs false
namespace Go.Proofs.YtoabeohfbikpcaaDoor.Sh
open Go.RowKit
open Rc
theorem RD.row {w W : World} {D : Nat} {t : TypeId} {l : List Nat} (h : RD w D t l W) (hD : w.heap.size ≤ D) (L : List Nat) : RD w D t L (W.setRow D (arr32 L)) :=
  ⟨h.below.trans ⟨rfl, rfl, rfl, by simp [World.setRow], fun k hk => setRow_other W D k _ (by omega)⟩, setRow_heap W D _ _ _ _ h.d⟩
/-- Turned: what is moved up, or what is moved down. -/
theorem rr_or (x n : Nat) (hx : x < 4294967296) (h1 : 1 ≤ n) (hn : n ≤ 31) : md (x * 2 ^ (32 - n)) ||| (x / 2 ^ n) = rr n x := by
  have e3 : 2 ^ n * 2 ^ (32 - n) = 4294967296 := by rw [← Nat.pow_add, show n + (32 - n) = 32 by omega]
  have h2 : x / 2 ^ n < 2 ^ (32 - n) := by
    rw [Nat.div_lt_iff_lt_mul (Nat.two_pow_pos n), Nat.mul_comm, e3]
    exact hx
  have h3 : md (x * 2 ^ (32 - n)) = x % 2 ^ n * 2 ^ (32 - n) := by
    unfold md
    rw [← e3, Nat.mul_mod_mul_right]
  rw [h3, Nat.mul_comm (x % 2 ^ n), ← Nat.two_pow_add_eq_or_of_lt h2]
  unfold rr
  rw [Nat.mul_comm (2 ^ (32 - n))]
  omega
set_option maxRecDepth 100000 in
set_option maxHeartbeats 4000000 in
theorem rotate_any (x n : Nat) (hx : x < 4294967296) (h1 : 1 ≤ n) (hn : n ≤ 31) (w : World) :
    Calls Tryd.prog 43 #[.int .u32 (x : Int), .int .i64 (-(n : Int))] w fun z w' => z = .returned (.int .u32 ((rr n x : Nat) : Int)) ∧ w = w' := by
  have hw : IntKind.u64.wrap (-(n : Int)) = 18446744073709551616 - (n : Int) := by rw [IntKind.wrap_u64]; omega
  have ha : bits .and .u64 (18446744073709551616 - (n : Int)) 31 = ((32 - n : Nat) : Int) := by
    have := u64_and_nat (18446744073709551616 - n) 31 (by omega) (by omega)
    rw [nat_mask5, show (18446744073709551616 - n) % 32 = 32 - n by omega] at this
    rw [show (18446744073709551616 : Int) - (n : Int) = ((18446744073709551616 - n : Nat) : Int) by omega]
    exact this
  have hor := rr_or x n hx h1 hn
  have hs1 : 32 - n ≤ 32 := by omega
  have hs2 : IntKind.u64.wrap (32 - ((32 - n : Nat) : Int)) = (n : Int) := by rw [IntKind.wrap_u64]; omega
  have hs3 : (32 : Int) - ((32 - n : Nat) : Int) = (n : Int) := by omega
  generalize 32 - n = s at *
  have b1 : (0 : Int) ≤ (s : Int) := by omega
  have b2 : (s : Int) ≤ 32 := by omega
  have b3 : (s : Int).toNat = s := rfl
  have b4 : (0 : Int) ≤ (n : Int) := by omega
  have b5 : (n : Int) ≤ 32 := by omega
  have b6 : (n : Int).toNat = n := rfl
  have v1 : IntKind.u32.wrap ((x : Int) * 2 ^ s) = ((md (x * 2 ^ s) : Nat) : Int) := by rw [← md_cast]; simp
  have v2 : (x : Int) / 2 ^ n = ((x / 2 ^ n : Nat) : Int) := by simp
  have l1 := md_lt (x * 2 ^ s)
  have l2 : x / 2 ^ n < 4294967296 := Nat.lt_of_le_of_lt (Nat.div_le_self _ _) hx
  have v3 := u32_or_nat _ _ l1 l2
  rw [hor] at v3
  clear hor l1 l2 hx
  generalize md (x * 2 ^ s) = p at *
  generalize x / 2 ^ n = q at *
  generalize rr n x = r at *
  go_enter Tryd.func43, Tryd.ntmps43
  go_wp2_with fail
  go_ret
  exact ⟨rfl, rfl⟩
set_option maxRecDepth 100000 in
set_option maxHeartbeats 4000000 in
theorem right_any (x n : Nat) (hx : x < 4294967296) (h1 : 1 ≤ n) (hn : n ≤ 31) (w : World) :
    Calls Tryd.prog 36 #[.int .u32 (x : Int), .int .i64 (n : Int)] w fun z w' => z = .returned (.int .u32 ((rr n x : Nat) : Int)) ∧ w = w' := by
  have HR := Lib.hid (fun (V : World) => rotate_any x n hx h1 hn V)
  have hw : IntKind.i64.wrap (-(n : Int)) = -(n : Int) := by rw [IntKind.wrap_i64]; omega
  clear hx
  generalize rr n x = r at *
  go_enter Tryd.func36, Tryd.ntmps36
  go_wp2_with fail
  refine (HR.out _).mono ?_
  rintro z w1 ⟨rfl, rfl⟩
  go_wp2_with fail
  go_ret
  exact ⟨rfl, rfl⟩
set_option maxRecDepth 100000 in
set_option maxHeartbeats 4000000 in
theorem dturned_any (x l m n : Nat) (hx : x < 4294967296) (hl : 1 ≤ l ∧ l ≤ 31) (hm : 1 ≤ m ∧ m ≤ 31) (hn : 1 ≤ n ∧ n ≤ 31) (w : World) :
    Calls Tryd.prog 28 #[.int .u32 (x : Int), .int .i64 (l : Int), .int .i64 (m : Int), .int .i64 (n : Int)] w fun z w' => z = .returned (.int .u32 ((rr l x ^^^ rr m x ^^^ rr n x : Nat) : Int)) ∧ w = w' := by
  have H1 := Lib.hid (fun (V : World) => right_any x l hx hl.1 hl.2 V)
  have H2 := Lib.hid (fun (V : World) => right_any x m hx hm.1 hm.2 V)
  have H3 := Lib.hid (fun (V : World) => right_any x n hx hn.1 hn.2 V)
  have l1 : rr l x < 4294967296 := rr_lt (by omega) hx
  have l2 : rr m x < 4294967296 := rr_lt (by omega) hx
  have l3 : rr n x < 4294967296 := rr_lt (by omega) hx
  have v1 := u32_xor_nat _ _ l1 l2
  have v2 := u32_xor_nat _ _ (xor32 l1 l2) l3
  clear hx hl hm hn l1 l2 l3
  generalize rr l x = a at *
  generalize rr m x = b at *
  generalize rr n x = c at *
  generalize a ^^^ b = d at *
  generalize d ^^^ c = e at *
  go_enter Tryd.func28, Tryd.ntmps28
  go_wp2_with fail
  refine (H1.out _).mono ?_
  rintro z w1 ⟨rfl, rfl⟩
  go_wp2_with fail
  refine (H2.out _).mono ?_
  rintro z w1 ⟨rfl, rfl⟩
  go_wp2_with fail
  refine (H3.out _).mono ?_
  rintro z w1 ⟨rfl, rfl⟩
  go_wp2_with fail
  go_ret
  exact ⟨rfl, rfl⟩
set_option maxRecDepth 100000 in
set_option maxHeartbeats 4000000 in
theorem moved_any (x l m n : Nat) (hx : x < 4294967296) (hl : 1 ≤ l ∧ l ≤ 31) (hm : 1 ≤ m ∧ m ≤ 31) (hn : 1 ≤ n ∧ n ≤ 31) (w : World) :
    Calls Tryd.prog 37 #[.int .u32 (x : Int), .int .i64 (l : Int), .int .i64 (m : Int), .int .i64 (n : Int)] w fun z w' => z = .returned (.int .u32 ((rr l x ^^^ rr m x ^^^ x / 2 ^ n : Nat) : Int)) ∧ ∃ k, w' = w.drewN k := by
  have H1 := Lib.hid (fun (V : World) => still (right_any x l hx hl.1 hl.2 V))
  have H2 := Lib.hid (fun (V : World) => still (right_any x m hx hm.1 hm.2 V))
  have l1 : rr l x < 4294967296 := rr_lt (by omega) hx
  have l2 : rr m x < 4294967296 := rr_lt (by omega) hx
  have l3 : x / 2 ^ n < 4294967296 := Nat.lt_of_le_of_lt (Nat.div_le_self _ _) hx
  have v1 := u32_xor_nat _ _ l1 l2
  have v2 := u32_xor_nat _ _ (xor32 l1 l2) l3
  have v3 : (x : Int) / 2 ^ n = ((x / 2 ^ n : Nat) : Int) := by simp
  have b4 : (0 : Int) ≤ (n : Int) := by omega
  have b5 : (n : Int) ≤ 32 := by omega
  have b6 : (n : Int).toNat = n := rfl
  clear hx hl hm hn l1 l2 l3
  generalize rr l x = a at *
  generalize rr m x = b at *
  generalize x / 2 ^ n = c at *
  generalize a ^^^ b = d at *
  generalize d ^^^ c = e at *
  go_enter Tryd.func37, Tryd.ntmps37
  go_wp2_with fail
  go_quiet (first | (go_at_call 36; (with_reducible exact Calls.quiet_of_same (H1.out _))) | (go_at_call 36; (with_reducible exact Calls.quiet_of_same (H2.out _))))
  go_wp2_with fail
  go_ret
  exact ⟨rfl, _, rfl⟩
theorem ss0_is (x : Nat) : rr 7 x ^^^ rr 18 x ^^^ x / 2 ^ 3 = ss0 x := rfl
theorem ss1_is (x : Nat) : rr 17 x ^^^ rr 19 x ^^^ x / 2 ^ 10 = ss1 x := rfl
set_option maxRecDepth 100000 in
set_option maxHeartbeats 4000000 in
theorem following_any {w : World} {B : Nat} {x : List Nat} {t : TypeId} (h : w.heap[B]? = some (.cells (arr32 x) t (0, 0))) (hl : x.length = 32) (hx : ∀ j, x.getD j 0 < 4294967296) (i : Nat) (hi : i < 16) :
    Calls Tryd.prog 29 #[.pointer (some ⟨B, 0, none⟩), .int .i64 (i : Int)] w fun z w' => z = .returned (.int .u32 ((md (md (md (x.getD i 0 + ss0 (x.getD (i + 1) 0)) + x.getD (i + 9) 0) + ss1 (x.getD (i + 14) 0)) : Nat) : Int)) ∧ ∃ k, w' = w.drewN k := by
  have c0 := (arr32_at h (i := i) (by omega)).1
  have c1 := (arr32_at h (i := i + 1) (by omega)).1
  have c9 := (arr32_at h (i := i + 9) (by omega)).1
  have c14 := (arr32_at h (i := i + 14) (by omega)).1
  have l1 := hx (i + 1)
  have l14 := hx (i + 14)
  clear hx hl h
  generalize x.getD i 0 = z0 at *
  generalize x.getD (i + 1) 0 = z1 at *
  generalize x.getD (i + 9) 0 = z9 at *
  generalize x.getD (i + 14) 0 = z14 at *
  have HM1 := Lib.hid (fun (V : World) => show Calls Tryd.prog 37 #[.int .u32 (z1 : Int), .int .i64 7, .int .i64 18, .int .i64 3] V _ from moved_any z1 7 18 3 l1 (by decide) (by decide) (by decide) V)
  have HM2 := Lib.hid (fun (V : World) => show Calls Tryd.prog 37 #[.int .u32 (z14 : Int), .int .i64 17, .int .i64 19, .int .i64 10] V _ from moved_any z14 17 19 10 l14 (by decide) (by decide) (by decide) V)
  rw [ss0_is] at HM1
  rw [ss1_is] at HM2
  generalize ss0 z1 = s0 at *
  generalize ss1 z14 = s1 at *
  have v1 := md_add z0 s0
  generalize md (z0 + s0) = m1 at *
  have v2 := md_add m1 z9
  generalize md (m1 + z9) = m2 at *
  have v3 := md_add m2 s1
  generalize md (m2 + s1) = m3 at *
  clear l1 l14
  have i0 : (0 : Int) ≤ (i : Int) := by omega
  have j0 : (i : Int) < 32 := by omega
  have k0 : (i : Int).toNat = i := rfl
  have w1 : IntKind.i64.wrap ((i : Int) + 1) = (i : Int) + 1 := by rw [IntKind.wrap_i64]; omega
  have i1 : (0 : Int) ≤ (i : Int) + 1 := by omega
  have j1 : (i : Int) + 1 < 32 := by omega
  have k1 : ((i : Int) + 1).toNat = i + 1 := by omega
  have w9 : IntKind.i64.wrap ((i : Int) + 9) = (i : Int) + 9 := by rw [IntKind.wrap_i64]; omega
  have i9 : (0 : Int) ≤ (i : Int) + 9 := by omega
  have j9 : (i : Int) + 9 < 32 := by omega
  have k9 : ((i : Int) + 9).toNat = i + 9 := by omega
  have w14 : IntKind.i64.wrap ((i : Int) + 14) = (i : Int) + 14 := by rw [IntKind.wrap_i64]; omega
  have i14 : (0 : Int) ≤ (i : Int) + 14 := by omega
  have j14 : (i : Int) + 14 < 32 := by omega
  have k14 : ((i : Int) + 14).toNat = i + 14 := by omega
  go_enter Tryd.func29, Tryd.ntmps29
  go_wp2_with fail
  go_quiet (first | (go_at_call 37; (with_reducible exact Calls.quiet_of (HM1.out _))) | (go_at_call 37; (with_reducible exact Calls.quiet_of (HM2.out _))))
  go_wp2_with fail
  go_ret
  exact ⟨rfl, _, rfl⟩
end Go.Proofs.YtoabeohfbikpcaaDoor.Sh
