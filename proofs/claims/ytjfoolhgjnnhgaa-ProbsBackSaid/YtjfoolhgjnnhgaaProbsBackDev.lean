/-
  Contracts of the developers' trees of layer 4, more: GetBack, GetLike.
-/
import Derived.Test.YtjfoolhgjnnhgaaProbsSpeaks
namespace Go.Proofs.Ytjfoolhgjnnhgaa.Rc
open Go.RowKit
theorem shl_bit (b k : Nat) (hb : b ≤ 1) (hk : k < 16) : wrap64 ((b : Int) * 2 ^ k) = ((b * 2 ^ k : Nat) : Int) := by
  have h1 : 2 ^ k ≤ 2 ^ 15 := Nat.pow_le_pow_right (n := 2) (by omega) (by omega)
  have h2 : b * 2 ^ k ≤ 1 * 2 ^ k := Nat.mul_le_mul_right _ hb
  have h3 : ((b : Int) * 2 ^ k) = ((b * 2 ^ k : Nat) : Int) := by simp
  rw [h3, ← IntWalk.i64_left]
  generalize b * 2 ^ k = q at *
  exact IntWalk.i64_in _ (by omega)
theorem shl_sum (v b k : Nat) (hv : v ≤ 100000) (hb : b ≤ 1) (hk : k < 16) : wrap64 ((v : Int) + (b : Int) * 2 ^ k) = ((v + b * 2 ^ k : Nat) : Int) := by
  have h1 : 2 ^ k ≤ 2 ^ 15 := Nat.pow_le_pow_right (n := 2) (by omega) (by omega)
  have h2 : b * 2 ^ k ≤ 1 * 2 ^ k := Nat.mul_le_mul_right _ hb
  have h3 : ((b : Int) * 2 ^ k) = ((b * 2 ^ k : Nat) : Int) := by simp
  rw [h3, ← IntWalk.i64_left]
  generalize b * 2 ^ k = q at *
  rw [IntWalk.i64_in _ (by omega)]
  omega
set_option maxRecDepth 100000 in
set_option maxHeartbeats 1000000 in
theorem tree_getBack {w : World} {O : Paint} {c ct a tot : Nat} {vt : Value} {s : Td} {n : Nat} (he : DecAt w O c a s.d tot) (ht : TreeAt w O ct vt s.l) (hc : ct ≠ c) (hok : s.Ok (2 ^ n) 0) (hm : s.m = 1) (hn : n ≤ 16) :
    Calls Try.prog 24 #[vt, .pointer (some ⟨a, 0, none⟩)] w fun x w' => x = .returned (.int .i64 (((getN true s n).v : Nat) : Int)) ∧ Gotten w O c ct a tot vt (getN true s n) w' := by
  have hp : 2 ^ n ≤ 65536 := Nat.pow_le_pow_right (n := 2) (by omega) hn
  have hN : 0 < 2 ^ n := Nat.two_pow_pos n
  have hv0 : s.v = 0 := by have := hok.2.2.2.2; simp at this; exact this
  obtain ⟨g, cap, hvt, hOg, hgl⟩ := ht.form (by rw [hok.2.2.1]; exact hN)
  rw [hok.2.2.1] at hvt
  subst hvt
  have HOK := Lib.hid hok
  have HB := Lib.hid (bits_any n hn g cap)
  have H0 := Lib.hid (show Gotten w O c ct a tot (.slice (some ⟨g, 0, none⟩) (2 ^ n) cap) (getN true s 0) w from ⟨Step.refl _ _ _, he, ht⟩)
  have HM := Lib.hid hm
  have HV := Lib.hid hv0
  generalize hNN : 2 ^ n = N at *
  have HNN := Lib.hid hNN
  have HP := Lib.hid hp
  clear he ht hok hNN hm hv0 hp
  go_enter Try.func24, Try.ntmps24
  go_wp2_with fail
  refine (HB.out _).mono ?_
  rintro x w1 ⟨rfl, rfl⟩
  go_wp2_with fail
  go_loopw [5, 6, 7, 8, 11] (fun u m _ _ i wr => ∃ k : Nat, k ≤ n ∧ i = .int .i64 k ∧ u = .int .i64 ((getN true s k).v : Int) ∧ m = .int .i64 ((getN true s k).m : Int) ∧ Gotten w O c ct a tot (.slice (some ⟨g, 0, none⟩) N cap) (getN true s k) wr) (fun _ _ _ _ i _ => n - (intOf i).toNat)
  case atStart => exact ⟨0, by omega, rfl, by rw [show (getN true s 0).v = 0 from HV.out]; rfl, by rw [show (getN true s 0).m = 1 from HM.out]; rfl, H0.out⟩
  case round =>
    clear H0
    obtain ⟨k, hk, rfl, rfl, rfl, hs1, he1, ht1⟩ := hrel
    have hS := getN_ok true n (by rw [HNN.out]; exact HOK.out) k hk
    rw [HNN.out] at hS
    by_cases hlt : k < n
    · have hmN : (getN true s k).m < N := Nat.lt_of_lt_of_le hS.2.2.2.1 (by rw [← HNN.out]; exact Nat.pow_le_pow_right (by omega) hlt)
      have hvN : (getN true s k).v < N := Nat.lt_of_lt_of_le hS.2.2.2.2 (by rw [← HNN.out]; exact Nat.pow_le_pow_right (by omega) (by omega))
      have hNs : N < 100000 := by have := HP.out; omega
      have HST := Lib.hid (show getN true s (k + 1) = (getN true s k).at (getN true s k).m ((getN true s k).v + (getN true s k).bit (getN true s k).m * 2 ^ k) from rfl)
      generalize getN true s k = S at *
      have hb1 := bit_le S S.m
      have HCB := Lib.hid (treeget he1 ht1 hc hS.2.1 hS.2.2.1 S.m (S.v + S.bit S.m * 2 ^ k) hmN)
      have HS1 := Lib.hid hs1
      have HAM := Lib.hid (show (S.at S.m (S.v + S.bit S.m * 2 ^ k)).m = 2 * S.m + S.bit S.m from rfl)
      have HAV := Lib.hid (show (S.at S.m (S.v + S.bit S.m * 2 ^ k)).v = S.v + S.bit S.m * 2 ^ k from rfl)
      generalize S.at S.m (S.v + S.bit S.m * 2 ^ k) = S2 at *
      generalize S.bit S.m = b at *
      have HSH2 := Lib.hid (show b * 2 ^ k ≤ 32768 by
        have h1 : 2 ^ k ≤ 2 ^ 15 := Nat.pow_le_pow_right (n := 2) (by omega) (by omega)
        have h2 : b * 2 ^ k ≤ 1 * 2 ^ k := Nat.mul_le_mul_right _ hb1
        omega)
      clear hs1 he1 ht1 hS
      go_wp2_with fail
      refine HCB.out.mono ?_
      rintro x w2 ⟨rfl, hs2, he2, ht2⟩
      have HS2 := Lib.hid hs2
      have HE2 := Lib.hid he2
      have HT2 := Lib.hid ht2
      clear hs2 he2 ht2
      have hsh := shl_bit b k hb1 (by omega)
      have hsh2 := HSH2.out
      go_wp2_with fail
      go_roundw
      case rel => exact ⟨k + 1, by omega, by go_num, by rw [HST.out, HAV.out]; exact congrArg (Value.int .i64) (shl_sum S.v b k (by omega) hb1 (by omega)), by rw [HST.out, HAM.out]; go_num, by rw [HST.out]; exact ⟨HS1.out.trans HS2.out, HE2.out, HT2.out⟩⟩
      case measure => simp [intOf]; omega
    · obtain rfl : k = n := by omega
      have HS1 := Lib.hid hs1
      have HE1 := Lib.hid he1
      have HT1 := Lib.hid ht1
      clear hs1 he1 ht1 hS
      go_wp2_with fail
      go_ret
      exact ⟨rfl, HS1.out, HE1.out, HT1.out⟩
/-- A byte got beside another one, k bits of it done: and whether they are like. -/
def gotLike (o : Nat) (s : Td) : Nat → Td × Bool
  | 0 => (s, true)
  | k + 1 => ((gotLike o s k).1.at (place (gotLike o s k).1.m (gotLike o s k).2 (bitAt o (7 - k))) (gotLike o s k).1.v, (gotLike o s k).2 && ((gotLike o s k).1.bit (place (gotLike o s k).1.m (gotLike o s k).2 (bitAt o (7 - k))) == bitAt o (7 - k)))
theorem gotLike_ok (o N : Nat) (hN : 768 ≤ N) {s : Td} (h : s.Ok N 0) : ∀ k, k ≤ 8 → (gotLike o s k).1.Ok N k := by
  intro k
  induction k with
  | zero => intro _; exact h
  | succ k ih =>
    intro hk
    have h1 := ih (by omega)
    have hp := place_lt (like := (gotLike o s k).2) h1.2.2.2.1 (by omega : k < 8) (bitAt_le o (7 - k))
    exact td_at h1 (by omega) (Nat.lt_of_lt_of_le h1.2.2.2.2 (Nat.pow_le_pow_right (by omega) (by omega)))
theorem gotLike_m {o N : Nat} {s : Td} (hN : 768 ≤ N) (h : s.Ok N 0) {k : Nat} (hk : k < 8) : (gotLike o s k).1.m < 256 := by
  have h1 := (gotLike_ok o N hN h k (by omega)).2.2.2.1
  exact Nat.lt_of_lt_of_le h1 (Nat.pow_le_pow_right (n := 2) (by omega) (by omega : k + 1 ≤ 8))
set_option maxRecDepth 100000 in
set_option maxHeartbeats 1000000 in
theorem tree_getLike {w : World} {O : Paint} {c ct a tot N : Nat} {vt : Value} {s : Td} (he : DecAt w O c a s.d tot) (ht : TreeAt w O ct vt s.l) (hc : ct ≠ c) (hok : s.Ok N 0) (hN : 768 ≤ N) (hN2 : N ≤ 65536) (hm : s.m = 1) (o : Nat) (ho : o < 256) :
    Calls Try.prog 25 #[.pointer (some ⟨a, 0, none⟩), vt, .int .u8 (o : Int)] w fun x w' => x = .returned (.int .u8 (((gotLike o s 8).1.m % 256 : Nat) : Int)) ∧ Gotten w O c ct a tot vt (gotLike o s 8).1 w' := by
  obtain ⟨g, cap, hvt, hOg, hgl⟩ := ht.form (by rw [hok.2.2.1]; omega)
  rw [hok.2.2.1] at hvt
  subst hvt
  have HOK := Lib.hid hok
  have H0 := Lib.hid (show Gotten w O c ct a tot (.slice (some ⟨g, 0, none⟩) N cap) (gotLike o s 0).1 w from ⟨Step.refl _ _ _, he, ht⟩)
  have HM := Lib.hid hm
  have hd : decide ((N : Int) < 768) = false := by rw [decide_eq_false_iff_not]; omega
  have HN := Lib.hid hN
  have HN2 := Lib.hid hN2
  clear he ht hok hm hN hN2
  go_enter Try.func25, Try.ntmps25
  go_wp2_with fail
  clear hd
  go_loopw [7, 8, 9, 10, 11, 15] (fun m like _ _ _ i wr => ∃ k : Nat, k ≤ 8 ∧ i = .int .i64 k ∧ m = .int .i64 ((gotLike o s k).1.m : Int) ∧ like = .bool (gotLike o s k).2 ∧ Gotten w O c ct a tot (.slice (some ⟨g, 0, none⟩) N cap) (gotLike o s k).1 wr) (fun _ _ _ _ _ i _ => 8 - (intOf i).toNat)
  case atStart => exact ⟨0, by omega, rfl, by rw [show (gotLike o s 0).1.m = 1 from HM.out]; rfl, rfl, H0.out⟩
  case round =>
    clear H0
    obtain ⟨k, hk, rfl, rfl, rfl, hs1, he1, ht1⟩ := hrel
    have hS := gotLike_ok o N HN.out HOK.out k hk
    by_cases hlt : k < 8
    · have hm2 := gotLike_m (o := o) HN.out HOK.out hlt
      have hpl := place_lt (like := (gotLike o s k).2) hS.2.2.2.1 hlt (bitAt_le o (7 - k))
      have HST := Lib.hid (show gotLike o s (k + 1) = ((gotLike o s k).1.at (place (gotLike o s k).1.m (gotLike o s k).2 (bitAt o (7 - k))) (gotLike o s k).1.v, (gotLike o s k).2 && ((gotLike o s k).1.bit (place (gotLike o s k).1.m (gotLike o s k).2 (bitAt o (7 - k))) == bitAt o (7 - k))) from rfl)
      generalize (gotLike o s k).2 = li at *
      generalize (gotLike o s k).1 = S at *
      have hb2 := bitAt_le o (7 - k)
      have HB2 := Lib.hid (bitOf_any o (7 - k) ho (by omega))
      have HLP := Lib.hid (likePlace_any S.m (bitAt o (7 - k)) li hm2 hb2)
      have HCB := Lib.hid (treeget he1 ht1 hc hS.2.1 hS.2.2.1 (place S.m li (bitAt o (7 - k))) S.v (by have := HN.out; omega))
      have hb1 := bit_le S (place S.m li (bitAt o (7 - k)))
      have HS1 := Lib.hid hs1
      have HI := Lib.hid (show (7 : Int) - (k : Int) = ((7 - k : Nat) : Int) by omega)
      have HAM := Lib.hid (show (S.at (place S.m li (bitAt o (7 - k))) S.v).m = 2 * S.m + S.bit (place S.m li (bitAt o (7 - k))) from rfl)
      generalize bitAt o (7 - k) = cc at *
      have hplN : place S.m li cc < N := by have := HN.out; omega
      generalize place S.m li cc = pl at *
      generalize S.at pl S.v = S2 at *
      generalize S.bit pl = b at *
      clear hpl
      clear hs1 he1 ht1 hS
      go_wp2_with fail
      rw [HI.out]
      refine (HB2.out _).mono ?_
      rintro x w2 ⟨rfl, rfl⟩
      go_wp2_with fail
      refine (HLP.out _).mono ?_
      rintro x w2 ⟨rfl, rfl⟩
      go_wp2_with fail
      refine HCB.out.mono ?_
      rintro x w2 ⟨rfl, hs2, he2, ht2⟩
      have HS2 := Lib.hid hs2
      have HE2 := Lib.hid he2
      have HT2 := Lib.hid ht2
      clear hs2 he2 ht2
      cases li
      · go_wp2_with fail
        go_roundw
        case rel => exact ⟨k + 1, by omega, by go_num, by rw [HST.out]; show _ = Value.int .i64 (S2.m : Int); rw [HAM.out]; go_num, by rw [HST.out]; rfl, by rw [HST.out]; exact ⟨HS1.out.trans HS2.out, HE2.out, HT2.out⟩⟩
        case measure => simp [intOf]; omega
      · have hbc : ((b : Int) == (cc : Int)) = (b == cc) := by rw [Bool.eq_iff_iff]; simp only [beq_iff_eq]; omega
        have HBC := Lib.hid hbc
        clear hbc
        go_wp2_with fail
        go_roundw
        case rel => exact ⟨k + 1, by omega, by go_num, by rw [HST.out]; show _ = Value.int .i64 (S2.m : Int); rw [HAM.out]; go_num, by rw [HST.out]; first | rfl | exact congrArg Value.bool (by rw [HBC.out]; simp) | exact congrArg Value.bool (by simp), by rw [HST.out]; exact ⟨HS1.out.trans HS2.out, HE2.out, HT2.out⟩⟩
        case measure => simp [intOf]; omega
    · obtain rfl : k = 8 := by omega
      have HS1 := Lib.hid hs1
      have HE1 := Lib.hid he1
      have HT1 := Lib.hid ht1
      have hmb : (gotLike o s 8).1.m < 512 := hS.2.2.2.1
      clear hs1 he1 ht1 hS
      have hw8 : IntKind.u8.wrap ((gotLike o s 8).1.m : Int) = (((gotLike o s 8).1.m % 256 : Nat) : Int) := by rw [IntKind.wrap_u8]; omega
      go_wp2_with fail
      go_ret
      exact ⟨ret_num (by omega), HS1.out, HE1.out, HT1.out⟩
end Go.Proofs.Ytjfoolhgjnnhgaa.Rc
