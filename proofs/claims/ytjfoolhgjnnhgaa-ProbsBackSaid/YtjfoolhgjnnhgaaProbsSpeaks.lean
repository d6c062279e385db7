/-
  Layer 4's statements: their first lines (speaks) return true; Get and GetBack of the developers' trees.
-/
import Derived.Test.YtjfoolhgjnnhgaaProbsLikeDev
import Derived.Test.YtjfoolhgjnnhgaaRcSpeaks
namespace Go.Proofs.Ytjfoolhgjnnhgaa.Rc
open Go.RowKit
/-- A decoder, a tree, a place in it, a number. -/
structure Td where
  d : Dec
  l : List Nat
  m : Nat
  v : Nat
def Td.bit (s : Td) (q : Nat) : Nat := s.d.bitOf (s.l.getD q 0)
def Td.at (s : Td) (q : Nat) (v : Nat) : Td := ⟨s.d.getBit (s.l.getD q 0), s.l.set q (learn (s.l.getD q 0) (s.bit q)), 2 * s.m + s.bit q, v⟩
/-- A number of n bits got, i of them done. -/
def getN (back : Bool) (s : Td) : Nat → Td
  | 0 => s
  | i + 1 => (getN back s i).at (getN back s i).m (if back then (getN back s i).v + (getN back s i).bit (getN back s i).m * 2 ^ i else 2 * (getN back s i).v + (getN back s i).bit (getN back s i).m)
def Td.Ok (s : Td) (N i : Nat) : Prop := FineD s.d ∧ Probs s.l ∧ s.l.length = N ∧ s.m < 2 ^ (i + 1) ∧ s.v < 2 ^ i
theorem bit_le (s : Td) (q : Nat) : s.bit q ≤ 1 := bitOf_le _ _
theorem td_at {s : Td} {N i q v : Nat} (h : s.Ok N i) (hq : q < N) (hv : v < 2 ^ (i + 1)) : (s.at q v).Ok N (i + 1) := by
  obtain ⟨h1, h2, h3, h4, h5⟩ := h
  have hp := probs_get h2 (by omega : q < s.l.length)
  have hb := bit_le s q
  refine ⟨fine_getBit h1 (by omega) (by omega), probs_set h2 _ (learn_in hp.1 hp.2), by simp [Td.at, h3], ?_, hv⟩
  show 2 * s.m + s.bit q < 2 ^ (i + 1 + 1)
  rw [Nat.pow_succ]; omega
theorem getN_ok (back : Bool) (n : Nat) {s : Td} (h : s.Ok (2 ^ n) 0) : ∀ i, i ≤ n → (getN back s i).Ok (2 ^ n) i := by
  intro i
  induction i with
  | zero => intro _; exact h
  | succ i ih =>
    intro hi
    have h1 := ih (by omega)
    have hm : (getN back s i).m < 2 ^ n := Nat.lt_of_lt_of_le h1.2.2.2.1 (Nat.pow_le_pow_right (by omega) hi)
    have hb := bit_le (getN back s i) (getN back s i).m
    have hv := h1.2.2.2.2
    refine td_at h1 hm ?_
    rw [Nat.pow_succ]
    split
    · have : (getN back s i).bit (getN back s i).m * 2 ^ i ≤ 1 * 2 ^ i := Nat.mul_le_mul_right _ hb
      omega
    · omega
/-- What a number that was got leaves. -/
def Gotten (w : World) (O : Paint) (c ct a tot : Nat) (v : Value) (s : Td) (wr : World) : Prop := Step [c, ct] w O wr O ∧ DecAt wr O c a s.d tot ∧ TreeAt wr O ct v s.l
theorem treeget {w : World} {O : Paint} {c ct a tot g N cap : Nat} {s : Td} (he : DecAt w O c a s.d tot) (ht : TreeAt w O ct (.slice (some ⟨g, 0, none⟩) N cap) s.l) (hc : ct ≠ c) (hp : Probs s.l) (hl : s.l.length = N) (q v : Nat) (hq : q < N) :
    Calls Try.prog 64 #[.pointer (some ⟨a, 0, none⟩), .pointer (some ⟨g, q, none⟩)] w fun x w' => x = .returned (.int .i64 ((s.bit q : Nat) : Int)) ∧ Gotten w O c ct a tot (.slice (some ⟨g, 0, none⟩) N cap) (s.at q v) w' := by
  have hpq := probs_get hp (show q < s.l.length by omega)
  have hO : O g = ct := ht.paint g rfl
  refine (decbit he (ht.cellAt (by omega)) (Held.free ht q) (by show O g ≠ c; rw [hO]; exact hc) (by omega) (by omega)).mono ?_
  rintro x w' ⟨hx, hs, he'⟩
  have hst := Step.store w O ⟨g, q, none⟩ (.int .u16 ((learn (s.l.getD q 0) (s.bit q) : Nat) : Int))
  simp only [hO] at hst
  refine ⟨hx, (hst.mono (by simp)).trans (hs.mono (by simp)), he', ?_⟩
  exact (ht.set q _).step hs (by simpa using hc)
set_option maxRecDepth 100000 in
set_option maxHeartbeats 1000000 in
theorem tree_get {w : World} {O : Paint} {c ct a tot : Nat} {vt : Value} {s : Td} {n : Nat} (he : DecAt w O c a s.d tot) (ht : TreeAt w O ct vt s.l) (hc : ct ≠ c) (hok : s.Ok (2 ^ n) 0) (hm : s.m = 1) (hn : n ≤ 16) :
    Calls Try.prog 23 #[vt, .pointer (some ⟨a, 0, none⟩)] w fun x w' => x = .returned (.int .i64 (((getN false s n).v : Nat) : Int)) ∧ Gotten w O c ct a tot vt (getN false s n) w' := by
  have hp : 2 ^ n ≤ 65536 := Nat.pow_le_pow_right (n := 2) (by omega) hn
  have hN : 0 < 2 ^ n := Nat.two_pow_pos n
  have hv0 : s.v = 0 := by have := hok.2.2.2.2; simp at this; exact this
  obtain ⟨g, cap, hvt, hOg, hgl⟩ := ht.form (by rw [hok.2.2.1]; exact hN)
  rw [hok.2.2.1] at hvt
  subst hvt
  have HOK := Lib.hid hok
  have HB := Lib.hid (bits_any n hn g cap)
  have H0 := Lib.hid (show Gotten w O c ct a tot (.slice (some ⟨g, 0, none⟩) (2 ^ n) cap) (getN false s 0) w from ⟨Step.refl _ _ _, he, ht⟩)
  have HM := Lib.hid hm
  have HV := Lib.hid hv0
  generalize hNN : 2 ^ n = N at *
  have HNN := Lib.hid hNN
  have HP := Lib.hid hp
  clear he ht hok hNN hm hv0 hp
  go_enter Try.func23, Try.ntmps23
  go_wp2_with fail
  refine (HB.out _).mono ?_
  rintro x w1 ⟨rfl, rfl⟩
  go_wp2_with fail
  go_loopw [5, 6, 7, 10] (fun u m _ i wr => ∃ k : Nat, k ≤ n ∧ i = .int .i64 k ∧ u = .int .i64 ((getN false s k).v : Int) ∧ m = .int .i64 ((getN false s k).m : Int) ∧ Gotten w O c ct a tot (.slice (some ⟨g, 0, none⟩) N cap) (getN false s k) wr) (fun _ _ _ i _ => n - (intOf i).toNat)
  case atStart => exact ⟨0, by omega, rfl, by rw [show (getN false s 0).v = 0 from HV.out]; rfl, by rw [show (getN false s 0).m = 1 from HM.out]; rfl, H0.out⟩
  case round =>
    clear H0
    obtain ⟨k, hk, rfl, rfl, rfl, hs1, he1, ht1⟩ := hrel
    have hS := getN_ok false n (by rw [HNN.out]; exact HOK.out) k hk
    rw [HNN.out] at hS
    by_cases hlt : k < n
    · have hmN : (getN false s k).m < N := Nat.lt_of_lt_of_le hS.2.2.2.1 (by rw [← HNN.out]; exact Nat.pow_le_pow_right (by omega) hlt)
      have hvN : (getN false s k).v < N := Nat.lt_of_lt_of_le hS.2.2.2.2 (by rw [← HNN.out]; exact Nat.pow_le_pow_right (by omega) (by omega))
      have hNs : N < 100000 := by have := HP.out; omega
      have HST := Lib.hid (show getN false s (k + 1) = (getN false s k).at (getN false s k).m (2 * (getN false s k).v + (getN false s k).bit (getN false s k).m) from rfl)
      generalize getN false s k = S at *
      have hb1 := bit_le S S.m
      have HCB := Lib.hid (treeget he1 ht1 hc hS.2.1 hS.2.2.1 S.m (2 * S.v + S.bit S.m) hmN)
      have HS1 := Lib.hid hs1
      have HAM := Lib.hid (show (S.at S.m (2 * S.v + S.bit S.m)).m = 2 * S.m + S.bit S.m from rfl)
      have HAV := Lib.hid (show (S.at S.m (2 * S.v + S.bit S.m)).v = 2 * S.v + S.bit S.m from rfl)
      generalize S.at S.m (2 * S.v + S.bit S.m) = S2 at *
      generalize S.bit S.m = b at *
      clear hs1 he1 ht1 hS
      go_wp2_with fail
      refine HCB.out.mono ?_
      rintro x w2 ⟨rfl, hs2, he2, ht2⟩
      have HS2 := Lib.hid hs2
      have HE2 := Lib.hid he2
      have HT2 := Lib.hid ht2
      clear hs2 he2 ht2
      go_wp2_with fail
      go_roundw
      case rel => exact ⟨k + 1, by omega, by go_num, by rw [HST.out, HAV.out]; go_num, by rw [HST.out, HAM.out]; go_num, by rw [HST.out]; exact ⟨HS1.out.trans HS2.out, HE2.out, HT2.out⟩⟩
      case measure => simp [intOf]; omega
    · obtain rfl : k = n := by omega
      have HS1 := Lib.hid hs1
      have HE1 := Lib.hid he1
      have HT1 := Lib.hid ht1
      clear hs1 he1 ht1 hS
      go_wp2_with fail
      go_ret
      exact ⟨rfl, HS1.out, HE1.out, HT1.out⟩
end Go.Proofs.Ytjfoolhgjnnhgaa.Rc
