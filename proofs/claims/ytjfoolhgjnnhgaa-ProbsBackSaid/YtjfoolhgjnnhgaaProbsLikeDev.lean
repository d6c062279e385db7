/-
  Contracts of the developers' trees of layer 4, more: PutLike.
-/
import Derived.Test.YtjfoolhgjnnhgaaProbsNew
namespace Go.Proofs.Ytjfoolhgjnnhgaa.Rc
open Go.RowKit
theorem bitOf_any (v i : Nat) (hv : v < 256) (hi : i ≤ 7) (w : World) : Calls Try.prog 57 #[.int .u8 (v : Int), .int .i64 (i : Int)] w fun x w' => x = .returned (.int .i64 ((bitAt v i : Nat) : Int)) ∧ w = w' := by
  have hbit := and1_i64 v i (by omega)
  have hsw := shr_wrap v i (by omega)
  have hsw2 : wrap64 ((v : Int) / 2 ^ i) = (v : Int) / 2 ^ i := by rw [← IntWalk.i64_left]; exact hsw
  generalize bitAt v i = b at *
  go_enter Try.func57, Try.ntmps57
  go_wp2
  go_ret
  exact ⟨rfl, rfl⟩
theorem likePlace_any (m c : Nat) (like : Bool) (hm : m < 256) (hc : c ≤ 1) (w : World) : Calls Try.prog 59 #[.int .i64 (m : Int), .int .i64 (c : Int), .bool like] w fun x w' => x = .returned (.int .i64 ((place m like c : Nat) : Int)) ∧ w = w' := by
  have HP1 := Lib.hid (show place m true c = m + 256 + 256 * c from rfl)
  have HP0 := Lib.hid (show place m false c = m from rfl)
  cases like
  · go_enter Try.func59, Try.ntmps59
    go_wp2
    go_ret
    exact ⟨ret_num (by rw [HP0.out]), rfl⟩
  · go_enter Try.func59, Try.ntmps59
    go_wp2
    go_ret
    exact ⟨ret_num (by rw [HP1.out]; omega), rfl⟩
theorem like_m {v o N : Nat} {s : Tr} (hN : 768 ≤ N) (h : s.Ok N 0) {k : Nat} (hk : k < 8) : (likeN v o s k).1.m < 256 := by
  have h1 := (likeN_ok v o N hN h k (by omega)).2.2.2
  exact Nat.lt_of_lt_of_le h1 (Nat.pow_le_pow_right (n := 2) (by omega) (by omega : k + 1 ≤ 8))
set_option maxRecDepth 100000 in
set_option maxHeartbeats 1000000 in
theorem tree_putLike {w : World} {O : Paint} {c ct a N : Nat} {vt : Value} {s : Tr} (he : EncAt w O c a s.e) (ht : TreeAt w O ct vt s.l) (hc : ct ≠ c) (hok : s.Ok N 0) (hN : 768 ≤ N) (hN2 : N ≤ 65536) (hm : s.m = 1) (htn : s.e.turns ≤ 900000) (v o : Nat) (hv : v < 256) (ho : o < 256) :
    Calls Try.prog 16 #[.pointer (some ⟨a, 0, none⟩), vt, .int .u8 (v : Int), .int .u8 (o : Int)] w fun x w' => x = .returned (.tuple #[]) ∧ Putted w O c ct a vt (likeN v o s 8).1 w' := by
  obtain ⟨g, cap, hvt, hOg, hgl⟩ := ht.form (by rw [hok.2.2.1]; omega)
  rw [hok.2.2.1] at hvt
  subst hvt
  have HOK := Lib.hid hok
  have H0 := Lib.hid (show Putted w O c ct a (.slice (some ⟨g, 0, none⟩) N cap) (likeN v o s 0).1 w from ⟨O, Step.refl _ _ _, he, ht⟩)
  have HM := Lib.hid hm
  have hd : decide ((N : Int) < 768) = false := by rw [decide_eq_false_iff_not]; omega
  have HN := Lib.hid hN
  have HN2 := Lib.hid hN2
  have HTN := Lib.hid htn
  clear he ht hok hm hN hN2 htn
  go_enter Try.func16, Try.ntmps16
  go_wp2_with fail
  go_loopw [8, 9, 10, 11, 12, 16] (fun m li _ _ _ i wr => ∃ k : Nat, k ≤ 8 ∧ i = .int .i64 k ∧ m = .int .i64 ((likeN v o s k).1.m : Int) ∧ li = .bool (likeN v o s k).2 ∧ Putted w O c ct a (.slice (some ⟨g, 0, none⟩) N cap) (likeN v o s k).1 wr) (fun _ _ _ _ _ i _ => 8 - (intOf i).toNat)
  case atStart => exact ⟨0, by omega, rfl, by rw [show (likeN v o s 0).1.m = 1 from HM.out]; rfl, rfl, H0.out⟩
  case round =>
    clear H0
    obtain ⟨k, hk, rfl, rfl, rfl, O1, hs1, he1, ht1⟩ := hrel
    have hS := likeN_ok v o N HN.out HOK.out k hk
    have hT := likeN_turns v o s k
    by_cases hlt : k < 8
    · have hm2 := like_m (v := v) (o := o) HN.out HOK.out hlt
      have hpl := place_lt (like := (likeN v o s k).2) hS.2.2.2 hlt (bitAt_le o (7 - k))
      have HST := Lib.hid (show likeN v o s (k + 1) = ((likeN v o s k).1.at (place (likeN v o s k).1.m (likeN v o s k).2 (bitAt o (7 - k))) (bitAt v (7 - k)), (likeN v o s k).2 && (bitAt v (7 - k) == bitAt o (7 - k))) from rfl)
      generalize (likeN v o s k).2 = li at *
      generalize (likeN v o s k).1 = S at *
      have hb1 := bitAt_le v (7 - k)
      have hb2 := bitAt_le o (7 - k)
      have HB1 := Lib.hid (bitOf_any v (7 - k) hv (by omega))
      have HB2 := Lib.hid (bitOf_any o (7 - k) ho (by omega))
      have HLP := Lib.hid (likePlace_any S.m (bitAt o (7 - k)) li hm2 hb2)
      have HCB := Lib.hid (treebit he1 ht1 hc hS.2.1 hS.2.2.1 (by have := HTN.out; omega) (place S.m li (bitAt o (7 - k))) (bitAt v (7 - k)) (by have := HN.out; omega) hb1)
      have HS1 := Lib.hid hs1
      have HI := Lib.hid (show (7 : Int) - (k : Int) = ((7 - k : Nat) : Int) by omega)
      generalize bitAt v (7 - k) = b at *
      generalize bitAt o (7 - k) = cc at *
      have hplN : place S.m li cc < N := by have := HN.out; omega
      generalize place S.m li cc = pl at *
      clear hpl
      clear hs1 he1 ht1 hS hT
      go_wp2_with fail
      rw [HI.out]
      refine (HB1.out _).mono ?_
      rintro x w2 ⟨rfl, rfl⟩
      go_wp2_with fail
      rw [HI.out]
      refine (HB2.out _).mono ?_
      rintro x w2 ⟨rfl, rfl⟩
      go_wp2_with fail
      refine (HLP.out _).mono ?_
      rintro x w2 ⟨rfl, rfl⟩
      go_wp2_with fail
      refine HCB.out.mono ?_
      rintro x w2 ⟨rfl, O2, hs2, he2, ht2⟩
      have HS2 := Lib.hid hs2
      have HE2 := Lib.hid he2
      have HT2 := Lib.hid ht2
      clear hs2 he2 ht2
      cases li
      · go_wp2_with fail
        go_roundw
        case rel => exact ⟨k + 1, by omega, by go_num, by rw [HST.out]; unfold Tr.at; go_num, by rw [HST.out]; rfl, by rw [HST.out]; exact ⟨O2, HS1.out.trans HS2.out, HE2.out, HT2.out⟩⟩
        case measure => simp [intOf]; omega
      · have hbc : ((b : Int) == (cc : Int)) = (b == cc) := by rw [Bool.eq_iff_iff]; simp only [beq_iff_eq]; omega
        have HBC := Lib.hid hbc
        clear hbc
        go_wp2_with fail
        go_roundw
        case rel => exact ⟨k + 1, by omega, by go_num, by rw [HST.out]; unfold Tr.at; go_num, by rw [HST.out]; first | rfl | exact congrArg Value.bool (by rw [HBC.out]; simp) | exact congrArg Value.bool (by simp), by rw [HST.out]; exact ⟨O2, HS1.out.trans HS2.out, HE2.out, HT2.out⟩⟩
        case measure => simp [intOf]; omega
    · obtain rfl : k = 8 := by omega
      have HS1 := Lib.hid hs1
      have HE1 := Lib.hid he1
      have HT1 := Lib.hid ht1
      clear hs1 he1 ht1 hS hT
      go_wp2_with fail
      first | go_end0 | (simp only [Exit.inBlock, Exit.then]; refine bodyPost_ret (results_none rfl _ _ _) rfl ?_) | refine bodyPost_ret (results_none rfl _ _ _) rfl ?_
      exact ⟨rfl, O1, HS1.out, HE1.out, HT1.out⟩
end Go.Proofs.Ytjfoolhgjnnhgaa.Rc
