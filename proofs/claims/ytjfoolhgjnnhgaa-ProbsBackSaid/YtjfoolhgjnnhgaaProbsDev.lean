/-
  Contracts of the developers' trees of layer 4: what a tree is in memory ('TreeAt'), New, Put, PutBack.
-/
import Derived.Test.YtjfoolhgjnnhgaaProbsLen
import Derived.Laws.MakeOwn
namespace Go.Proofs.Ytjfoolhgjnnhgaa.Rc
open Go.RowKit
/-- v is a tree of these probabilities; its block belongs to c. -/
def TreeAt (w : World) (O : Paint) (c : Nat) (v : Value) (l : List Nat) : Prop := Held w O c 41 v (u16s l)
theorem u16s_length (l : List Nat) : (u16s l).length = l.length := by simp [u16s]
theorem TreeAt.step {cs : List Nat} {w w' : World} {O O' : Paint} {c : Nat} {v : Value} {l : List Nat} (h : TreeAt w O c v l) (hs : Step cs w O w' O') (hc : c ∉ cs) : TreeAt w' O' c v l := Held.step h hs hc
theorem TreeAt.form {w : World} {O : Paint} {c : Nat} {v : Value} {l : List Nat} (h : TreeAt w O c v l) (hn : 0 < l.length) : ∃ g cap, v = .slice (some ⟨g, 0, none⟩) l.length cap ∧ O g = c ∧ g < w.heap.size := by
  obtain ⟨g, cap, h1, _, _, h4, h5⟩ := Held.form h (by rw [u16s_length]; exact hn)
  rw [u16s_length] at h1
  exact ⟨g, cap, h1, h4, h5⟩
theorem TreeAt.cellAt {w : World} {O : Paint} {c g n cap : Nat} {l : List Nat} (h : TreeAt w O c (.slice (some ⟨g, 0, none⟩) n cap) l) {j : Nat} (hj : j < l.length) : w.cell? ⟨g, j, none⟩ = some (.int .u16 ((l.getD j 0 : Nat) : Int)) :=
  Held.cell h (by simp [u16s, hj, List.getD])
theorem TreeAt.set {w : World} {O : Paint} {c g n cap : Nat} {l : List Nat} (h : TreeAt w O c (.slice (some ⟨g, 0, none⟩) n cap) l) (j x : Nat) : TreeAt (w.setCell ⟨g, j, none⟩ (.int .u16 (x : Int))) O c (.slice (some ⟨g, 0, none⟩) n cap) (l.set j x) := by
  have := Held.set h j (.int .u16 (x : Int))
  unfold TreeAt
  have e : u16s (l.set j x) = (u16s l).set j (.int .u16 (x : Int)) := by simp [u16s, List.map_set]
  rw [e]; exact this
/-- A bit by a place of a tree: what the encoder and the tree are behind it. -/
theorem treebit {w : World} {O : Paint} {c ct a g N cap : Nat} {s : Tr} (he : EncAt w O c a s.e) (ht : TreeAt w O ct (.slice (some ⟨g, 0, none⟩) N cap) s.l) (hc : ct ≠ c) (hp : Probs s.l) (hl : s.l.length = N) (htn : s.e.turns ≤ 999990) (q b : Nat) (hq : q < N) (hb : b ≤ 1) :
    Calls Try.prog 58 #[.pointer (some ⟨a, 0, none⟩), .pointer (some ⟨g, q, none⟩), .int .i64 (b : Int)] w fun x w' => x = .returned (.tuple #[]) ∧ ∃ O', Step [c, ct] w O w' O' ∧ EncAt w' O' c a (s.at q b).e ∧ TreeAt w' O' ct (.slice (some ⟨g, 0, none⟩) N cap) (s.at q b).l := by
  have hpq := probs_get hp (show q < s.l.length by omega)
  have hO : O g = ct := ht.paint g rfl
  refine (encbit he htn (ht.cellAt (by omega)) (Held.free ht q) (by show O g ≠ c; rw [hO]; exact hc) (by omega) (by omega) hb).mono ?_
  rintro x w' ⟨hx, O', hs, he'⟩
  have hst := Step.store w O ⟨g, q, none⟩ (.int .u16 ((learn (s.l.getD q 0) b : Nat) : Int))
  simp only [hO] at hst
  refine ⟨hx, O', (hst.mono (by simp)).trans (hs.mono (by simp)), he', ?_⟩
  exact (ht.set q _).step hs (by simpa using hc)
/-- What a number that was put leaves. -/
def Putted (w : World) (O : Paint) (c ct a : Nat) (v : Value) (s : Tr) (wr : World) : Prop := ∃ O', Step [c, ct] w O wr O' ∧ EncAt wr O' c a s.e ∧ TreeAt wr O' ct v s.l
set_option maxHeartbeats 1000000 in
theorem tree_put {w : World} {O : Paint} {c ct a : Nat} {vt : Value} {s : Tr} {n : Nat} (he : EncAt w O c a s.e) (ht : TreeAt w O ct vt s.l) (hc : ct ≠ c) (hok : s.Ok (2 ^ n) 0) (hm : s.m = 1) (hn : n ≤ 16) (htn : s.e.turns ≤ 900000) (v : Nat) (hv : v < 2 ^ n) :
    Calls Try.prog 20 #[vt, .pointer (some ⟨a, 0, none⟩), .int .i64 (v : Int)] w fun x w' => x = .returned (.tuple #[]) ∧ Putted w O c ct a vt (putN false n v s n) w' := by
  have hp : 2 ^ n ≤ 65536 := Nat.pow_le_pow_right (n := 2) (by omega) hn
  have hN : 0 < 2 ^ n := Nat.two_pow_pos n
  obtain ⟨g, cap, hvt, hOg, hgl⟩ := ht.form (by rw [hok.2.2.1]; exact hN)
  rw [hok.2.2.1] at hvt
  subst hvt
  have HOK := Lib.hid hok
  have HB := Lib.hid (bits_any n hn g cap)
  have H0 := Lib.hid (show Putted w O c ct a (.slice (some ⟨g, 0, none⟩) (2 ^ n) cap) (putN false n v s 0) w from ⟨O, Step.refl _ _ _, he, ht⟩)
  have HM := Lib.hid hm
  generalize hNN : 2 ^ n = N at *
  have HNN := Lib.hid hNN
  clear he ht hok hNN hm
  go_enter Try.func20, Try.ntmps20
  go_wp2_with fail
  refine (HB.out _).mono ?_
  rintro x w1 ⟨rfl, rfl⟩
  go_wp2_with fail
  go_loopw [7, 8, 9, 13] (fun m _ _ i wr => ∃ k : Nat, k ≤ n ∧ i = .int .i64 k ∧ m = .int .i64 ((putN false n v s k).m : Int) ∧ Putted w O c ct a (.slice (some ⟨g, 0, none⟩) N cap) (putN false n v s k) wr) (fun _ _ _ i _ => n - (intOf i).toNat)
  case atStart => exact ⟨0, by omega, rfl, by rw [show (putN false n v s 0).m = 1 from HM.out]; rfl, H0.out⟩
  case round =>
    clear H0
    obtain ⟨k, hk, rfl, rfl, O1, hs1, he1, ht1⟩ := hrel
    have hS := putN_ok false n v (by rw [HNN.out]; exact HOK.out) k hk
    rw [HNN.out] at hS
    have hT := putN_turns false n v s k
    by_cases hlt : k < n
    · have hmN : (putN false n v s k).m < N := Nat.lt_of_lt_of_le hS.2.2.2 (by rw [← HNN.out]; exact Nat.pow_le_pow_right (by omega) hlt)
      have HST := Lib.hid (show putN false n v s (k + 1) = (putN false n v s k).step (bitAt v (n - 1 - k)) from rfl)
      generalize putN false n v s k = S at *
      have hb1 := bitAt_le v (n - 1 - k)
      have HCB := Lib.hid (treebit he1 ht1 hc hS.2.1 hS.2.2.1 (by omega) S.m (bitAt v (n - 1 - k)) hmN hb1)
      have hbit := and1_i64 v (n - 1 - k) (by omega)
      have HS1 := Lib.hid hs1
      generalize bitAt v (n - 1 - k) = b at *
      clear hs1 he1 ht1 hS hT
      go_wp2_with fail
      clear hbit
      refine HCB.out.mono ?_
      rintro x w2 ⟨rfl, O2, hs2, he2, ht2⟩
      have HS2 := Lib.hid hs2
      have HE2 := Lib.hid he2
      have HT2 := Lib.hid ht2
      clear hs2 he2 ht2
      go_wp2_with fail
      go_roundw
      case rel => exact ⟨k + 1, by omega, by go_num, by rw [HST.out]; unfold Tr.step Tr.at; go_num, by rw [HST.out]; exact ⟨O2, HS1.out.trans HS2.out, HE2.out, HT2.out⟩⟩
      case measure => simp [intOf]; omega
    · obtain rfl : k = n := by omega
      have HS1 := Lib.hid hs1
      have HE1 := Lib.hid he1
      have HT1 := Lib.hid ht1
      clear hs1 he1 ht1 hS hT
      go_wp2_with fail
      first | go_end0 | (simp only [Exit.inBlock, Exit.then]; refine bodyPost_ret (results_none rfl _ _ _) rfl ?_) | refine bodyPost_ret (results_none rfl _ _ _) rfl ?_
      exact ⟨rfl, O1, HS1.out, HE1.out, HT1.out⟩
set_option maxHeartbeats 1000000 in
theorem tree_putBack {w : World} {O : Paint} {c ct a : Nat} {vt : Value} {s : Tr} {n : Nat} (he : EncAt w O c a s.e) (ht : TreeAt w O ct vt s.l) (hc : ct ≠ c) (hok : s.Ok (2 ^ n) 0) (hm : s.m = 1) (hn : n ≤ 16) (htn : s.e.turns ≤ 900000) (v : Nat) (hv : v < 2 ^ n) :
    Calls Try.prog 21 #[vt, .pointer (some ⟨a, 0, none⟩), .int .i64 (v : Int)] w fun x w' => x = .returned (.tuple #[]) ∧ Putted w O c ct a vt (putN true n v s n) w' := by
  have hp : 2 ^ n ≤ 65536 := Nat.pow_le_pow_right (n := 2) (by omega) hn
  have hN : 0 < 2 ^ n := Nat.two_pow_pos n
  obtain ⟨g, cap, hvt, hOg, hgl⟩ := ht.form (by rw [hok.2.2.1]; exact hN)
  rw [hok.2.2.1] at hvt
  subst hvt
  have HOK := Lib.hid hok
  have HB := Lib.hid (bits_any n hn g cap)
  have H0 := Lib.hid (show Putted w O c ct a (.slice (some ⟨g, 0, none⟩) (2 ^ n) cap) (putN true n v s 0) w from ⟨O, Step.refl _ _ _, he, ht⟩)
  have HM := Lib.hid hm
  generalize hNN : 2 ^ n = N at *
  have HNN := Lib.hid hNN
  clear he ht hok hNN hm
  go_enter Try.func21, Try.ntmps21
  go_wp2_with fail
  refine (HB.out _).mono ?_
  rintro x w1 ⟨rfl, rfl⟩
  go_wp2_with fail
  go_loopw [6, 7, 8, 11] (fun m _ _ i wr => ∃ k : Nat, k ≤ n ∧ i = .int .i64 k ∧ m = .int .i64 ((putN true n v s k).m : Int) ∧ Putted w O c ct a (.slice (some ⟨g, 0, none⟩) N cap) (putN true n v s k) wr) (fun _ _ _ i _ => n - (intOf i).toNat)
  case atStart => exact ⟨0, by omega, rfl, by rw [show (putN true n v s 0).m = 1 from HM.out]; rfl, H0.out⟩
  case round =>
    clear H0
    obtain ⟨k, hk, rfl, rfl, O1, hs1, he1, ht1⟩ := hrel
    have hS := putN_ok true n v (by rw [HNN.out]; exact HOK.out) k hk
    rw [HNN.out] at hS
    have hT := putN_turns true n v s k
    by_cases hlt : k < n
    · have hmN : (putN true n v s k).m < N := Nat.lt_of_lt_of_le hS.2.2.2 (by rw [← HNN.out]; exact Nat.pow_le_pow_right (by omega) hlt)
      have HST := Lib.hid (show putN true n v s (k + 1) = (putN true n v s k).step (bitAt v k) from rfl)
      generalize putN true n v s k = S at *
      have hb1 := bitAt_le v k
      have HCB := Lib.hid (treebit he1 ht1 hc hS.2.1 hS.2.2.1 (by omega) S.m (bitAt v k) hmN hb1)
      have hbit := and1_i64 v k (by omega)
      have HS1 := Lib.hid hs1
      generalize bitAt v k = b at *
      clear hs1 he1 ht1 hS hT
      go_wp2_with fail
      clear hbit
      refine HCB.out.mono ?_
      rintro x w2 ⟨rfl, O2, hs2, he2, ht2⟩
      have HS2 := Lib.hid hs2
      have HE2 := Lib.hid he2
      have HT2 := Lib.hid ht2
      clear hs2 he2 ht2
      go_wp2_with fail
      go_roundw
      case rel => exact ⟨k + 1, by omega, by go_num, by rw [HST.out]; unfold Tr.step Tr.at; go_num, by rw [HST.out]; exact ⟨O2, HS1.out.trans HS2.out, HE2.out, HT2.out⟩⟩
      case measure => simp [intOf]; omega
    · obtain rfl : k = n := by omega
      have HS1 := Lib.hid hs1
      have HE1 := Lib.hid he1
      have HT1 := Lib.hid ht1
      clear hs1 he1 ht1 hS hT
      go_wp2_with fail
      first | go_end0 | (simp only [Exit.inBlock, Exit.then]; refine bodyPost_ret (results_none rfl _ _ _) rfl ?_) | refine bodyPost_ret (results_none rfl _ _ _) rfl ?_
      exact ⟨rfl, O1, HS1.out, HE1.out, HT1.out⟩
end Go.Proofs.Ytjfoolhgjnnhgaa.Rc
