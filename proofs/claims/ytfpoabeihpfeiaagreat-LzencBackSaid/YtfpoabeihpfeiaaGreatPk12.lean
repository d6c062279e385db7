/-
  Contracts of math/bits.Len at powers of two, and of the number of a tree's bits.
  Contracts of the developers' trees of layer 4: what a tree is in memory ('TreeAt'), New, Put, PutBack.
  Contracts of the developers' trees of layer 4, more: New.
  Contracts of the developers' trees of layer 4, more: PutLike.
  Layer 4's statements: their first lines (speaks) return true; Get and GetBack of the developers' trees.
  Contracts of the developers' trees of layer 4, more: GetBack, GetLike.
  Plain mathematics of layer 4: what was put by trees is got again, number by number. No program is named here but for the decoder's state (Td).
  Trees of layer 4, of which the first places alone are used: Put and Get by them.
-/
import Derived.Test.YtfpoabeihpfeiaaGreatPk03
import Derived.Test.YtfpoabeihpfeiaaGreatPk11
import Derived.Laws.MakeOwn
set_option maxRecDepth 100000
set_option maxHeartbeats 16000000
set_option linter.unusedVariables false
set_option linter.unusedSimpArgs false
open Go.Lib (hid)
section
namespace Go.Proofs.YtfpoabeihpfeiaaGreat.Rc
open Go.RowKit
theorem len_pow (n : Nat) (hn : n <= 16) (w : World) : Calls Tryz.prog 135 #[.int .u64 ((2 ^ n : Nat) : Int)] w fun x w' => x = .returned (.int .i64 ((n + 1 : Nat) : Int)) /\ w = w' := by
 have key : n = 0 \/ n = 1 \/ n = 2 \/ n = 3 \/ n = 4 \/ n = 5 \/ n = 6 \/ n = 7 \/ n = 8 \/ n = 9 \/ n = 10 \/ n = 11 \/ n = 12 \/ n = 13 \/ n = 14 \/ n = 15 \/ n = 16 := by omega
 rcases key with h | h | h | h | h | h | h | h | h | h | h | h | h | h | h | h | h
 all_goals
  subst h
  go_enter Tryz.func135, Tryz.ntmps135
  go_wp2
  go_ret
  exact ⟨by kernel_rfl, rfl⟩
theorem bits_any (n : Nat) (hn : n <= 16) (g cap : Nat) (w : World) : Calls Tryz.prog 128 #[.slice (some ⟨g, 0, none⟩) (2 ^ n) cap] w fun x w' => x = .returned (.int .i64 n) /\ w = w' := by
 have hp : 2 ^ n <= 65536 := Nat.pow_le_pow_right (n := 2) (by omega) hn
 have HL := hid (len_pow n hn)
 generalize 2 ^ n = N at *
 go_enter Tryz.func128, Tryz.ntmps128
 go_wp2_with fail
 refine (HL.out _).mono ?_
 rintro x w1 ⟨rfl, rfl⟩
 have hI : ((n + 1 : Nat) : Int) = (n : Int) + 1 := by omega
 rw [hI]
 go_wp2
 go_ret
 exact ⟨ret_num (by omega), rfl⟩
end Go.Proofs.YtfpoabeihpfeiaaGreat.Rc
end
section
namespace Go.Proofs.YtfpoabeihpfeiaaGreat.Rc
open Go.RowKit
def TreeAt (w : World) (O : Paint) (c : Nat) (v : Value) (l : List Nat) : Prop := Held w O c 133 v (u16s l)
theorem u16s_length (l : List Nat) : (u16s l).length = l.length := by simp [u16s]
theorem TreeAt.step {cs : List Nat} {w w' : World} {O O' : Paint} {c : Nat} {v : Value} {l : List Nat} (h : TreeAt w O c v l) (hs : Step cs w O w' O') (hc : c ∉ cs) : TreeAt w' O' c v l := Held.step h hs hc
theorem TreeAt.form {w : World} {O : Paint} {c : Nat} {v : Value} {l : List Nat} (h : TreeAt w O c v l) (hn : 0 < l.length) : ∃ g cap, v = .slice (some ⟨g, 0, none⟩) l.length cap /\ O g = c /\ g < w.heap.size := by
 obtain ⟨g, cap, h1, _, _, h4, h5⟩ := Held.form h (by rw [u16s_length]; exact hn)
 rw [u16s_length] at h1
 exact ⟨g, cap, h1, h4, h5⟩
theorem TreeAt.cellAt {w : World} {O : Paint} {c g n cap : Nat} {l : List Nat} (h : TreeAt w O c (.slice (some ⟨g, 0, none⟩) n cap) l) {j : Nat} (hj : j < l.length) : w.cell? ⟨g, j, none⟩ = some (.int .u16 ((l.getD j 0 : Nat) : Int)) :=
 Held.cell h (by simp [u16s, hj, List.getD])
theorem TreeAt.set {w : World} {O : Paint} {c g n cap : Nat} {l : List Nat} (h : TreeAt w O c (.slice (some ⟨g, 0, none⟩) n cap) l) (j x : Nat) : TreeAt (w.setCell ⟨g, j, none⟩ (.int .u16 x)) O c (.slice (some ⟨g, 0, none⟩) n cap) (l.set j x) := by
 have := Held.set h j (.int .u16 x)
 unfold TreeAt
 have e : u16s (l.set j x) = (u16s l).set j (.int .u16 x) := by simp [u16s, List.map_set]
 rw [e]; exact this
theorem treebit {w : World} {O : Paint} {c ct a g N cap : Nat} {s : Tr} (he : EncAt w O c a s.e) (ht : TreeAt w O ct (.slice (some ⟨g, 0, none⟩) N cap) s.l) (hc : ct ≠ c) (hp : Probs s.l) (hl : s.l.length = N) (htn : s.e.turns <= 999990) (q b : Nat) (hq : q < N) (hb : b <= 1) :
  Calls Tryz.prog 124 #[.pointer (some ⟨a, 0, none⟩), .pointer (some ⟨g, q, none⟩), .int .i64 b] w fun x w' => x = .returned (.tuple #[]) /\ ∃ O', Step [c, ct] w O w' O' /\ EncAt w' O' c a (s.at q b).e /\ TreeAt w' O' ct (.slice (some ⟨g, 0, none⟩) N cap) (s.at q b).l := by
 have hpq := probs_get hp (show q < s.l.length by omega)
 have hO : O g = ct := ht.paint g rfl
 refine (encbit he htn (ht.cellAt (by omega)) (Held.free ht q) (by show O g ≠ c; rw [hO]; exact hc) (by omega) (by omega) hb).mono ?_
 rintro x w' ⟨hx, O', hs, he'⟩
 have hst := Step.store w O ⟨g, q, none⟩ (.int .u16 ((learn (s.l.getD q 0) b : Nat) : Int))
 simp only [hO] at hst
 refine ⟨hx, O', (hst.mono (by simp)).trans (hs.mono (by simp)), he', ?_⟩
 exact (ht.set q _).step hs (by simpa using hc)
def Putted (w : World) (O : Paint) (c ct a : Nat) (v : Value) (s : Tr) (wr : World) : Prop := ∃ O', Step [c, ct] w O wr O' /\ EncAt wr O' c a s.e /\ TreeAt wr O' ct v s.l
theorem tree_put {w : World} {O : Paint} {c ct a : Nat} {vt : Value} {s : Tr} {n : Nat} (he : EncAt w O c a s.e) (ht : TreeAt w O ct vt s.l) (hc : ct ≠ c) (hok : s.Ok (2 ^ n) 0) (hm : s.m = 1) (hn : n <= 16) (htn : s.e.turns <= 900000) (v : Nat) (hv : v < 2 ^ n) :
  Calls Tryz.prog 127 #[vt, .pointer (some ⟨a, 0, none⟩), .int .i64 v] w fun x w' => x = .returned (.tuple #[]) /\ Putted w O c ct a vt (putN false n v s n) w' := by
 have hp : 2 ^ n <= 65536 := Nat.pow_le_pow_right (n := 2) (by omega) hn
 have hN : 0 < 2 ^ n := Nat.two_pow_pos n
 obtain ⟨g, cap, hvt, hOg, hgl⟩ := ht.form (by rw [hok.2.2.1]; exact hN)
 rw [hok.2.2.1] at hvt
 subst hvt
 have HOK := hid hok
 have HB := hid (bits_any n hn g cap)
 have H0 := hid (show Putted w O c ct a (.slice (some ⟨g, 0, none⟩) (2 ^ n) cap) (putN false n v s 0) w from ⟨O, Step.refl _ _ _, he, ht⟩)
 have HM := hid hm
 generalize hNN : 2 ^ n = N at *
 have HNN := hid hNN
 clear he ht hok hNN hm
 go_enter Tryz.func127, Tryz.ntmps127
 go_wp2_with fail
 refine (HB.out _).mono ?_
 rintro x w1 ⟨rfl, rfl⟩
 go_wp2_with fail
 go_loopw [7, 8, 9, 13] (fun m _ _ i wr => ∃ k : Nat, k <= n /\ i = .int .i64 k /\ m = .int .i64 ((putN false n v s k).m : Int) /\ Putted w O c ct a (.slice (some ⟨g, 0, none⟩) N cap) (putN false n v s k) wr) (fun _ _ _ i _ => n - (intOf i).toNat)
 case atStart => exact ⟨0, by omega, rfl, by rw [show (putN false n v s 0).m = 1 from HM.out]; rfl, H0.out⟩
 case round =>
  clear H0
  obtain ⟨k, hk, rfl, rfl, O1, hs1, he1, ht1⟩ := hrel
  have hS := putN_ok false n v (by rw [HNN.out]; exact HOK.out) k hk
  rw [HNN.out] at hS
  have hT := putN_turns false n v s k
  by_cases hlt : k < n
  · have hmN : (putN false n v s k).m < N := Nat.lt_of_lt_of_le hS.2.2.2 (by rw [<- HNN.out]; exact Nat.pow_le_pow_right (by omega) hlt)
    have HST := hid (show putN false n v s (k + 1) = (putN false n v s k).step (bitAt v (n - 1 - k)) from rfl)
    generalize putN false n v s k = S at *
    have hb1 := bitAt_le v (n - 1 - k)
    have HCB := hid (treebit he1 ht1 hc hS.2.1 hS.2.2.1 (by omega) S.m (bitAt v (n - 1 - k)) hmN hb1)
    have hbit := and1_i64 v (n - 1 - k) (by omega)
    have HS1 := hid hs1
    generalize bitAt v (n - 1 - k) = b at *
    clear hs1 he1 ht1 hS hT
    go_wp2_with fail
    clear hbit
    refine HCB.out.mono ?_
    rintro x w2 ⟨rfl, O2, hs2, he2, ht2⟩
    have HS2 := hid hs2
    have HE2 := hid he2
    have HT2 := hid ht2
    clear hs2 he2 ht2
    go_wp2_with fail
    go_roundw
    case rel => exact ⟨k + 1, by omega, by go_num, by rw [HST.out]; unfold Tr.step Tr.at; go_num, by rw [HST.out]; exact ⟨O2, HS1.out.trans HS2.out, HE2.out, HT2.out⟩⟩
    case measure => simp [intOf]; omega
  · obtain rfl : k = n := by omega
    have HS1 := hid hs1
    have HE1 := hid he1
    have HT1 := hid ht1
    clear hs1 he1 ht1 hS hT
    go_wp2_with fail
    first | go_end0 | (simp only [Exit.inBlock, Exit.then]; refine bodyPost_ret (results_none rfl _ _ _) rfl ?_) | refine bodyPost_ret (results_none rfl _ _ _) rfl ?_
    exact ⟨rfl, O1, HS1.out, HE1.out, HT1.out⟩
theorem tree_putBack {w : World} {O : Paint} {c ct a : Nat} {vt : Value} {s : Tr} {n : Nat} (he : EncAt w O c a s.e) (ht : TreeAt w O ct vt s.l) (hc : ct ≠ c) (hok : s.Ok (2 ^ n) 0) (hm : s.m = 1) (hn : n <= 16) (htn : s.e.turns <= 900000) (v : Nat) (hv : v < 2 ^ n) :
  Calls Tryz.prog 123 #[vt, .pointer (some ⟨a, 0, none⟩), .int .i64 v] w fun x w' => x = .returned (.tuple #[]) /\ Putted w O c ct a vt (putN true n v s n) w' := by
 have hp : 2 ^ n <= 65536 := Nat.pow_le_pow_right (n := 2) (by omega) hn
 have hN : 0 < 2 ^ n := Nat.two_pow_pos n
 obtain ⟨g, cap, hvt, hOg, hgl⟩ := ht.form (by rw [hok.2.2.1]; exact hN)
 rw [hok.2.2.1] at hvt
 subst hvt
 have HOK := hid hok
 have HB := hid (bits_any n hn g cap)
 have H0 := hid (show Putted w O c ct a (.slice (some ⟨g, 0, none⟩) (2 ^ n) cap) (putN true n v s 0) w from ⟨O, Step.refl _ _ _, he, ht⟩)
 have HM := hid hm
 generalize hNN : 2 ^ n = N at *
 have HNN := hid hNN
 clear he ht hok hNN hm
 go_enter Tryz.func123, Tryz.ntmps123
 go_wp2_with fail
 refine (HB.out _).mono ?_
 rintro x w1 ⟨rfl, rfl⟩
 go_wp2_with fail
 go_loopw [6, 7, 8, 11] (fun m _ _ i wr => ∃ k : Nat, k <= n /\ i = .int .i64 k /\ m = .int .i64 ((putN true n v s k).m : Int) /\ Putted w O c ct a (.slice (some ⟨g, 0, none⟩) N cap) (putN true n v s k) wr) (fun _ _ _ i _ => n - (intOf i).toNat)
 case atStart => exact ⟨0, by omega, rfl, by rw [show (putN true n v s 0).m = 1 from HM.out]; rfl, H0.out⟩
 case round =>
  clear H0
  obtain ⟨k, hk, rfl, rfl, O1, hs1, he1, ht1⟩ := hrel
  have hS := putN_ok true n v (by rw [HNN.out]; exact HOK.out) k hk
  rw [HNN.out] at hS
  have hT := putN_turns true n v s k
  by_cases hlt : k < n
  · have hmN : (putN true n v s k).m < N := Nat.lt_of_lt_of_le hS.2.2.2 (by rw [<- HNN.out]; exact Nat.pow_le_pow_right (by omega) hlt)
    have HST := hid (show putN true n v s (k + 1) = (putN true n v s k).step (bitAt v k) from rfl)
    generalize putN true n v s k = S at *
    have hb1 := bitAt_le v k
    have HCB := hid (treebit he1 ht1 hc hS.2.1 hS.2.2.1 (by omega) S.m (bitAt v k) hmN hb1)
    have hbit := and1_i64 v k (by omega)
    have HS1 := hid hs1
    generalize bitAt v k = b at *
    clear hs1 he1 ht1 hS hT
    go_wp2_with fail
    clear hbit
    refine HCB.out.mono ?_
    rintro x w2 ⟨rfl, O2, hs2, he2, ht2⟩
    have HS2 := hid hs2
    have HE2 := hid he2
    have HT2 := hid ht2
    clear hs2 he2 ht2
    go_wp2_with fail
    go_roundw
    case rel => exact ⟨k + 1, by omega, by go_num, by rw [HST.out]; unfold Tr.step Tr.at; go_num, by rw [HST.out]; exact ⟨O2, HS1.out.trans HS2.out, HE2.out, HT2.out⟩⟩
    case measure => simp [intOf]; omega
  · obtain rfl : k = n := by omega
    have HS1 := hid hs1
    have HE1 := hid he1
    have HT1 := hid ht1
    clear hs1 he1 ht1 hS hT
    go_wp2_with fail
    first | go_end0 | (simp only [Exit.inBlock, Exit.then]; refine bodyPost_ret (results_none rfl _ _ _) rfl ?_) | refine bodyPost_ret (results_none rfl _ _ _) rfl ?_
    exact ⟨rfl, O1, HS1.out, HE1.out, HT1.out⟩
end Go.Proofs.YtfpoabeihpfeiaaGreat.Rc
end
section
namespace Go.Proofs.YtfpoabeihpfeiaaGreat.Rc
open Go.RowKit
theorem info16 : (Tryz.prog.info? 133).map (fun i => (i.zero, i.size, i.bytes)) = some (some (.int .u16 0), 1, 2) := by kernel_rfl
def Newing (w : World) (O : Paint) (c N k : Nat) (wr : World) : Prop := ∃ l : List Nat, l.length = N /\ (∀ j, j < k -> l[j]? = some 1024) /\ TreeAt wr (Step.paint O w c) c (.slice (some ⟨w.heap.size, 0, none⟩) N N) l /\ Step [] w O wr (Step.paint O w c)
theorem newing_set {w : World} {O : Paint} {c N k : Nat} {wr : World} (h : Newing w O c N k wr) (hk : k < N) : Newing w O c N (k + 1) (wr.setCell ⟨w.heap.size, k, none⟩ (.int .u16 1024)) := by
 obtain ⟨l, h1, h2, h3, h4⟩ := h
 refine ⟨l.set k 1024, by simpa using h1, fun j hj => ?_, h3.set k 1024, h4.setCell (p := ⟨w.heap.size, k, none⟩) (.inr (Nat.le_refl _)) _⟩
 by_cases e : j = k
 · subst e; rw [List.getElem?_set_self (by omega)]
 · rw [List.getElem?_set_ne (fun h => e h.symm)]; exact h2 j (by omega)
theorem newing_all {w : World} {O : Paint} {c N : Nat} {wr : World} (h : Newing w O c N N wr) : TreeAt wr (Step.paint O w c) c (.slice (some ⟨w.heap.size, 0, none⟩) N N) (List.replicate N 1024) /\ Step [] w O wr (Step.paint O w c) := by
 obtain ⟨l, h1, h2, h3, h4⟩ := h
 have e : l = List.replicate N 1024 := by
  apply List.ext_getElem?
  intro j
  by_cases hj : j < N
  · rw [h2 j hj, List.getElem?_replicate, if_pos hj]
  · rw [List.getElem?_eq_none (by omega), List.getElem?_eq_none (by simp; omega)]
 rw [<- e]
 exact ⟨h3, h4⟩
theorem new_at (x : Int) (n : Nat) (hn : n <= 16) (hx : (x = n) \/ (x < 0 /\ n = 0) \/ (16 < x /\ n = 16)) (w : World) (O : Paint) (c : Nat) :
  Calls Tryz.prog 70 #[.int .i64 x] w fun y w' => y = .returned (.slice (some ⟨w.heap.size, 0, none⟩) (2 ^ n) (2 ^ n)) /\ ∃ O', Step [] w O w' O' /\ TreeAt w' O' c (.slice (some ⟨w.heap.size, 0, none⟩) (2 ^ n) (2 ^ n)) (List.replicate (2 ^ n) 1024) := by
 obtain ⟨i0, hi, hz0, hz1, hz2⟩ := info_parts info16
 have hp : 2 ^ n <= 65536 := Nat.pow_le_pow_right (n := 2) (by omega) hn
 have hmk0 := run_makeSlice_full (P := Tryz.prog) w 0 135 133 i0 (.int .u16 0) 1 Tryz.underlying135 hi hz0 hz1 .i64 .i64 (2 ^ n) (by omega) (by rw [hz2]; omega) (by unfold maxLen; omega) (Nat.zero_le _)
 obtain ⟨w1, hmk, hrow, hgr⟩ := hmk0
 have hmc : (madeCells (Value.int .u16 0).cells (2 ^ n * 1)).toList = u16s (List.replicate (2 ^ n) 0) := by
  rw [Nat.mul_one]
  show (madeCells #[.int .u16 0] (2 ^ n)).toList = _
  rw [toList_madeCells_one]
  simp [u16s]
 have H0 : Newing w O c (2 ^ n) 0 w1 := by
  refine ⟨List.replicate (2 ^ n) 0, by simp, fun j hj => by omega, ⟨?_, fun k hk => Step.paint_new (by simp [Value.ownBlock] at hk; omega)⟩, ?_⟩
  · rw [u16s_length, List.length_replicate, <- hmc]; exact hrow
  · exact ((Step.refl [] w O).grown hgr (fun k hk => by cases hk)).repaint c
 have HH := hid H0
 have hpow : (2 : Int) ^ n = ((2 ^ n : Nat) : Int) := by simp
 have hw2 : IntKind.i64.wrap ((2 : Int) ^ n) = ((2 ^ n : Nat) : Int) := by rw [hpow]; generalize 2 ^ n = N at *; exact IntWalk.i64_in _ (by omega)
 have hw1 : wrap64 ((2 : Int) ^ n) = ((2 ^ n : Nat) : Int) := by rw [<- IntWalk.i64_left]; exact hw2
 generalize hNN : 2 ^ n = N at *
 have HNN := hid hNN
 clear H0 hrow hgr hmc hpow hNN
 rcases hx with rfl | ⟨h1, rfl⟩ | ⟨h1, rfl⟩
 · as_aux_lemma =>
   go_enter Tryz.func70, Tryz.ntmps70
   go_wp2_with fail
   go_loopw [4, 12] (fun _ i wr => ∃ k : Nat, k <= N /\ i = .int .i64 k /\ Newing w O c N k wr) (fun _ i _ => N - (intOf i).toNat)
   case atStart => exact ⟨0, by omega, rfl, HH.out⟩
   case round =>
    clear HH hmk
    obtain ⟨k, hk, rfl, hne⟩ := hrel
    have hlt0 : w.heap.size < wr.heap.size := by
     obtain ⟨l, hl, _, h3, _⟩ := hne
     exact Held.lt h3 rfl
    by_cases hlt : k < N
    · have HS := hid (newing_set hne hlt)
      obtain ⟨l, hl, _, h3, _⟩ := hne
      have c1 := h3.cellAt (j := k) (by omega)
      have f1 := Held.free h3 k
      clear h3 hl
      go_wp2_with fail
      go_roundw
      case rel => exact ⟨k + 1, by omega, by go_num, HS.out⟩
      case measure => simp [intOf]; omega
    · obtain rfl : k = N := by omega
      have HA := hid (newing_all hne)
      clear hne
      go_wp2_with fail
      go_ret
      exact ⟨rfl, _, HA.out.2, HA.out.1⟩
 · as_aux_lemma =>
   obtain rfl : N = 1 := HNN.out.symm
   have hmk2 : (Instr.makeSlice 135 (.int .i64 1) (.int .i64 1)).run Tryz.prog w = .ok (.slice (some ⟨w.heap.size, 0, none⟩) 1 1) w1 := hmk
   clear hmk hw1 hw2
   have hmk := hmk2
   clear hmk2
   go_enter Tryz.func70, Tryz.ntmps70
   go_wp2_with fail
   go_loopw [4, 12] (fun _ i wr => ∃ k : Nat, k <= 1 /\ i = .int .i64 k /\ Newing w O c 1 k wr) (fun _ i _ => 1 - (intOf i).toNat)
   case atStart => exact ⟨0, by omega, rfl, HH.out⟩
   case round =>
    clear HH hmk
    obtain ⟨k, hk, rfl, hne⟩ := hrel
    have hlt0 : w.heap.size < wr.heap.size := by
     obtain ⟨l, hl, _, h3, _⟩ := hne
     exact Held.lt h3 rfl
    by_cases hlt : k < 1
    · have HS := hid (newing_set hne hlt)
      obtain ⟨l, hl, _, h3, _⟩ := hne
      have c1 := h3.cellAt (j := k) (by omega)
      have f1 := Held.free h3 k
      clear h3 hl
      go_wp2_with fail
      go_roundw
      case rel => exact ⟨k + 1, by omega, by go_num, HS.out⟩
      case measure => simp [intOf]; omega
    · obtain rfl : k = 1 := by omega
      have HA := hid (newing_all hne)
      clear hne
      go_wp2_with fail
      go_ret
      exact ⟨rfl, _, HA.out.2, HA.out.1⟩
 · as_aux_lemma =>
   have hNI : ((N : Nat) : Int) = 65536 := by rw [<- HNN.out]; rfl
   have hmk2 : (Instr.makeSlice 135 (.int .i64 65536) (.int .i64 65536)).run Tryz.prog w = .ok (.slice (some ⟨w.heap.size, 0, none⟩) N N) w1 := by
    have h9 := hmk
    rw [hNI] at h9
    exact h9
   clear hmk hw1 hw2 hNI
   have hmk := hmk2
   clear hmk2
   go_enter Tryz.func70, Tryz.ntmps70
   go_wp2_with fail
   go_loopw [4, 12] (fun _ i wr => ∃ k : Nat, k <= N /\ i = .int .i64 k /\ Newing w O c N k wr) (fun _ i _ => N - (intOf i).toNat)
   case atStart => exact ⟨0, by omega, rfl, HH.out⟩
   case round =>
    clear HH hmk
    obtain ⟨k, hk, rfl, hne⟩ := hrel
    have hlt0 : w.heap.size < wr.heap.size := by
     obtain ⟨l, hl, _, h3, _⟩ := hne
     exact Held.lt h3 rfl
    by_cases hlt : k < N
    · have HS := hid (newing_set hne hlt)
      obtain ⟨l, hl, _, h3, _⟩ := hne
      have c1 := h3.cellAt (j := k) (by omega)
      have f1 := Held.free h3 k
      clear h3 hl
      go_wp2_with fail
      go_roundw
      case rel => exact ⟨k + 1, by omega, by go_num, HS.out⟩
      case measure => simp [intOf]; omega
    · obtain rfl : k = N := by omega
      have HA := hid (newing_all hne)
      clear hne
      go_wp2_with fail
      go_ret
      exact ⟨rfl, _, HA.out.2, HA.out.1⟩
end Go.Proofs.YtfpoabeihpfeiaaGreat.Rc
end
section
namespace Go.Proofs.YtfpoabeihpfeiaaGreat.Rc
open Go.RowKit
theorem bitOf_any (v i : Nat) (hv : v < 256) (hi : i <= 7) (w : World) : Calls Tryz.prog 133 #[.int .u8 v, .int .i64 i] w fun x w' => x = .returned (.int .i64 ((bitAt v i : Nat) : Int)) /\ w = w' := by
 have hbit := and1_i64 v i (by omega)
 have hsw := shr_wrap v i (by omega)
 have hsw2 : wrap64 ((v : Int) / 2 ^ i) = (v : Int) / 2 ^ i := by rw [<- IntWalk.i64_left]; exact hsw
 generalize bitAt v i = b at *
 go_enter Tryz.func133, Tryz.ntmps133
 go_wp2
 go_ret
 exact ⟨rfl, rfl⟩
theorem likePlace_any (m c : Nat) (like : Bool) (hm : m < 256) (hc : c <= 1) (w : World) : Calls Tryz.prog 134 #[.int .i64 m, .int .i64 c, .bool like] w fun x w' => x = .returned (.int .i64 ((place m like c : Nat) : Int)) /\ w = w' := by
 have HP1 := hid (show place m true c = m + 256 + 256 * c from rfl)
 have HP0 := hid (show place m false c = m from rfl)
 cases like
 · go_enter Tryz.func134, Tryz.ntmps134
   go_wp2
   go_ret
   exact ⟨ret_num (by rw [HP0.out]), rfl⟩
 · go_enter Tryz.func134, Tryz.ntmps134
   go_wp2
   go_ret
   exact ⟨ret_num (by rw [HP1.out]; omega), rfl⟩
theorem like_m {v o N : Nat} {s : Tr} (hN : 768 <= N) (h : s.Ok N 0) {k : Nat} (hk : k < 8) : (likeN v o s k).1.m < 256 := by
 have h1 := (likeN_ok v o N hN h k (by omega)).2.2.2
 exact Nat.lt_of_lt_of_le h1 (Nat.pow_le_pow_right (n := 2) (by omega) (by omega : k + 1 <= 8))
theorem tree_putLike {w : World} {O : Paint} {c ct a N : Nat} {vt : Value} {s : Tr} (he : EncAt w O c a s.e) (ht : TreeAt w O ct vt s.l) (hc : ct ≠ c) (hok : s.Ok N 0) (hN : 768 <= N) (hN2 : N <= 65536) (hm : s.m = 1) (htn : s.e.turns <= 900000) (v o : Nat) (hv : v < 256) (ho : o < 256) :
  Calls Tryz.prog 126 #[.pointer (some ⟨a, 0, none⟩), vt, .int .u8 v, .int .u8 o] w fun x w' => x = .returned (.tuple #[]) /\ Putted w O c ct a vt (likeN v o s 8).1 w' := by
 obtain ⟨g, cap, hvt, hOg, hgl⟩ := ht.form (by rw [hok.2.2.1]; omega)
 rw [hok.2.2.1] at hvt
 subst hvt
 have HOK := hid hok
 have H0 := hid (show Putted w O c ct a (.slice (some ⟨g, 0, none⟩) N cap) (likeN v o s 0).1 w from ⟨O, Step.refl _ _ _, he, ht⟩)
 have HM := hid hm
 have hd : decide ((N : Int) < 768) = false := by rw [decide_eq_false_iff_not]; omega
 have HN := hid hN
 have HN2 := hid hN2
 have HTN := hid htn
 clear he ht hok hm hN hN2 htn
 go_enter Tryz.func126, Tryz.ntmps126
 go_wp2_with fail
 go_loopw [8, 9, 10, 11, 12, 16] (fun m li _ _ _ i wr => ∃ k : Nat, k <= 8 /\ i = .int .i64 k /\ m = .int .i64 ((likeN v o s k).1.m : Int) /\ li = .bool (likeN v o s k).2 /\ Putted w O c ct a (.slice (some ⟨g, 0, none⟩) N cap) (likeN v o s k).1 wr) (fun _ _ _ _ _ i _ => 8 - (intOf i).toNat)
 case atStart => exact ⟨0, by omega, rfl, by rw [show (likeN v o s 0).1.m = 1 from HM.out]; rfl, rfl, H0.out⟩
 case round =>
  clear H0
  obtain ⟨k, hk, rfl, rfl, rfl, O1, hs1, he1, ht1⟩ := hrel
  have hS := likeN_ok v o N HN.out HOK.out k hk
  have hT := likeN_turns v o s k
  by_cases hlt : k < 8
  · have hm2 := like_m (v := v) (o := o) HN.out HOK.out hlt
    have hpl := place_lt (like := (likeN v o s k).2) hS.2.2.2 hlt (bitAt_le o (7 - k))
    have HST := hid (show likeN v o s (k + 1) = ((likeN v o s k).1.at (place (likeN v o s k).1.m (likeN v o s k).2 (bitAt o (7 - k))) (bitAt v (7 - k)), (likeN v o s k).2 && (bitAt v (7 - k) == bitAt o (7 - k))) from rfl)
    generalize (likeN v o s k).2 = li at *
    generalize (likeN v o s k).1 = S at *
    have hb1 := bitAt_le v (7 - k)
    have hb2 := bitAt_le o (7 - k)
    have HB1 := hid (bitOf_any v (7 - k) hv (by omega))
    have HB2 := hid (bitOf_any o (7 - k) ho (by omega))
    have HLP := hid (likePlace_any S.m (bitAt o (7 - k)) li hm2 hb2)
    have HCB := hid (treebit he1 ht1 hc hS.2.1 hS.2.2.1 (by have := HTN.out; omega) (place S.m li (bitAt o (7 - k))) (bitAt v (7 - k)) (by have := HN.out; omega) hb1)
    have HS1 := hid hs1
    have HI := hid (show (7 : Int) - (k : Int) = ((7 - k : Nat) : Int) by omega)
    generalize bitAt v (7 - k) = b at *
    generalize bitAt o (7 - k) = cc at *
    have hplN : place S.m li cc < N := by have := HN.out; omega
    generalize place S.m li cc = pl at *
    clear hpl
    clear hs1 he1 ht1 hS hT
    go_wp2_with fail
    rw [HI.out]
    refine (HB1.out _).mono ?_
    rintro x w2 ⟨rfl, rfl⟩
    go_wp2_with fail
    rw [HI.out]
    refine (HB2.out _).mono ?_
    rintro x w2 ⟨rfl, rfl⟩
    go_wp2_with fail
    refine (HLP.out _).mono ?_
    rintro x w2 ⟨rfl, rfl⟩
    go_wp2_with fail
    refine HCB.out.mono ?_
    rintro x w2 ⟨rfl, O2, hs2, he2, ht2⟩
    have HS2 := hid hs2
    have HE2 := hid he2
    have HT2 := hid ht2
    clear hs2 he2 ht2
    cases li
    · go_wp2_with fail
      go_roundw
      case rel => exact ⟨k + 1, by omega, by go_num, by rw [HST.out]; unfold Tr.at; go_num, by rw [HST.out]; rfl, by rw [HST.out]; exact ⟨O2, HS1.out.trans HS2.out, HE2.out, HT2.out⟩⟩
      case measure => simp [intOf]; omega
    · have hbc : ((b : Int) == (cc : Int)) = (b == cc) := by rw [Bool.eq_iff_iff]; simp only [beq_iff_eq]; omega
      have HBC := hid hbc
      clear hbc
      go_wp2_with fail
      go_roundw
      case rel => exact ⟨k + 1, by omega, by go_num, by rw [HST.out]; unfold Tr.at; go_num, by rw [HST.out]; first | rfl | exact congrArg Value.bool (by rw [HBC.out]; simp) | exact congrArg Value.bool (by simp), by rw [HST.out]; exact ⟨O2, HS1.out.trans HS2.out, HE2.out, HT2.out⟩⟩
      case measure => simp [intOf]; omega
  · obtain rfl : k = 8 := by omega
    have HS1 := hid hs1
    have HE1 := hid he1
    have HT1 := hid ht1
    clear hs1 he1 ht1 hS hT
    go_wp2_with fail
    first | go_end0 | (simp only [Exit.inBlock, Exit.then]; refine bodyPost_ret (results_none rfl _ _ _) rfl ?_) | refine bodyPost_ret (results_none rfl _ _ _) rfl ?_
    exact ⟨rfl, O1, HS1.out, HE1.out, HT1.out⟩
end Go.Proofs.YtfpoabeihpfeiaaGreat.Rc
end
section
namespace Go.Proofs.YtfpoabeihpfeiaaGreat.Rc
open Go.RowKit
structure Td where
 d : Dec
 l : List Nat
 m : Nat
 v : Nat
def Td.bit (s : Td) (q : Nat) : Nat := s.d.bitOf (s.l.getD q 0)
def Td.at (s : Td) (q : Nat) (v : Nat) : Td := ⟨s.d.getBit (s.l.getD q 0), s.l.set q (learn (s.l.getD q 0) (s.bit q)), 2 * s.m + s.bit q, v⟩
def getN (back : Bool) (s : Td) : Nat -> Td
 | 0 => s
 | i + 1 => (getN back s i).at (getN back s i).m (if back then (getN back s i).v + (getN back s i).bit (getN back s i).m * 2 ^ i else 2 * (getN back s i).v + (getN back s i).bit (getN back s i).m)
def Td.Ok (s : Td) (N i : Nat) : Prop := FineD s.d /\ Probs s.l /\ s.l.length = N /\ s.m < 2 ^ (i + 1) /\ s.v < 2 ^ i
theorem bit_le (s : Td) (q : Nat) : s.bit q <= 1 := bitOf_le _ _
theorem td_at {s : Td} {N i q v : Nat} (h : s.Ok N i) (hq : q < N) (hv : v < 2 ^ (i + 1)) : (s.at q v).Ok N (i + 1) := by
 obtain ⟨h1, h2, h3, h4, h5⟩ := h
 have hp := probs_get h2 (by omega : q < s.l.length)
 have hb := bit_le s q
 refine ⟨fine_getBit h1 (by omega) (by omega), probs_set h2 _ (learn_in hp.1 hp.2), by simp [Td.at, h3], ?_, hv⟩
 show 2 * s.m + s.bit q < 2 ^ (i + 1 + 1)
 rw [Nat.pow_succ]; omega
theorem getN_ok (back : Bool) (n : Nat) {s : Td} (h : s.Ok (2 ^ n) 0) : ∀ i, i <= n -> (getN back s i).Ok (2 ^ n) i := by
 intro i
 induction i with
 | zero => intro _; exact h
 | succ i ih =>
  intro hi
  have h1 := ih (by omega)
  have hm : (getN back s i).m < 2 ^ n := Nat.lt_of_lt_of_le h1.2.2.2.1 (Nat.pow_le_pow_right (by omega) hi)
  have hb := bit_le (getN back s i) (getN back s i).m
  have hv := h1.2.2.2.2
  refine td_at h1 hm ?_
  rw [Nat.pow_succ]
  split
  · have : (getN back s i).bit (getN back s i).m * 2 ^ i <= 1 * 2 ^ i := Nat.mul_le_mul_right _ hb
    omega
  · omega
def Gotten (w : World) (O : Paint) (c ct a tot : Nat) (v : Value) (s : Td) (wr : World) : Prop := Step [c, ct] w O wr O /\ DecAt wr O c a s.d tot /\ TreeAt wr O ct v s.l
theorem treeget {w : World} {O : Paint} {c ct a tot g N cap : Nat} {s : Td} (he : DecAt w O c a s.d tot) (ht : TreeAt w O ct (.slice (some ⟨g, 0, none⟩) N cap) s.l) (hc : ct ≠ c) (hp : Probs s.l) (hl : s.l.length = N) (q v : Nat) (hq : q < N) :
  Calls Tryz.prog 144 #[.pointer (some ⟨a, 0, none⟩), .pointer (some ⟨g, q, none⟩)] w fun x w' => x = .returned (.int .i64 ((s.bit q : Nat) : Int)) /\ Gotten w O c ct a tot (.slice (some ⟨g, 0, none⟩) N cap) (s.at q v) w' := by
 have hpq := probs_get hp (show q < s.l.length by omega)
 have hO : O g = ct := ht.paint g rfl
 refine (decbit he (ht.cellAt (by omega)) (Held.free ht q) (by show O g ≠ c; rw [hO]; exact hc) (by omega) (by omega)).mono ?_
 rintro x w' ⟨hx, hs, he'⟩
 have hst := Step.store w O ⟨g, q, none⟩ (.int .u16 ((learn (s.l.getD q 0) (s.bit q) : Nat) : Int))
 simp only [hO] at hst
 refine ⟨hx, (hst.mono (by simp)).trans (hs.mono (by simp)), he', ?_⟩
 exact (ht.set q _).step hs (by simpa using hc)
theorem tree_get {w : World} {O : Paint} {c ct a tot : Nat} {vt : Value} {s : Td} {n : Nat} (he : DecAt w O c a s.d tot) (ht : TreeAt w O ct vt s.l) (hc : ct ≠ c) (hok : s.Ok (2 ^ n) 0) (hm : s.m = 1) (hn : n <= 16) :
  Calls Tryz.prog 147 #[vt, .pointer (some ⟨a, 0, none⟩)] w fun x w' => x = .returned (.int .i64 (((getN false s n).v : Nat) : Int)) /\ Gotten w O c ct a tot vt (getN false s n) w' := by
 have hp : 2 ^ n <= 65536 := Nat.pow_le_pow_right (n := 2) (by omega) hn
 have hN : 0 < 2 ^ n := Nat.two_pow_pos n
 have hv0 : s.v = 0 := by have := hok.2.2.2.2; simp at this; exact this
 obtain ⟨g, cap, hvt, hOg, hgl⟩ := ht.form (by rw [hok.2.2.1]; exact hN)
 rw [hok.2.2.1] at hvt
 subst hvt
 have HOK := hid hok
 have HB := hid (bits_any n hn g cap)
 have H0 := hid (show Gotten w O c ct a tot (.slice (some ⟨g, 0, none⟩) (2 ^ n) cap) (getN false s 0) w from ⟨Step.refl _ _ _, he, ht⟩)
 have HM := hid hm
 have HV := hid hv0
 generalize hNN : 2 ^ n = N at *
 have HNN := hid hNN
 have HP := hid hp
 clear he ht hok hNN hm hv0 hp
 go_enter Tryz.func147, Tryz.ntmps147
 go_wp2_with fail
 refine (HB.out _).mono ?_
 rintro x w1 ⟨rfl, rfl⟩
 go_wp2_with fail
 go_loopw [5, 6, 7, 10] (fun u m _ i wr => ∃ k : Nat, k <= n /\ i = .int .i64 k /\ u = .int .i64 ((getN false s k).v : Int) /\ m = .int .i64 ((getN false s k).m : Int) /\ Gotten w O c ct a tot (.slice (some ⟨g, 0, none⟩) N cap) (getN false s k) wr) (fun _ _ _ i _ => n - (intOf i).toNat)
 case atStart => exact ⟨0, by omega, rfl, by rw [show (getN false s 0).v = 0 from HV.out]; rfl, by rw [show (getN false s 0).m = 1 from HM.out]; rfl, H0.out⟩
 case round =>
  clear H0
  obtain ⟨k, hk, rfl, rfl, rfl, hs1, he1, ht1⟩ := hrel
  have hS := getN_ok false n (by rw [HNN.out]; exact HOK.out) k hk
  rw [HNN.out] at hS
  by_cases hlt : k < n
  · have hmN : (getN false s k).m < N := Nat.lt_of_lt_of_le hS.2.2.2.1 (by rw [<- HNN.out]; exact Nat.pow_le_pow_right (by omega) hlt)
    have hvN : (getN false s k).v < N := Nat.lt_of_lt_of_le hS.2.2.2.2 (by rw [<- HNN.out]; exact Nat.pow_le_pow_right (by omega) (by omega))
    have hNs : N < 100000 := by have := HP.out; omega
    have HST := hid (show getN false s (k + 1) = (getN false s k).at (getN false s k).m (2 * (getN false s k).v + (getN false s k).bit (getN false s k).m) from rfl)
    generalize getN false s k = S at *
    have hb1 := bit_le S S.m
    have HCB := hid (treeget he1 ht1 hc hS.2.1 hS.2.2.1 S.m (2 * S.v + S.bit S.m) hmN)
    have HS1 := hid hs1
    have HAM := hid (show (S.at S.m (2 * S.v + S.bit S.m)).m = 2 * S.m + S.bit S.m from rfl)
    have HAV := hid (show (S.at S.m (2 * S.v + S.bit S.m)).v = 2 * S.v + S.bit S.m from rfl)
    generalize S.at S.m (2 * S.v + S.bit S.m) = S2 at *
    generalize S.bit S.m = b at *
    clear hs1 he1 ht1 hS
    go_wp2_with fail
    refine HCB.out.mono ?_
    rintro x w2 ⟨rfl, hs2, he2, ht2⟩
    have HS2 := hid hs2
    have HE2 := hid he2
    have HT2 := hid ht2
    clear hs2 he2 ht2
    go_wp2_with fail
    go_roundw
    case rel => exact ⟨k + 1, by omega, by go_num, by rw [HST.out, HAV.out]; go_num, by rw [HST.out, HAM.out]; go_num, by rw [HST.out]; exact ⟨HS1.out.trans HS2.out, HE2.out, HT2.out⟩⟩
    case measure => simp [intOf]; omega
  · obtain rfl : k = n := by omega
    have HS1 := hid hs1
    have HE1 := hid he1
    have HT1 := hid ht1
    clear hs1 he1 ht1 hS
    go_wp2_with fail
    go_ret
    exact ⟨rfl, HS1.out, HE1.out, HT1.out⟩
end Go.Proofs.YtfpoabeihpfeiaaGreat.Rc
end
section
namespace Go.Proofs.YtfpoabeihpfeiaaGreat.Rc
open Go.RowKit
theorem shl_bit (b k : Nat) (hb : b <= 1) (hk : k < 16) : wrap64 ((b : Int) * 2 ^ k) = ((b * 2 ^ k : Nat) : Int) := by
 have h1 : 2 ^ k <= 2 ^ 15 := Nat.pow_le_pow_right (n := 2) (by omega) (by omega)
 have h2 : b * 2 ^ k <= 1 * 2 ^ k := Nat.mul_le_mul_right _ hb
 have h3 : ((b : Int) * 2 ^ k) = ((b * 2 ^ k : Nat) : Int) := by simp
 rw [h3, <- IntWalk.i64_left]
 generalize b * 2 ^ k = q at *
 exact IntWalk.i64_in _ (by omega)
theorem shl_sum (v b k : Nat) (hv : v <= 100000) (hb : b <= 1) (hk : k < 16) : wrap64 ((v : Int) + (b : Int) * 2 ^ k) = ((v + b * 2 ^ k : Nat) : Int) := by
 have h1 : 2 ^ k <= 2 ^ 15 := Nat.pow_le_pow_right (n := 2) (by omega) (by omega)
 have h2 : b * 2 ^ k <= 1 * 2 ^ k := Nat.mul_le_mul_right _ hb
 have h3 : ((b : Int) * 2 ^ k) = ((b * 2 ^ k : Nat) : Int) := by simp
 rw [h3, <- IntWalk.i64_left]
 generalize b * 2 ^ k = q at *
 rw [IntWalk.i64_in _ (by omega)]
 omega
theorem tree_getBack {w : World} {O : Paint} {c ct a tot : Nat} {vt : Value} {s : Td} {n : Nat} (he : DecAt w O c a s.d tot) (ht : TreeAt w O ct vt s.l) (hc : ct ≠ c) (hok : s.Ok (2 ^ n) 0) (hm : s.m = 1) (hn : n <= 16) :
  Calls Tryz.prog 143 #[vt, .pointer (some ⟨a, 0, none⟩)] w fun x w' => x = .returned (.int .i64 (((getN true s n).v : Nat) : Int)) /\ Gotten w O c ct a tot vt (getN true s n) w' := by
 have hp : 2 ^ n <= 65536 := Nat.pow_le_pow_right (n := 2) (by omega) hn
 have hN : 0 < 2 ^ n := Nat.two_pow_pos n
 have hv0 : s.v = 0 := by have := hok.2.2.2.2; simp at this; exact this
 obtain ⟨g, cap, hvt, hOg, hgl⟩ := ht.form (by rw [hok.2.2.1]; exact hN)
 rw [hok.2.2.1] at hvt
 subst hvt
 have HOK := hid hok
 have HB := hid (bits_any n hn g cap)
 have H0 := hid (show Gotten w O c ct a tot (.slice (some ⟨g, 0, none⟩) (2 ^ n) cap) (getN true s 0) w from ⟨Step.refl _ _ _, he, ht⟩)
 have HM := hid hm
 have HV := hid hv0
 generalize hNN : 2 ^ n = N at *
 have HNN := hid hNN
 have HP := hid hp
 clear he ht hok hNN hm hv0 hp
 go_enter Tryz.func143, Tryz.ntmps143
 go_wp2_with fail
 refine (HB.out _).mono ?_
 rintro x w1 ⟨rfl, rfl⟩
 go_wp2_with fail
 go_loopw [5, 6, 7, 8, 11] (fun u m _ _ i wr => ∃ k : Nat, k <= n /\ i = .int .i64 k /\ u = .int .i64 ((getN true s k).v : Int) /\ m = .int .i64 ((getN true s k).m : Int) /\ Gotten w O c ct a tot (.slice (some ⟨g, 0, none⟩) N cap) (getN true s k) wr) (fun _ _ _ _ i _ => n - (intOf i).toNat)
 case atStart => exact ⟨0, by omega, rfl, by rw [show (getN true s 0).v = 0 from HV.out]; rfl, by rw [show (getN true s 0).m = 1 from HM.out]; rfl, H0.out⟩
 case round =>
  clear H0
  obtain ⟨k, hk, rfl, rfl, rfl, hs1, he1, ht1⟩ := hrel
  have hS := getN_ok true n (by rw [HNN.out]; exact HOK.out) k hk
  rw [HNN.out] at hS
  by_cases hlt : k < n
  · have hmN : (getN true s k).m < N := Nat.lt_of_lt_of_le hS.2.2.2.1 (by rw [<- HNN.out]; exact Nat.pow_le_pow_right (by omega) hlt)
    have hvN : (getN true s k).v < N := Nat.lt_of_lt_of_le hS.2.2.2.2 (by rw [<- HNN.out]; exact Nat.pow_le_pow_right (by omega) (by omega))
    have hNs : N < 100000 := by have := HP.out; omega
    have HST := hid (show getN true s (k + 1) = (getN true s k).at (getN true s k).m ((getN true s k).v + (getN true s k).bit (getN true s k).m * 2 ^ k) from rfl)
    generalize getN true s k = S at *
    have hb1 := bit_le S S.m
    have HCB := hid (treeget he1 ht1 hc hS.2.1 hS.2.2.1 S.m (S.v + S.bit S.m * 2 ^ k) hmN)
    have HS1 := hid hs1
    have HAM := hid (show (S.at S.m (S.v + S.bit S.m * 2 ^ k)).m = 2 * S.m + S.bit S.m from rfl)
    have HAV := hid (show (S.at S.m (S.v + S.bit S.m * 2 ^ k)).v = S.v + S.bit S.m * 2 ^ k from rfl)
    generalize S.at S.m (S.v + S.bit S.m * 2 ^ k) = S2 at *
    generalize S.bit S.m = b at *
    have HSH2 := hid (show b * 2 ^ k <= 32768 by
     have h1 : 2 ^ k <= 2 ^ 15 := Nat.pow_le_pow_right (n := 2) (by omega) (by omega)
     have h2 : b * 2 ^ k <= 1 * 2 ^ k := Nat.mul_le_mul_right _ hb1
     omega)
    clear hs1 he1 ht1 hS
    go_wp2_with fail
    refine HCB.out.mono ?_
    rintro x w2 ⟨rfl, hs2, he2, ht2⟩
    have HS2 := hid hs2
    have HE2 := hid he2
    have HT2 := hid ht2
    clear hs2 he2 ht2
    have hsh := shl_bit b k hb1 (by omega)
    have hsh2 := HSH2.out
    go_wp2_with fail
    go_roundw
    case rel => exact ⟨k + 1, by omega, by go_num, by rw [HST.out, HAV.out]; exact congrArg (Value.int .i64) (shl_sum S.v b k (by omega) hb1 (by omega)), by rw [HST.out, HAM.out]; go_num, by rw [HST.out]; exact ⟨HS1.out.trans HS2.out, HE2.out, HT2.out⟩⟩
    case measure => simp [intOf]; omega
  · obtain rfl : k = n := by omega
    have HS1 := hid hs1
    have HE1 := hid he1
    have HT1 := hid ht1
    clear hs1 he1 ht1 hS
    go_wp2_with fail
    go_ret
    exact ⟨rfl, HS1.out, HE1.out, HT1.out⟩
def gotLike (o : Nat) (s : Td) : Nat -> Td × Bool
 | 0 => (s, true)
 | k + 1 => ((gotLike o s k).1.at (place (gotLike o s k).1.m (gotLike o s k).2 (bitAt o (7 - k))) (gotLike o s k).1.v, (gotLike o s k).2 && ((gotLike o s k).1.bit (place (gotLike o s k).1.m (gotLike o s k).2 (bitAt o (7 - k))) == bitAt o (7 - k)))
theorem gotLike_ok (o N : Nat) (hN : 768 <= N) {s : Td} (h : s.Ok N 0) : ∀ k, k <= 8 -> (gotLike o s k).1.Ok N k := by
 intro k
 induction k with
 | zero => intro _; exact h
 | succ k ih =>
  intro hk
  have h1 := ih (by omega)
  have hp := place_lt (like := (gotLike o s k).2) h1.2.2.2.1 (by omega : k < 8) (bitAt_le o (7 - k))
  exact td_at h1 (by omega) (Nat.lt_of_lt_of_le h1.2.2.2.2 (Nat.pow_le_pow_right (by omega) (by omega)))
theorem gotLike_m {o N : Nat} {s : Td} (hN : 768 <= N) (h : s.Ok N 0) {k : Nat} (hk : k < 8) : (gotLike o s k).1.m < 256 := by
 have h1 := (gotLike_ok o N hN h k (by omega)).2.2.2.1
 exact Nat.lt_of_lt_of_le h1 (Nat.pow_le_pow_right (n := 2) (by omega) (by omega : k + 1 <= 8))
theorem tree_getLike {w : World} {O : Paint} {c ct a tot N : Nat} {vt : Value} {s : Td} (he : DecAt w O c a s.d tot) (ht : TreeAt w O ct vt s.l) (hc : ct ≠ c) (hok : s.Ok N 0) (hN : 768 <= N) (hN2 : N <= 65536) (hm : s.m = 1) (o : Nat) (ho : o < 256) :
  Calls Tryz.prog 146 #[.pointer (some ⟨a, 0, none⟩), vt, .int .u8 o] w fun x w' => x = .returned (.int .u8 (((gotLike o s 8).1.m % 256 : Nat) : Int)) /\ Gotten w O c ct a tot vt (gotLike o s 8).1 w' := by
 obtain ⟨g, cap, hvt, hOg, hgl⟩ := ht.form (by rw [hok.2.2.1]; omega)
 rw [hok.2.2.1] at hvt
 subst hvt
 have HOK := hid hok
 have H0 := hid (show Gotten w O c ct a tot (.slice (some ⟨g, 0, none⟩) N cap) (gotLike o s 0).1 w from ⟨Step.refl _ _ _, he, ht⟩)
 have HM := hid hm
 have hd : decide ((N : Int) < 768) = false := by rw [decide_eq_false_iff_not]; omega
 have HN := hid hN
 have HN2 := hid hN2
 clear he ht hok hm hN hN2
 go_enter Tryz.func146, Tryz.ntmps146
 go_wp2_with fail
 clear hd
 go_loopw [7, 8, 9, 10, 11, 15] (fun m like _ _ _ i wr => ∃ k : Nat, k <= 8 /\ i = .int .i64 k /\ m = .int .i64 ((gotLike o s k).1.m : Int) /\ like = .bool (gotLike o s k).2 /\ Gotten w O c ct a tot (.slice (some ⟨g, 0, none⟩) N cap) (gotLike o s k).1 wr) (fun _ _ _ _ _ i _ => 8 - (intOf i).toNat)
 case atStart => exact ⟨0, by omega, rfl, by rw [show (gotLike o s 0).1.m = 1 from HM.out]; rfl, rfl, H0.out⟩
 case round =>
  clear H0
  obtain ⟨k, hk, rfl, rfl, rfl, hs1, he1, ht1⟩ := hrel
  have hS := gotLike_ok o N HN.out HOK.out k hk
  by_cases hlt : k < 8
  · have hm2 := gotLike_m (o := o) HN.out HOK.out hlt
    have hpl := place_lt (like := (gotLike o s k).2) hS.2.2.2.1 hlt (bitAt_le o (7 - k))
    have HST := hid (show gotLike o s (k + 1) = ((gotLike o s k).1.at (place (gotLike o s k).1.m (gotLike o s k).2 (bitAt o (7 - k))) (gotLike o s k).1.v, (gotLike o s k).2 && ((gotLike o s k).1.bit (place (gotLike o s k).1.m (gotLike o s k).2 (bitAt o (7 - k))) == bitAt o (7 - k))) from rfl)
    generalize (gotLike o s k).2 = li at *
    generalize (gotLike o s k).1 = S at *
    have hb2 := bitAt_le o (7 - k)
    have HB2 := hid (bitOf_any o (7 - k) ho (by omega))
    have HLP := hid (likePlace_any S.m (bitAt o (7 - k)) li hm2 hb2)
    have HCB := hid (treeget he1 ht1 hc hS.2.1 hS.2.2.1 (place S.m li (bitAt o (7 - k))) S.v (by have := HN.out; omega))
    have hb1 := bit_le S (place S.m li (bitAt o (7 - k)))
    have HS1 := hid hs1
    have HI := hid (show (7 : Int) - (k : Int) = ((7 - k : Nat) : Int) by omega)
    have HAM := hid (show (S.at (place S.m li (bitAt o (7 - k))) S.v).m = 2 * S.m + S.bit (place S.m li (bitAt o (7 - k))) from rfl)
    generalize bitAt o (7 - k) = cc at *
    have hplN : place S.m li cc < N := by have := HN.out; omega
    generalize place S.m li cc = pl at *
    generalize S.at pl S.v = S2 at *
    generalize S.bit pl = b at *
    clear hpl
    clear hs1 he1 ht1 hS
    go_wp2_with fail
    rw [HI.out]
    refine (HB2.out _).mono ?_
    rintro x w2 ⟨rfl, rfl⟩
    go_wp2_with fail
    refine (HLP.out _).mono ?_
    rintro x w2 ⟨rfl, rfl⟩
    go_wp2_with fail
    refine HCB.out.mono ?_
    rintro x w2 ⟨rfl, hs2, he2, ht2⟩
    have HS2 := hid hs2
    have HE2 := hid he2
    have HT2 := hid ht2
    clear hs2 he2 ht2
    cases li
    · go_wp2_with fail
      go_roundw
      case rel => exact ⟨k + 1, by omega, by go_num, by rw [HST.out]; show _ = Value.int .i64 S2.m; rw [HAM.out]; go_num, by rw [HST.out]; rfl, by rw [HST.out]; exact ⟨HS1.out.trans HS2.out, HE2.out, HT2.out⟩⟩
      case measure => simp [intOf]; omega
    · have hbc : ((b : Int) == (cc : Int)) = (b == cc) := by rw [Bool.eq_iff_iff]; simp only [beq_iff_eq]; omega
      have HBC := hid hbc
      clear hbc
      go_wp2_with fail
      go_roundw
      case rel => exact ⟨k + 1, by omega, by go_num, by rw [HST.out]; show _ = Value.int .i64 S2.m; rw [HAM.out]; go_num, by rw [HST.out]; first | rfl | exact congrArg Value.bool (by rw [HBC.out]; simp) | exact congrArg Value.bool (by simp), by rw [HST.out]; exact ⟨HS1.out.trans HS2.out, HE2.out, HT2.out⟩⟩
      case measure => simp [intOf]; omega
  · obtain rfl : k = 8 := by omega
    have HS1 := hid hs1
    have HE1 := hid he1
    have HT1 := hid ht1
    have hmb : (gotLike o s 8).1.m < 512 := hS.2.2.2.1
    clear hs1 he1 ht1 hS
    have hw8 : IntKind.u8.wrap ((gotLike o s 8).1.m : Int) = (((gotLike o s 8).1.m % 256 : Nat) : Int) := by rw [IntKind.wrap_u8]; omega
    go_wp2_with fail
    go_ret
    exact ⟨ret_num (by omega), HS1.out, HE1.out, HT1.out⟩
end Go.Proofs.YtfpoabeihpfeiaaGreat.Rc
end
section
namespace Go.Proofs.YtfpoabeihpfeiaaGreat.Rc
theorem follow_at {s : Tr} {sd : Td} {N i q b v F T : Nat} {more : List UInt8} (hok : s.Ok N i) (hq : q < N) (hb : b <= 1) (hl : sd.l = s.l) (hm : sd.m = s.m) (hf : Follows sd.d s.e F T more) (ha : Ahead (s.at q b).e F T) :
  sd.bit q = b /\ (sd.at q v).l = (s.at q b).l /\ (sd.at q v).m = (s.at q b).m /\ Follows (sd.at q v).d (s.at q b).e F T more := by
 have hp := probs_get hok.2.1 (show q < s.l.length by rw [hok.2.2.1]; exact hq)
 obtain ⟨h1, h2⟩ := follows_bit hok.1 (show s.l.getD q 0 <= 2047 by omega) hb hf ha
 have hbit : sd.bit q = b := by show sd.d.bitOf (sd.l.getD q 0) = b; rw [hl]; exact h1
 refine ⟨hbit, ?_, ?_, ?_⟩
 · show sd.l.set q (learn (sd.l.getD q 0) (sd.bit q)) = s.l.set q (learn (s.l.getD q 0) b)
   rw [hbit, hl]
 · show 2 * sd.m + sd.bit q = 2 * s.m + b
   rw [hbit, hm]
 · show Follows (sd.d.getBit (sd.l.getD q 0)) _ F T more
   rw [hl]; exact h2
def gotV (back : Bool) (n v i : Nat) : Nat := if back then v % 2 ^ i else v / 2 ^ (n - i)
theorem gotV_step (back : Bool) (n v i : Nat) (hi : i < n) :
  (if back then gotV back n v i + (if back then bitAt v i else bitAt v (n - 1 - i)) * 2 ^ i else 2 * gotV back n v i + (if back then bitAt v i else bitAt v (n - 1 - i))) = gotV back n v (i + 1) := by
 cases back
 · simp only [gotV, Bool.false_eq_true, if_false]
   unfold bitAt
   have e : n - i = (n - (i + 1)) + 1 := by omega
   have e2 : n - 1 - i = n - (i + 1) := by omega
   rw [e, e2, Nat.pow_succ, <- Nat.div_div_eq_div_mul]
   omega
 · simp only [gotV, if_true]
   unfold bitAt
   rw [Nat.mod_pow_succ, Nat.mul_comm]
theorem likeN_ahead {v o N F T : Nat} {s : Tr} (hN : 768 <= N) (hs : s.Ok N 0) (h : Ahead (likeN v o s 8).1.e F T) : ∀ d i, i + d = 8 -> Ahead (likeN v o s i).1.e F T := by
 intro d
 induction d with
 | zero => intro i hi; rw [Nat.add_zero] at hi; rw [hi]; exact h
 | succ d ih =>
  intro i hi
  have h1 := ih (i + 1) (by omega)
  have hok := likeN_ok v o N hN hs i (by omega)
  have hpl := place_lt (like := (likeN v o s i).2) hok.2.2.2 (show i < 8 by omega) (bitAt_le o (7 - i))
  have hp := probs_get hok.2.1 (show place (likeN v o s i).1.m (likeN v o s i).2 (bitAt o (7 - i)) < (likeN v o s i).1.l.length by rw [hok.2.2.1]; omega)
  exact ahead_bit hok.1 (show (likeN v o s i).1.l.getD (place (likeN v o s i).1.m (likeN v o s i).2 (bitAt o (7 - i))) 0 <= 2047 by omega) h1
theorem follow_likeN {v o N F T : Nat} {s : Tr} {sd : Td} {more : List UInt8} (hN : 768 <= N) (hs : s.Ok N 0) (h : Ahead (likeN v o s 8).1.e F T) (hl : sd.l = s.l) (hm : sd.m = s.m) (hf : Follows sd.d s.e F T more) :
  ∀ i, i <= 8 -> (gotLike o sd i).1.l = (likeN v o s i).1.l /\ (gotLike o sd i).1.m = (likeN v o s i).1.m /\ (gotLike o sd i).2 = (likeN v o s i).2 /\ Follows (gotLike o sd i).1.d (likeN v o s i).1.e F T more := by
 intro i
 induction i with
 | zero => intro _; exact ⟨hl, hm, rfl, hf⟩
 | succ i ih =>
  intro hi
  obtain ⟨h1, h2, h3, h4⟩ := ih (by omega)
  have hok := likeN_ok v o N hN hs i (by omega)
  have hpl := place_lt (like := (likeN v o s i).2) hok.2.2.2 (show i < 8 by omega) (bitAt_le o (7 - i))
  have ha := likeN_ahead hN hs h (8 - (i + 1)) (i + 1) (by omega)
  obtain ⟨k1, k2, k3, k4⟩ := follow_at (v := (gotLike o sd i).1.v) hok (show place (likeN v o s i).1.m (likeN v o s i).2 (bitAt o (7 - i)) < N by omega) (bitAt_le v (7 - i)) h1 h2 h4 ha
  have hpe : place (gotLike o sd i).1.m (gotLike o sd i).2 (bitAt o (7 - i)) = place (likeN v o s i).1.m (likeN v o s i).2 (bitAt o (7 - i)) := by rw [h2, h3]
  refine ⟨?_, ?_, ?_, ?_⟩
  · show ((gotLike o sd i).1.at (place (gotLike o sd i).1.m (gotLike o sd i).2 (bitAt o (7 - i))) _).l = _
    rw [hpe]; exact k2
  · show ((gotLike o sd i).1.at (place (gotLike o sd i).1.m (gotLike o sd i).2 (bitAt o (7 - i))) _).m = _
    rw [hpe]; exact k3
  · show ((gotLike o sd i).2 && ((gotLike o sd i).1.bit (place (gotLike o sd i).1.m (gotLike o sd i).2 (bitAt o (7 - i))) == bitAt o (7 - i))) = _
    rw [hpe, k1, h3]; rfl
  · show Follows ((gotLike o sd i).1.at (place (gotLike o sd i).1.m (gotLike o sd i).2 (bitAt o (7 - i))) _).d _ F T more
    rw [hpe]; exact k4
theorem likeN_m {v o : Nat} {s : Tr} (hv : v < 256) (hm : s.m = 1) : ∀ k, k <= 8 -> (likeN v o s k).1.m = 2 ^ k + v / 2 ^ (8 - k) := by
 intro k
 induction k with
 | zero => intro _; show s.m = _; rw [hm]; simp; omega
 | succ k ih =>
  intro hk
  show 2 * (likeN v o s k).1.m + bitAt v (7 - k) = _
  rw [ih (by omega)]
  unfold bitAt
  have e : 8 - k = (8 - (k + 1)) + 1 := by omega
  have e2 : 7 - k = 8 - (k + 1) := by omega
  rw [e, e2, Nat.pow_succ, Nat.pow_succ, <- Nat.div_div_eq_div_mul]
  omega
structure Bk where
 e : Enc
 a : List Nat
 b : List Nat
 c : List Nat
def Bk.s1 (s : Bk) (n v : Nat) : Tr := putN false n v ⟨s.e, s.a, 1⟩ n
def Bk.s2 (s : Bk) (n v : Nat) : Tr := putN true n v ⟨(s.s1 n v).e, s.b, 1⟩ n
def Bk.s3 (s : Bk) (n v x y : Nat) : Tr := (likeN x y ⟨(s.s2 n v).e, s.c, 1⟩ 8).1
def Bk.step (s : Bk) (n x y : Nat) : Bk := ⟨(s.s3 n (x % 2 ^ n) x y).e, (s.s1 n (x % 2 ^ n)).l, (s.s2 n (x % 2 ^ n)).l, (s.s3 n (x % 2 ^ n) x y).l⟩
def bkN (n : Nat) (f : Nat -> Nat × Nat) : Nat -> Bk
 | 0 => ⟨Enc.start, List.replicate (2 ^ n) 1024, List.replicate (2 ^ n) 1024, List.replicate 1024 1024⟩
 | k + 1 => (bkN n f k).step n (f k).1 (f k).2
def Bk.Ok (s : Bk) (n : Nat) : Prop := Fine s.e /\ (Probs s.a /\ s.a.length = 2 ^ n) /\ (Probs s.b /\ s.b.length = 2 ^ n) /\ (Probs s.c /\ s.c.length = 1024)
end Go.Proofs.YtfpoabeihpfeiaaGreat.Rc
end
section
namespace Go.Proofs.YtfpoabeihpfeiaaGreat.Rc
open Go.RowKit
theorem putN_okM (back : Bool) (n v : Nat) {s : Tr} {M : Nat} (h : s.Ok M 0) (hM : 2 ^ n <= M) : ∀ i, i <= n -> (putN back n v s i).Ok M i := by
 intro i
 induction i with
 | zero => intro _; exact h
 | succ i ih =>
  intro hi
  have h1 := ih (by omega)
  have hm : (putN back n v s i).m < 2 ^ n := Nat.lt_of_lt_of_le h1.2.2.2 (Nat.pow_le_pow_right (by omega) hi)
  refine at_ok h1 (by omega) ?_
  split <;> exact bitAt_le _ _
theorem getN_okM (back : Bool) (n : Nat) {s : Td} {M : Nat} (h : s.Ok M 0) (hM : 2 ^ n <= M) : ∀ i, i <= n -> (getN back s i).Ok M i := by
 intro i
 induction i with
 | zero => intro _; exact h
 | succ i ih =>
  intro hi
  have h1 := ih (by omega)
  have hm : (getN back s i).m < 2 ^ n := Nat.lt_of_lt_of_le h1.2.2.2.1 (Nat.pow_le_pow_right (by omega) hi)
  have hb := bit_le (getN back s i) (getN back s i).m
  have hv := h1.2.2.2.2
  refine td_at h1 (by omega) ?_
  rw [Nat.pow_succ]
  split
  · have : (getN back s i).bit (getN back s i).m * 2 ^ i <= 1 * 2 ^ i := Nat.mul_le_mul_right _ hb
    omega
  · omega
theorem tree_put_view {w : World} {O : Paint} {c ct a g M cap capv : Nat} {s : Tr} {n : Nat} (he : EncAt w O c a s.e) (ht : TreeAt w O ct (.slice (some ⟨g, 0, none⟩) M cap) s.l) (hc : ct ≠ c) (hok : s.Ok M 0) (hnM : 2 ^ n <= M) (hm : s.m = 1) (hn : n <= 16) (htn : s.e.turns <= 900000) (v : Nat) (hv : v < 2 ^ n) :
  Calls Tryz.prog 127 #[.slice (some ⟨g, 0, none⟩) (2 ^ n) capv, .pointer (some ⟨a, 0, none⟩), .int .i64 v] w fun x w' => x = .returned (.tuple #[]) /\ Putted w O c ct a (.slice (some ⟨g, 0, none⟩) M cap) (putN false n v s n) w' := by
 have hp : 2 ^ n <= 65536 := Nat.pow_le_pow_right (n := 2) (by omega) hn
 have hN : 0 < 2 ^ n := Nat.two_pow_pos n
 have HOK := hid hok
 have HB := hid (bits_any n hn g capv)
 have H0 := hid (show Putted w O c ct a (.slice (some ⟨g, 0, none⟩) M cap) (putN false n v s 0) w from ⟨O, Step.refl _ _ _, he, ht⟩)
 have HM := hid hm
 generalize hNN : 2 ^ n = N at *
 have HNN := hid hNN
 clear he ht hok hNN hm
 go_enter Tryz.func127, Tryz.ntmps127
 go_wp2_with fail
 refine (HB.out _).mono ?_
 rintro x w1 ⟨rfl, rfl⟩
 go_wp2_with fail
 go_loopw [7, 8, 9, 13] (fun m _ _ i wr => ∃ k : Nat, k <= n /\ i = .int .i64 k /\ m = .int .i64 ((putN false n v s k).m : Int) /\ Putted w O c ct a (.slice (some ⟨g, 0, none⟩) M cap) (putN false n v s k) wr) (fun _ _ _ i _ => n - (intOf i).toNat)
 case atStart => exact ⟨0, by omega, rfl, by rw [show (putN false n v s 0).m = 1 from HM.out]; rfl, H0.out⟩
 case round =>
  clear H0
  obtain ⟨k, hk, rfl, rfl, O1, hs1, he1, ht1⟩ := hrel
  have hS := putN_okM false n v HOK.out (by rw [HNN.out]; exact hnM) k hk
  have hT := putN_turns false n v s k
  by_cases hlt : k < n
  · have hmN : (putN false n v s k).m < N := Nat.lt_of_lt_of_le hS.2.2.2 (by rw [<- HNN.out]; exact Nat.pow_le_pow_right (by omega) hlt)
    have HST := hid (show putN false n v s (k + 1) = (putN false n v s k).step (bitAt v (n - 1 - k)) from rfl)
    generalize putN false n v s k = S at *
    have hb1 := bitAt_le v (n - 1 - k)
    have HCB := hid (treebit he1 ht1 hc hS.2.1 hS.2.2.1 (by omega) S.m (bitAt v (n - 1 - k)) (Nat.lt_of_lt_of_le hmN hnM) hb1)
    have hbit := and1_i64 v (n - 1 - k) (by omega)
    have HS1 := hid hs1
    generalize bitAt v (n - 1 - k) = b at *
    clear hs1 he1 ht1 hS hT
    go_wp2_with fail
    clear hbit
    refine HCB.out.mono ?_
    rintro x w2 ⟨rfl, O2, hs2, he2, ht2⟩
    have HS2 := hid hs2
    have HE2 := hid he2
    have HT2 := hid ht2
    clear hs2 he2 ht2
    go_wp2_with fail
    go_roundw
    case rel => exact ⟨k + 1, by omega, by go_num, by rw [HST.out]; unfold Tr.step Tr.at; go_num, by rw [HST.out]; exact ⟨O2, HS1.out.trans HS2.out, HE2.out, HT2.out⟩⟩
    case measure => simp [intOf]; omega
  · obtain rfl : k = n := by omega
    have HS1 := hid hs1
    have HE1 := hid he1
    have HT1 := hid ht1
    clear hs1 he1 ht1 hS hT
    go_wp2_with fail
    first | go_end0 | (simp only [Exit.inBlock, Exit.then]; refine bodyPost_ret (results_none rfl _ _ _) rfl ?_) | refine bodyPost_ret (results_none rfl _ _ _) rfl ?_
    exact ⟨rfl, O1, HS1.out, HE1.out, HT1.out⟩
theorem tree_get_view {w : World} {O : Paint} {c ct a tot g M cap capv : Nat} {s : Td} {n : Nat} (he : DecAt w O c a s.d tot) (ht : TreeAt w O ct (.slice (some ⟨g, 0, none⟩) M cap) s.l) (hc : ct ≠ c) (hok : s.Ok M 0) (hnM : 2 ^ n <= M) (hm : s.m = 1) (hn : n <= 16) :
  Calls Tryz.prog 147 #[.slice (some ⟨g, 0, none⟩) (2 ^ n) capv, .pointer (some ⟨a, 0, none⟩)] w fun x w' => x = .returned (.int .i64 (((getN false s n).v : Nat) : Int)) /\ Gotten w O c ct a tot (.slice (some ⟨g, 0, none⟩) M cap) (getN false s n) w' := by
 have hp : 2 ^ n <= 65536 := Nat.pow_le_pow_right (n := 2) (by omega) hn
 have hN : 0 < 2 ^ n := Nat.two_pow_pos n
 have hv0 : s.v = 0 := by have := hok.2.2.2.2; simp at this; exact this
 have HOK := hid hok
 have HB := hid (bits_any n hn g capv)
 have H0 := hid (show Gotten w O c ct a tot (.slice (some ⟨g, 0, none⟩) M cap) (getN false s 0) w from ⟨Step.refl _ _ _, he, ht⟩)
 have HM := hid hm
 have HV := hid hv0
 generalize hNN : 2 ^ n = N at *
 have HNN := hid hNN
 have HP := hid hp
 clear he ht hok hNN hm hv0 hp
 go_enter Tryz.func147, Tryz.ntmps147
 go_wp2_with fail
 refine (HB.out _).mono ?_
 rintro x w1 ⟨rfl, rfl⟩
 go_wp2_with fail
 go_loopw [5, 6, 7, 10] (fun u m _ i wr => ∃ k : Nat, k <= n /\ i = .int .i64 k /\ u = .int .i64 ((getN false s k).v : Int) /\ m = .int .i64 ((getN false s k).m : Int) /\ Gotten w O c ct a tot (.slice (some ⟨g, 0, none⟩) M cap) (getN false s k) wr) (fun _ _ _ i _ => n - (intOf i).toNat)
 case atStart => exact ⟨0, by omega, rfl, by rw [show (getN false s 0).v = 0 from HV.out]; rfl, by rw [show (getN false s 0).m = 1 from HM.out]; rfl, H0.out⟩
 case round =>
  clear H0
  obtain ⟨k, hk, rfl, rfl, rfl, hs1, he1, ht1⟩ := hrel
  have hS := getN_okM false n HOK.out (by rw [HNN.out]; exact hnM) k hk
  by_cases hlt : k < n
  · have hmN : (getN false s k).m < N := Nat.lt_of_lt_of_le hS.2.2.2.1 (by rw [<- HNN.out]; exact Nat.pow_le_pow_right (by omega) hlt)
    have hvN : (getN false s k).v < N := Nat.lt_of_lt_of_le hS.2.2.2.2 (by rw [<- HNN.out]; exact Nat.pow_le_pow_right (by omega) (by omega))
    have hNs : N < 100000 := by have := HP.out; omega
    have HST := hid (show getN false s (k + 1) = (getN false s k).at (getN false s k).m (2 * (getN false s k).v + (getN false s k).bit (getN false s k).m) from rfl)
    generalize getN false s k = S at *
    have hb1 := bit_le S S.m
    have HCB := hid (treeget he1 ht1 hc hS.2.1 hS.2.2.1 S.m (2 * S.v + S.bit S.m) (Nat.lt_of_lt_of_le hmN hnM))
    have HS1 := hid hs1
    have HAM := hid (show (S.at S.m (2 * S.v + S.bit S.m)).m = 2 * S.m + S.bit S.m from rfl)
    have HAV := hid (show (S.at S.m (2 * S.v + S.bit S.m)).v = 2 * S.v + S.bit S.m from rfl)
    generalize S.at S.m (2 * S.v + S.bit S.m) = S2 at *
    generalize S.bit S.m = b at *
    clear hs1 he1 ht1 hS
    go_wp2_with fail
    refine HCB.out.mono ?_
    rintro x w2 ⟨rfl, hs2, he2, ht2⟩
    have HS2 := hid hs2
    have HE2 := hid he2
    have HT2 := hid ht2
    clear hs2 he2 ht2
    go_wp2_with fail
    go_roundw
    case rel => exact ⟨k + 1, by omega, by go_num, by rw [HST.out, HAV.out]; go_num, by rw [HST.out, HAM.out]; go_num, by rw [HST.out]; exact ⟨HS1.out.trans HS2.out, HE2.out, HT2.out⟩⟩
    case measure => simp [intOf]; omega
  · obtain rfl : k = n := by omega
    have HS1 := hid hs1
    have HE1 := hid he1
    have HT1 := hid ht1
    clear hs1 he1 ht1 hS
    go_wp2_with fail
    go_ret
    exact ⟨rfl, HS1.out, HE1.out, HT1.out⟩
end Go.Proofs.YtfpoabeihpfeiaaGreat.Rc
end
