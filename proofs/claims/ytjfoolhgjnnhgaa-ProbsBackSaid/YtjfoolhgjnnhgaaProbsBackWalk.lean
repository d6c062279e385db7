/-
  The walk of the statement ProbsBack: for every number of bits and every list of pairs of bytes it returns true, and writes nothing that was there.
-/
import Derived.Test.YtjfoolhgjnnhgaaProbsBackMath
import Derived.Test.YtjfoolhgjnnhgaaProbsSpeaks4
import Derived.Test.YtjfoolhgjnnhgaaProbsPairs
import Derived.StillTailTactics
import Derived.Deep.RegionWith
import Derived.Deep.RegionHeld3
import Derived.Deep.DeepCutAuto
import Derived.Deep.CutBlock
namespace Go.Proofs.Ytjfoolhgjnnhgaa.Rc
open Go.RowKit
/-- The pairs that came in, as a function. -/
theorem pairs_fun {w : World} {a : Option Addr} {len : Nat} (h : IsPairs w a len) : ∃ f : Nat → Nat × Nat, (∀ i, i < len → (f i).1 < 256 ∧ (f i).2 < 256) ∧
    (len = 0 ∨ ∃ b off, a = some ⟨b, off, none⟩ ∧ b < w.heap.size ∧ ∀ i, i < len → w.cell? ⟨b, off + i * 2, none⟩ = some (.int .u8 ((f i).1 : Int)) ∧ w.cell? ⟨b, off + i * 2 + 1, none⟩ = some (.int .u8 ((f i).2 : Int))) := by
  rcases h.2 with h0 | ⟨b, off, ha, hb, hc⟩
  · exact ⟨fun _ => (0, 0), fun i hi => by omega, .inl h0⟩
  · have key : ∀ i, ∃ p : Nat × Nat, i < len → (p.1 < 256 ∧ p.2 < 256) ∧ w.cell? ⟨b, off + i * 2, none⟩ = some (.int .u8 (p.1 : Int)) ∧ w.cell? ⟨b, off + i * 2 + 1, none⟩ = some (.int .u8 (p.2 : Int)) := by
      intro i
      by_cases hi : i < len
      · obtain ⟨x, y, h1, h2, h3, h4⟩ := hc i hi
        exact ⟨(x, y), fun _ => ⟨⟨h3, h4⟩, h1, h2⟩⟩
      · exact ⟨(0, 0), fun h => absurd h hi⟩
    obtain ⟨f, hf⟩ := Classical.axiomOfChoice key
    exact ⟨f, fun i hi => (hf i hi).1, .inr ⟨b, off, ha, hb, fun i hi => (hf i hi).2⟩⟩
/-- Six trees. -/
structure Six (ta tb tc tp tq tr : Value) (A B C P Q R : List Nat) (w : World) (O : Paint) : Prop where
  a : TreeAt w O 2 ta A
  b : TreeAt w O 3 tb B
  c : TreeAt w O 4 tc C
  p : TreeAt w O 5 tp P
  q : TreeAt w O 6 tq Q
  r : TreeAt w O 7 tr R
section
variable {ta tb tc tp tq tr : Value} {A B C P Q R : List Nat} {w0 w w' : World} {O O' : Paint} {a D tot : Nat} {e : Enc} {d : Dec}
theorem Six.step {cs : List Nat} (h : Six ta tb tc tp tq tr A B C P Q R w O) (hs : Step cs w O w' O') (hc : ∀ k, k ∈ cs → k < 2 ∨ 7 < k) : Six ta tb tc tp tq tr A B C P Q R w' O' :=
  ⟨h.a.step hs (fun h => by have := hc _ h; omega), h.b.step hs (fun h => by have := hc _ h; omega), h.c.step hs (fun h => by have := hc _ h; omega), h.p.step hs (fun h => by have := hc _ h; omega), h.q.step hs (fun h => by have := hc _ h; omega), h.r.step hs (fun h => by have := hc _ h; omega)⟩
structure LockB (w0 : World) (a : Nat) (e : Enc) (ta tb tc tp tq tr : Value) (A B C P Q R : List Nat) (w : World) (O : Paint) : Prop where
  run : Run w0 w O
  enc : EncAt w O 1 a e
  six : Six ta tb tc tp tq tr A B C P Q R w O
theorem LockB.idle (h : LockB w0 a e ta tb tc tp tq tr A B C P Q R w O) (hs : Step [] w O w' O') : LockB w0 a e ta tb tc tp tq tr A B C P Q R w' O' :=
  ⟨h.run.step hs (by simp), h.enc.step hs (by simp), h.six.step hs (by simp)⟩
theorem LockB.devA {s : Tr} (h : LockB w0 a e ta tb tc tp tq tr A B C P Q R w O) (hp : Putted w O 1 2 a ta s w') : ∃ O', LockB w0 a s.e ta tb tc tp tq tr s.l B C P Q R w' O' := by
  obtain ⟨O', hs, he, ht⟩ := hp
  exact ⟨O', h.run.step hs (by simp), he, ht, h.six.b.step hs (by simp), h.six.c.step hs (by simp), h.six.p.step hs (by simp), h.six.q.step hs (by simp), h.six.r.step hs (by simp)⟩
theorem LockB.devB {s : Tr} (h : LockB w0 a e ta tb tc tp tq tr A B C P Q R w O) (hp : Putted w O 1 3 a tb s w') : ∃ O', LockB w0 a s.e ta tb tc tp tq tr A s.l C P Q R w' O' := by
  obtain ⟨O', hs, he, ht⟩ := hp
  exact ⟨O', h.run.step hs (by simp), he, h.six.a.step hs (by simp), ht, h.six.c.step hs (by simp), h.six.p.step hs (by simp), h.six.q.step hs (by simp), h.six.r.step hs (by simp)⟩
theorem LockB.devC {s : Tr} (h : LockB w0 a e ta tb tc tp tq tr A B C P Q R w O) (hp : Putted w O 1 4 a tc s w') : ∃ O', LockB w0 a s.e ta tb tc tp tq tr A B s.l P Q R w' O' := by
  obtain ⟨O', hs, he, ht⟩ := hp
  exact ⟨O', h.run.step hs (by simp), he, h.six.a.step hs (by simp), h.six.b.step hs (by simp), ht, h.six.p.step hs (by simp), h.six.q.step hs (by simp), h.six.r.step hs (by simp)⟩
structure LockG (w0 : World) (D : Nat) (d : Dec) (tot : Nat) (ta tb tc tp tq tr : Value) (A B C P Q R : List Nat) (w : World) (O : Paint) : Prop where
  run : Run w0 w O
  dec : DecAt w O 8 D d tot
  six : Six ta tb tc tp tq tr A B C P Q R w O
theorem LockG.idle (h : LockG w0 D d tot ta tb tc tp tq tr A B C P Q R w O) (hs : Step [] w O w' O') : LockG w0 D d tot ta tb tc tp tq tr A B C P Q R w' O' :=
  ⟨h.run.step hs (by simp), h.dec.step hs (by simp), h.six.step hs (by simp)⟩
theorem LockG.devP {s : Td} (h : LockG w0 D d tot ta tb tc tp tq tr A B C P Q R w O) (hp : Gotten w O 8 5 D tot tp s w') : LockG w0 D s.d tot ta tb tc tp tq tr A B C s.l Q R w' O := by
  obtain ⟨hs, he, ht⟩ := hp
  exact ⟨h.run.step hs (by simp), he, h.six.a.step hs (by simp), h.six.b.step hs (by simp), h.six.c.step hs (by simp), ht, h.six.q.step hs (by simp), h.six.r.step hs (by simp)⟩
theorem LockG.devQ {s : Td} (h : LockG w0 D d tot ta tb tc tp tq tr A B C P Q R w O) (hp : Gotten w O 8 6 D tot tq s w') : LockG w0 D s.d tot ta tb tc tp tq tr A B C P s.l R w' O := by
  obtain ⟨hs, he, ht⟩ := hp
  exact ⟨h.run.step hs (by simp), he, h.six.a.step hs (by simp), h.six.b.step hs (by simp), h.six.c.step hs (by simp), h.six.p.step hs (by simp), ht, h.six.r.step hs (by simp)⟩
theorem LockG.devR {s : Td} (h : LockG w0 D d tot ta tb tc tp tq tr A B C P Q R w O) (hp : Gotten w O 8 7 D tot tr s w') : LockG w0 D s.d tot ta tb tc tp tq tr A B C P Q s.l w' O := by
  obtain ⟨hs, he, ht⟩ := hp
  exact ⟨h.run.step hs (by simp), he, h.six.a.step hs (by simp), h.six.b.step hs (by simp), h.six.c.step hs (by simp), h.six.p.step hs (by simp), h.six.q.step hs (by simp), ht⟩
end
theorem getP {ta tb tc tp tq tr : Value} {A B C P Q R : List Nat} {w0 w : World} {O : Paint} {D tot n v : Nat} {d : Dec} (h : LockG w0 D d tot ta tb tc tp tq tr A B C P Q R w O) (hp : Probs P) (hl : P.length = 2 ^ n) (hn : n ≤ 16) (hv : (getN false ⟨d, P, 1, 0⟩ n).v = v) :
    Calls Try.prog 23 #[tp, .pointer (some ⟨D, 0, none⟩)] w fun x w' => x = .returned (.int .i64 (v : Int)) ∧ LockG w0 D (getN false ⟨d, P, 1, 0⟩ n).d tot ta tb tc tp tq tr A B C (getN false ⟨d, P, 1, 0⟩ n).l Q R w' O :=
  (tree_get (s := ⟨d, P, 1, 0⟩) h.dec h.six.p (by decide) ⟨h.dec.2, hp, hl, by show 1 < 2 ^ (0 + 1); omega, by show 0 < 2 ^ 0; omega⟩ rfl hn).mono fun x w' ⟨h1, h2⟩ => ⟨by rw [h1, hv], h.devP h2⟩
theorem getQ {ta tb tc tp tq tr : Value} {A B C P Q R : List Nat} {w0 w : World} {O : Paint} {D tot n v : Nat} {d : Dec} (h : LockG w0 D d tot ta tb tc tp tq tr A B C P Q R w O) (hp : Probs Q) (hl : Q.length = 2 ^ n) (hn : n ≤ 16) (hv : (getN true ⟨d, Q, 1, 0⟩ n).v = v) :
    Calls Try.prog 24 #[tq, .pointer (some ⟨D, 0, none⟩)] w fun x w' => x = .returned (.int .i64 (v : Int)) ∧ LockG w0 D (getN true ⟨d, Q, 1, 0⟩ n).d tot ta tb tc tp tq tr A B C P (getN true ⟨d, Q, 1, 0⟩ n).l R w' O :=
  (tree_getBack (s := ⟨d, Q, 1, 0⟩) h.dec h.six.q (by decide) ⟨h.dec.2, hp, hl, by show 1 < 2 ^ (0 + 1); omega, by show 0 < 2 ^ 0; omega⟩ rfl hn).mono fun x w' ⟨h1, h2⟩ => ⟨by rw [h1, hv], h.devQ h2⟩
theorem getR {ta tb tc tp tq tr : Value} {A B C P Q R : List Nat} {w0 w : World} {O : Paint} {D tot o v : Nat} {d : Dec} (h : LockG w0 D d tot ta tb tc tp tq tr A B C P Q R w O) (hp : Probs R) (hl : R.length = 1024) (ho : o < 256) (hv : (gotLike o ⟨d, R, 1, 0⟩ 8).1.m % 256 = v) :
    Calls Try.prog 25 #[.pointer (some ⟨D, 0, none⟩), tr, .int .u8 (o : Int)] w fun x w' => x = .returned (.int .u8 (v : Int)) ∧ LockG w0 D (gotLike o ⟨d, R, 1, 0⟩ 8).1.d tot ta tb tc tp tq tr A B C P Q (gotLike o ⟨d, R, 1, 0⟩ 8).1.l w' O :=
  (tree_getLike (N := 1024) (s := ⟨d, R, 1, 0⟩) h.dec h.six.r (by decide) ⟨h.dec.2, hp, hl, by show 1 < 2 ^ (0 + 1); omega, by show 0 < 2 ^ 0; omega⟩ (by omega) (by omega) rfl o ho).mono fun x w' ⟨h1, h2⟩ => ⟨by rw [h1, hv], h.devR h2⟩
theorem new1024 (w : World) (O : Paint) (c : Nat) : Calls Try.prog 12 #[.int .i64 10] w fun y w' => y = .returned (.slice (some ⟨w.heap.size, 0, none⟩) 1024 1024) ∧ ∃ O', Step [] w O w' O' ∧ TreeAt w' O' c (.slice (some ⟨w.heap.size, 0, none⟩) 1024 1024) (List.replicate 1024 1024) :=
  new_at 10 10 (by omega) (.inl rfl) w O c
set_option maxRecDepth 100000 in
set_option maxHeartbeats 16000000 in
theorem pback_walk (bits : Nat) (hbits : bits < 256) (a0 : Option Addr) (len cap : Nat) (w : World) (hl : IsPairs w a0 len) :
    Calls Try.prog 4 #[.int .u8 (bits : Int), .slice a0 len cap] w fun x w' => x = .returned (.bool true) ∧ Below w.heap.size w w' := by
  have HRUN := Lib.hid (Run.start w)
  have hlen := hl.1
  unfold maxLen at hlen
  obtain ⟨f, hfs⟩ := pairs_fun hl
  have HIS := Lib.hid hfs
  obtain ⟨n, hn⟩ : ∃ n : Nat, n = 1 + bits % 8 := ⟨_, rfl⟩
  have HNI := Lib.hid (show (1 : Int) + (bits : Int) % 8 = (n : Int) by omega)
  have hn1 : 1 ≤ n := by omega
  have hn8 : n ≤ 8 := by omega
  have hN2 : 2 ≤ 2 ^ n := by
    have : 2 ^ 1 ≤ 2 ^ n := Nat.pow_le_pow_right (n := 2) (by omega) hn1
    omega
  have hN3 : 2 ^ n ≤ 256 := Nat.pow_le_pow_right (n := 2) (by omega) hn8
  obtain ⟨NN, hNN⟩ : ∃ NN : Nat, NN = min len 40 := ⟨_, rfl⟩
  have HNN := Lib.hid hNN
  clear hl hn hfs hNN
  have HTA := Lib.hid (fun (w : World) (O : Paint) (c : Nat) => new_at (n : Int) n (by omega) (.inl rfl) w O c)
  have HTC := Lib.hid (fun (w : World) (O : Paint) (c : Nat) => new1024 w O c)
  go_enter Try.func4, Try.ntmps4
  go_wp2_with fail
  refine (speaks4 w).mono ?_
  rintro x w1 ⟨rfl, hb1⟩
  have HR1 := Lib.hid (HRUN.out.step (Step.of_below_same hb1 (fun _ => 0)) (by simp))
  clear hb1 HRUN
  go_upto_region 4 with (fail)
  rw [HNI.out]
  clear HNI
  have HB0 := Lib.hid (show bkN n f 0 = ⟨Enc.start, List.replicate (2 ^ n) 1024, List.replicate (2 ^ n) 1024, List.replicate 1024 1024⟩ from rfl)
  generalize hNe : 2 ^ n = N at *
  have HNe := Lib.hid hNe
  clear hNe
  obtain ⟨O1, hO1⟩ : ∃ O : Paint, O = fun _ => 0 := ⟨_, rfl⟩
  rw [← hO1] at HR1
  clear hO1
  go_wp2_with fail
  refine (HTA.out _ O1 2).mono ?_
  rintro x w2 ⟨rfl, O2, hs, ht⟩
  generalize w1.heap.size = g2 at *
  have HR2 := Lib.hid (HR1.out.step hs (by simp))
  have HT2_2 := Lib.hid ht
  clear hs ht HR1
  go_wp2_with fail
  refine (HTA.out _ O2 3).mono ?_
  rintro x w3 ⟨rfl, O3, hs, ht⟩
  generalize w2.heap.size = g3 at *
  have HR3 := Lib.hid (HR2.out.step hs (by simp))
  have HT2_3 := Lib.hid (HT2_2.out.step hs (by simp))
  have HT3_3 := Lib.hid ht
  clear hs ht HR2 HT2_2
  go_wp2_with fail
  refine (HTC.out _ O3 4).mono ?_
  rintro x w4 ⟨rfl, O4, hs, ht⟩
  generalize w3.heap.size = g4 at *
  have HR4 := Lib.hid (HR3.out.step hs (by simp))
  have HT2_4 := Lib.hid (HT2_3.out.step hs (by simp))
  have HT3_4 := Lib.hid (HT3_3.out.step hs (by simp))
  have HT4_4 := Lib.hid ht
  clear hs ht HR3 HT2_3 HT3_3
  go_wp2_with fail
  refine (HTA.out _ O4 5).mono ?_
  rintro x w5 ⟨rfl, O5, hs, ht⟩
  generalize w4.heap.size = g5 at *
  have HR5 := Lib.hid (HR4.out.step hs (by simp))
  have HT2_5 := Lib.hid (HT2_4.out.step hs (by simp))
  have HT3_5 := Lib.hid (HT3_4.out.step hs (by simp))
  have HT4_5 := Lib.hid (HT4_4.out.step hs (by simp))
  have HT5_5 := Lib.hid ht
  clear hs ht HR4 HT2_4 HT3_4 HT4_4
  go_wp2_with fail
  refine (HTA.out _ O5 6).mono ?_
  rintro x w6 ⟨rfl, O6, hs, ht⟩
  generalize w5.heap.size = g6 at *
  have HR6 := Lib.hid (HR5.out.step hs (by simp))
  have HT2_6 := Lib.hid (HT2_5.out.step hs (by simp))
  have HT3_6 := Lib.hid (HT3_5.out.step hs (by simp))
  have HT4_6 := Lib.hid (HT4_5.out.step hs (by simp))
  have HT5_6 := Lib.hid (HT5_5.out.step hs (by simp))
  have HT6_6 := Lib.hid ht
  clear hs ht HR5 HT2_5 HT3_5 HT4_5 HT5_5
  go_wp2_with fail
  refine (HTC.out _ O6 7).mono ?_
  rintro x w7 ⟨rfl, O7, hs, ht⟩
  generalize w6.heap.size = g7 at *
  have HR7 := Lib.hid (HR6.out.step hs (by simp))
  have HT2_7 := Lib.hid (HT2_6.out.step hs (by simp))
  have HT3_7 := Lib.hid (HT3_6.out.step hs (by simp))
  have HT4_7 := Lib.hid (HT4_6.out.step hs (by simp))
  have HT5_7 := Lib.hid (HT5_6.out.step hs (by simp))
  have HT6_7 := Lib.hid (HT6_6.out.step hs (by simp))
  have HT7_7 := Lib.hid ht
  clear hs ht HR6 HT2_6 HT3_6 HT4_6 HT5_6 HT6_6
  go_wp2_with fail
  refine (new_enc w7 O7 1).mono ?_
  rintro x w8 ⟨a, rfl, _, O8, hs8, he8⟩
  have HL : Hid (LockB w a Enc.start (.slice (some ⟨g2, 0, none⟩) N N) (.slice (some ⟨g3, 0, none⟩) N N) (.slice (some ⟨g4, 0, none⟩) 1024 1024) (.slice (some ⟨g5, 0, none⟩) N N) (.slice (some ⟨g6, 0, none⟩) N N) (.slice (some ⟨g7, 0, none⟩) 1024 1024) (List.replicate N 1024) (List.replicate N 1024) (List.replicate 1024 1024) (List.replicate N 1024) (List.replicate N 1024) (List.replicate 1024 1024) w8 O8) := Lib.hid ⟨HR7.out.step hs8 (by simp), he8, HT2_7.out.step hs8 (by simp), HT3_7.out.step hs8 (by simp), HT4_7.out.step hs8 (by simp), HT5_7.out.step hs8 (by simp), HT6_7.out.step hs8 (by simp), HT7_7.out.step hs8 (by simp)⟩
  clear hs8 he8 HR7 HT2_7 HT3_7 HT4_7 HT5_7 HT6_7 HT7_7 HTA HTC
  generalize hI : List.replicate N 1024 = I at *
  generalize hJ : List.replicate 1024 1024 = J at *
  have HI := Lib.hid hI
  have HJ := Lib.hid hJ
  clear hI hJ
  go_upto_block 0 with (fail)
  go_cut [13, 14] (fun _ _ wx => ∃ O, LockB w a (bkN n f NN).e (.slice (some ⟨g2, 0, none⟩) N N) (.slice (some ⟨g3, 0, none⟩) N N) (.slice (some ⟨g4, 0, none⟩) 1024 1024) (.slice (some ⟨g5, 0, none⟩) N N) (.slice (some ⟨g6, 0, none⟩) N N) (.slice (some ⟨g7, 0, none⟩) 1024 1024) (bkN n f NN).a (bkN n f NN).b (bkN n f NN).c I I J wx O)
  case first =>
    as_aux_lemma =>
    -- BEGIN first
    go_wp2_with fail
    go_loopw [13, 14] (fun i _ wr => ∃ (k : Nat) (O : Paint), k ≤ NN ∧ i = .int .i64 k ∧ LockB w a (bkN n f k).e (.slice (some ⟨g2, 0, none⟩) N N) (.slice (some ⟨g3, 0, none⟩) N N) (.slice (some ⟨g4, 0, none⟩) 1024 1024) (.slice (some ⟨g5, 0, none⟩) N N) (.slice (some ⟨g6, 0, none⟩) N N) (.slice (some ⟨g7, 0, none⟩) 1024 1024) (bkN n f k).a (bkN n f k).b (bkN n f k).c I I J wr O) (fun i _ _ => len - (intOf i).toNat)
    case atStart => exact ⟨0, O8, by omega, rfl, by rw [HB0.out]; exact HL.out⟩
    case round =>
      clear HL
      obtain ⟨k, O, hk, rfl, hL⟩ := hrel
      by_cases hlt : k < NN
      · have hNN := HNN.out
        have l1 : k < len := by omega
        have l2 : k < 40 := by omega
        clear hNN
        rcases HIS.out.2 with h0 | ⟨b, off, rfl, hbl, hact⟩
        · omega
        · obtain ⟨hcx, hcy⟩ := hact k l1
          obtain ⟨hx, hy⟩ := HIS.out.1 k l1
          have hbl2 : b < wr.heap.size := Nat.lt_of_lt_of_le hbl hL.run.below.size
          have HCX := Lib.hid (fun (W : World) (hW : Below w.heap.size w W) => (⟨(hW.cell (p := ⟨b, _, none⟩) hbl).trans hcx, (hW.cell (p := ⟨b, _, none⟩) hbl).trans hcy⟩ : W.cell? ⟨b, off + k * 2, none⟩ = some (.int .u8 ((f k).1 : Int)) ∧ W.cell? ⟨b, off + k * 2 + 1, none⟩ = some (.int .u8 ((f k).2 : Int))))
          have HOK := Lib.hid (bkN_ok n f k)
          have HTN := Lib.hid (bkN_turns n hn8 f k)
          have HST := Lib.hid (show bkN n f (k + 1) = (bkN n f k).step n (f k).1 (f k).2 from rfl)
          obtain ⟨hcx, hcy⟩ := HCX.out wr hL.run.below
          clear hact
          generalize bkN n f k = S at *
          generalize (f k).1 = x at *
          generalize (f k).2 = y at *
          obtain ⟨v, hv⟩ : ∃ v : Nat, v = x % N := ⟨_, rfl⟩
          have hvN : v < N := by rw [hv]; exact Nat.mod_lt _ (by omega)
          have HVI := Lib.hid (show (x : Int) % (N : Int) = (v : Int) by rw [hv]; simp)
          have HV2 := Lib.hid (show x % 2 ^ n = v by rw [HNe.out, hv])
          have hvp : v < 2 ^ n := by rw [HNe.out]; exact hvN
          have HVP := Lib.hid hvp
          have hcz : ((N : Int) == 0) = false := by rw [beq_eq_false_iff_ne]; omega
          have htn := HTN.out
          have HT1 := Lib.hid (show S.e.turns ≤ 900000 by omega)
          have HT2 := Lib.hid (show (S.s1 n v).e.turns ≤ 900000 by have := S.turns1 n v; omega)
          have HT3 := Lib.hid (show (S.s2 n v).e.turns ≤ 900000 by have := S.turns2 n v; omega)
          have HL := Lib.hid hL
          clear hL hv hvp htn
          go_upto_region 13 with (fail)
          rw [HVI.out]
          clear hcz
          go_wp2_with fail
          refine (tree_put (s := ⟨S.e, S.a, 1⟩) HL.out.enc HL.out.six.a (by decide) HOK.out.ok1 rfl (by omega) HT1.out v HVP.out).mono ?_
          rintro z w9 ⟨rfl, hp9⟩
          obtain ⟨O9, hL9⟩ := HL.out.devA hp9
          have HL9 := Lib.hid hL9
          clear hp9 hL9
          go_wp2_with fail
          refine (tree_putBack (s := ⟨(S.s1 n v).e, S.b, 1⟩) HL9.out.enc HL9.out.six.b (by decide) HOK.out.ok2 rfl (by omega) HT2.out v HVP.out).mono ?_
          rintro z w10 ⟨rfl, hp10⟩
          obtain ⟨O10, hL10⟩ := HL9.out.devB hp10
          have HL10 := Lib.hid hL10
          clear hp10 hL10 hcx hcy HL HL9
          go_upto_region 15 with (fail)
          obtain ⟨hcx, hcy⟩ := HCX.out w10 HL10.out.run.below
          have hbl3 : b < w10.heap.size := Nat.lt_of_lt_of_le hbl HL10.out.run.below.size
          have e1 : (0 : Int) ≤ (k : Int) := by omega
          have e2 : (k : Int) < (len : Int) := by omega
          have e3 : (k : Int).toNat = k := by omega
          go_still_tail 12, (by kernel_rfl)
          change wpList _ _ _ _ _ w10.drew
          have HLd := Lib.hid (HL10.out.idle (Step.refl [] w10 O10).drew)
          generalize w10.drew = w11 at *
          go_wp2_with fail
          refine (tree_putLike (N := 1024) (s := ⟨(S.s2 n v).e, S.c, 1⟩) HLd.out.enc HLd.out.six.c (by decide) HOK.out.ok3 (by omega) (by omega) rfl HT3.out x y hx hy).mono ?_
          rintro z w12 ⟨rfl, hp12⟩
          obtain ⟨O12, hL12⟩ := HLd.out.devC hp12
          have HL12 := Lib.hid hL12
          clear hp12 hL12 hcx hcy e1 e2 e3
          go_wp2_with fail
          go_roundw
          case rel => exact ⟨k + 1, O12, by omega, by go_num, by rw [HST.out]; unfold Bk.step; rw [HV2.out]; exact HL12.out⟩
          case measure => simp [intOf]; omega
      · obtain rfl : k = NN := by omega
        have HL := Lib.hid hL
        have hNN := HNN.out
        clear hL hlt hk
        have key : (k < len ∧ ¬ k < 40) ∨ ¬ k < len := by omega
        clear hNN
        rcases key with ⟨h1, h2⟩ | h1
        · as_aux_lemma =>
          have d2 : decide ((k : Int) < 40) = false := by rw [decide_eq_false_iff_not]; omega
          clear h2
          go_wp2_with fail
          go_meet
          exact ⟨O, HL.out⟩
        · as_aux_lemma =>
          have d1 : decide (k < len) = false := by rw [decide_eq_false_iff_not]; omega
          go_wp2_with fail
          go_meet
          exact ⟨O, HL.out⟩
    -- END first
  case rest =>
    clear HL
    obtain ⟨O9, hL⟩ := hcut
    have hah := fun k hk => ahead_bkN n f NN k hk
    have htn := bkN_turns n hn8 f NN
    have hN40 : NN ≤ 40 := by have := HNN.out; omega
    have hfs := follows_start (more := []) (hah 0 (Nat.zero_le _))
    have hrd : (bkN n f NN).e.bytes = 0 :: be ((bkN n f NN).e.turns + 4) (bkN n f NN).e.low ++ [] := by simp [Enc.bytes]
    rw [← hrd] at hfs
    have HFS := Lib.hid hfs
    have HAH := Lib.hid hah
    have HEN := Lib.hid (enc_end hL.enc (by omega))
    have hbs : (⟨(bkN n f NN).e.bytes.toArray⟩ : ByteArray).size ≤ 1000000000000 := by
      show (bkN n f NN).e.bytes.toArray.size ≤ _
      simp [Enc.bytes, be_length]; omega
    have HL9 := Lib.hid hL
    have hdt : (⟨(bkN n f NN).e.bytes.toArray⟩ : ByteArray).data.toList = (bkN n f NN).e.bytes := rfl
    have HND := Lib.hid (fun W O => newdec (⟨(bkN n f NN).e.bytes.toArray⟩ : ByteArray) hbs W O 8)
    rw [hdt] at HND
    clear hfs hah hrd hbs hdt hL htn
    generalize (bkN n f NN).e.bytes = BY at *
    generalize hF : (bkN n f NN).e.low = F at *
    generalize hT : (bkN n f NN).e.turns = T at *
    have HF := Lib.hid hF
    have HT := Lib.hid hT
    clear hF hT
    go_wp2_with fail
    refine HEN.out.mono ?_
    rintro y w10 ⟨rfl, hb10⟩
    have HL10 := Lib.hid (HL9.out.idle (Step.of_below_same hb10 O9))
    clear hb10 HL9 HEN
    go_wp2_with fail
    refine (HND.out _ O9).mono ?_
    rintro y w11 ⟨rfl, O11, hs11, hd11⟩
    generalize w10.heap.size = D at *
    have HG : Hid (LockG w D (Dec.read BY) 0 (.slice (some ⟨g2, 0, none⟩) N N) (.slice (some ⟨g3, 0, none⟩) N N) (.slice (some ⟨g4, 0, none⟩) 1024 1024) (.slice (some ⟨g5, 0, none⟩) N N) (.slice (some ⟨g6, 0, none⟩) N N) (.slice (some ⟨g7, 0, none⟩) 1024 1024) (bkN n f NN).a (bkN n f NN).b (bkN n f NN).c I I J w11 O11) := Lib.hid ⟨HL10.out.run.step hs11 (by simp), hd11, HL10.out.six.step hs11 (by simp)⟩
    clear hs11 hd11 HL10 HND
    go_upto_block 2 with (fail)
    go_cut [16, 17] (fun _ _ wx => ∃ (d : Dec) (tot : Nat) (O : Paint), Follows d (bkN n f NN).e F T [] ∧ LockG w D d tot (.slice (some ⟨g2, 0, none⟩) N N) (.slice (some ⟨g3, 0, none⟩) N N) (.slice (some ⟨g4, 0, none⟩) 1024 1024) (.slice (some ⟨g5, 0, none⟩) N N) (.slice (some ⟨g6, 0, none⟩) N N) (.slice (some ⟨g7, 0, none⟩) 1024 1024) (bkN n f NN).a (bkN n f NN).b (bkN n f NN).c (bkN n f NN).a (bkN n f NN).b (bkN n f NN).c wx O)
    case first =>
      as_aux_lemma =>
      -- BEGIN second
      go_wp2_with fail
      go_loopw [16, 17] (fun i _ wr => ∃ (k : Nat) (d : Dec) (tot : Nat) (O : Paint), k ≤ NN ∧ i = .int .i64 k ∧ Follows d (bkN n f k).e F T [] ∧ LockG w D d tot (.slice (some ⟨g2, 0, none⟩) N N) (.slice (some ⟨g3, 0, none⟩) N N) (.slice (some ⟨g4, 0, none⟩) 1024 1024) (.slice (some ⟨g5, 0, none⟩) N N) (.slice (some ⟨g6, 0, none⟩) N N) (.slice (some ⟨g7, 0, none⟩) 1024 1024) (bkN n f NN).a (bkN n f NN).b (bkN n f NN).c (bkN n f k).a (bkN n f k).b (bkN n f k).c wr O) (fun i _ _ => len - (intOf i).toNat)
      case atStart => exact ⟨0, Dec.read BY, 0, O11, by omega, rfl, by rw [HB0.out]; exact HFS.out, by rw [HB0.out]; exact HG.out⟩
      case round =>
        clear HG HFS
        obtain ⟨k, d, tot, O, hk, rfl, hfo, hG⟩ := hrel
        by_cases hlt : k < NN
        · have hNN := HNN.out
          have l1 : k < len := by omega
          have l2 : k < 40 := by omega
          have hA3 := HAH.out (k + 1) (by omega)
          rw [show bkN n f (k + 1) = (bkN n f k).step n (f k).1 (f k).2 from rfl] at hA3
          clear hNN
          rcases HIS.out.2 with h0 | ⟨b, off, rfl, hbl, hact⟩
          · omega
          · obtain ⟨hcx, hcy⟩ := hact k l1
            obtain ⟨hx, hy⟩ := HIS.out.1 k l1
            have HCX := Lib.hid (fun (W : World) (hW : Below w.heap.size w W) => (⟨(hW.cell (p := ⟨b, _, none⟩) hbl).trans hcx, (hW.cell (p := ⟨b, _, none⟩) hbl).trans hcy⟩ : W.cell? ⟨b, off + k * 2, none⟩ = some (.int .u8 ((f k).1 : Int)) ∧ W.cell? ⟨b, off + k * 2 + 1, none⟩ = some (.int .u8 ((f k).2 : Int))))
            have hok := bkN_ok n f k
            have HST := Lib.hid (show bkN n f (k + 1) = (bkN n f k).step n (f k).1 (f k).2 from rfl)
            obtain ⟨hcx, hcy⟩ := HCX.out wr hG.run.below
            clear hact
            generalize (bkN n f NN).a = FA at *
            generalize (bkN n f NN).b = FB at *
            generalize (bkN n f NN).c = FC at *
            generalize bkN n f k = S at *
            generalize (f k).1 = x at *
            generalize (f k).2 = y at *
            obtain ⟨v, hv⟩ : ∃ v : Nat, v = x % N := ⟨_, rfl⟩
            have hvN : v < N := by rw [hv]; exact Nat.mod_lt _ (by omega)
            have HVI := Lib.hid (show (x : Int) % (N : Int) = (v : Int) by rw [hv]; simp)
            have hv2 : x % 2 ^ n = v := by rw [HNe.out, hv]
            have HV2 := Lib.hid hv2
            have hvp : v < 2 ^ n := by rw [HNe.out]; exact hvN
            unfold Bk.step at hA3
            simp only [hv2] at hA3
            have hA2 := hok.ahead2 hA3
            have hA1 := hok.ahead1 hA2
            obtain ⟨p1, _, p2, p3⟩ := follow_putN (sd := ⟨d, S.a, 1, 0⟩) hok.ok1 hvp hA1 rfl rfl rfl hfo n (Nat.le_refl _)
            obtain ⟨q1, _, q2, q3⟩ := follow_putN (sd := ⟨(getN false ⟨d, S.a, 1, 0⟩ n).d, S.b, 1, 0⟩) (hok.ok2 (v := v)) hvp hA2 rfl rfl rfl p3 n (Nat.le_refl _)
            obtain ⟨r1, r2, _, r3⟩ := follow_likeN (N := 1024) (sd := ⟨(getN true ⟨(getN false ⟨d, S.a, 1, 0⟩ n).d, S.b, 1, 0⟩ n).d, S.c, 1, 0⟩) (by omega) (hok.ok3 (v := v)) hA3 rfl rfl q3 8 (Nat.le_refl _)
            have p2' : (getN false ⟨d, S.a, 1, 0⟩ n).v = v := by rw [p2]; unfold gotV; simp
            have q2' : (getN true ⟨(getN false ⟨d, S.a, 1, 0⟩ n).d, S.b, 1, 0⟩ n).v = v := by rw [q2]; unfold gotV; simp only [if_true]; exact Nat.mod_eq_of_lt hvp
            have r2' : (gotLike y ⟨(getN true ⟨(getN false ⟨d, S.a, 1, 0⟩ n).d, S.b, 1, 0⟩ n).d, S.c, 1, 0⟩ 8).1.m % 256 = x := by
              rw [r2, likeN_m hx rfl 8 (Nat.le_refl _)]; simp; omega
            have HC1 := Lib.hid (getP (hG.idle (Step.refl [] wr O).drew) hok.2.1.1 hok.2.1.2 (by omega) p2')
            rw [p1] at HC1
            have HC2 := Lib.hid (fun (W : World) (h : LockG w D (getN false ⟨d, S.a, 1, 0⟩ n).d tot (.slice (some ⟨g2, 0, none⟩) N N) (.slice (some ⟨g3, 0, none⟩) N N) (.slice (some ⟨g4, 0, none⟩) 1024 1024) (.slice (some ⟨g5, 0, none⟩) N N) (.slice (some ⟨g6, 0, none⟩) N N) (.slice (some ⟨g7, 0, none⟩) 1024 1024) FA FB FC (putN false n v ⟨S.e, S.a, 1⟩ n).l S.b S.c W O) => getQ h hok.2.2.1.1 hok.2.2.1.2 (by omega) q2')
            rw [q1] at HC2
            have HC3 := Lib.hid (fun (W : World) (h : LockG w D (getN true ⟨(getN false ⟨d, S.a, 1, 0⟩ n).d, S.b, 1, 0⟩ n).d tot (.slice (some ⟨g2, 0, none⟩) N N) (.slice (some ⟨g3, 0, none⟩) N N) (.slice (some ⟨g4, 0, none⟩) 1024 1024) (.slice (some ⟨g5, 0, none⟩) N N) (.slice (some ⟨g6, 0, none⟩) N N) (.slice (some ⟨g7, 0, none⟩) 1024 1024) FA FB FC (putN false n v ⟨S.e, S.a, 1⟩ n).l (putN true n v ⟨(S.s1 n v).e, S.b, 1⟩ n).l S.c W O) => getR h hok.2.2.2.1 hok.2.2.2.2 hy r2')
            rw [r1] at HC3
            have HFO := Lib.hid r3
            have HG := Lib.hid hG
            clear p1 p2 p3 q1 q2 q3 r1 r2 r3 p2' q2' r2' hG hA1 hA2 hA3 hok hfo hv hv2 hvp
            have hcz : ((N : Int) == 0) = false := by rw [beq_eq_false_iff_ne]; omega
            go_upto_region 21 with (fail)
            rw [HVI.out]
            clear hcz
            have hbl2 : b < wr.heap.size := Nat.lt_of_lt_of_le hbl HG.out.run.below.size
            have e1 : (0 : Int) ≤ (k : Int) := by omega
            have e2 : (k : Int) < (len : Int) := by omega
            have e3 : (k : Int).toNat = k := by omega
            have n1 : ((v : Int) != (v : Int)) = false := by simp
            have n2 : ((x : Int) != (x : Int)) = false := by simp
            go_region_held3 (fun w' => w'.cell? ⟨b, off + k * 2, none⟩ = some (.int .u8 (x : Int)) ∧ w'.cell? ⟨b, off + k * 2 + 1, none⟩ = some (.int .u8 (y : Int))) (first | exact HCX.out _ HG3.out.run.below | exact HCX.out _ HG2.out.run.below | exact HCX.out _ HG1.out.run.below | exact ⟨hcx, hcy⟩ | go_keep) (first | (go_at_call 23; (with_reducible refine HC1.out.mono ?_); rintro z w21 ⟨rfl, hg1⟩; have HG1 := Lib.hid hg1; clear hg1) | (go_at_call 24; (with_reducible refine (HC2.out _ HG1.out).mono ?_); rintro z w22 ⟨rfl, hg2⟩; have HG2 := Lib.hid hg2; clear hg2) | (go_at_call 25; (with_reducible refine (HC3.out _ HG2.out).mono ?_); rintro z w23 ⟨rfl, hg3⟩; have HG3 := Lib.hid hg3; clear hg3))
            all_goals
              clear e1 e2 e3 n1 n2 hcx hcy
              go_wp2_with fail
              go_roundw
              case rel => exact ⟨k + 1, _, _, O, by omega, by go_num, by rw [HST.out]; unfold Bk.step; rw [HV2.out]; exact HFO.out, by rw [HST.out]; unfold Bk.step; rw [HV2.out]; exact HG3.out⟩
              case measure => simp [intOf]; omega
        · obtain rfl : k = NN := by omega
          have HG := Lib.hid hG
          have HFO := Lib.hid hfo
          have hNN := HNN.out
          clear hG hlt hk hfo
          have key : (k < len ∧ ¬ k < 40) ∨ ¬ k < len := by omega
          clear hNN
          rcases key with ⟨h1, h2⟩ | h1
          · as_aux_lemma =>
            have d2 : decide ((k : Int) < 40) = false := by rw [decide_eq_false_iff_not]; omega
            clear h2
            go_wp2_with fail
            go_meet
            exact ⟨d, tot, O, HFO.out, HG.out⟩
          · as_aux_lemma =>
            have d1 : decide (k < len) = false := by rw [decide_eq_false_iff_not]; omega
            go_wp2_with fail
            go_meet
            exact ⟨d, tot, O, HFO.out, HG.out⟩
      -- END second
    case rest =>
      -- BEGIN rest
      clear HG HFS
      obtain ⟨d, tot, O, hfo, hG⟩ := hcut
      rw [← HF.out, ← HT.out] at hfo
      obtain ⟨r1, r2, r3⟩ := follows_end hfo
      have hdn : d.done = true := by unfold Dec.done; rw [r1, r2]; rfl
      have hok := bkN_ok n f NN
      have HCB := Lib.hid (fun (nn : Nat) => dec_bad (hG.idle ((Step.refl [] wc O).drewN nn)).dec)
      rw [r3] at HCB
      have HCD := Lib.hid (fun (nn : Nat) => dec_done (hG.idle ((Step.refl [] wc O).drewN nn)).dec)
      rw [hdn] at HCD
      have ha := hok.2.1.2
      have hb := hok.2.2.1.2
      have hc := hok.2.2.2.2
      rw [HNe.out] at ha hb
      have HG := Lib.hid hG
      have HA := Lib.hid ha
      have HB := Lib.hid hb
      have HC := Lib.hid hc
      clear hfo r1 r2 r3 hdn hok hG ha hb hc HAH HF HT
      generalize (bkN n f NN).a = LA at *
      generalize (bkN n f NN).b = LB at *
      generalize (bkN n f NN).c = LC at *
      go_wp2_with fail
      go_loopw [18] (fun i wr => ∃ (q nn : Nat), q ≤ N ∧ i = .int .i64 q ∧ wr = wc.drewN nn) (fun i _ => N - (intOf i).toNat)
      case atStart => exact ⟨0, 0, by omega, rfl, rfl⟩
      case round =>
        obtain ⟨q, nn, hq, rfl, rfl⟩ := hrel
        by_cases hqN : q < N
        · have c1 := HG.out.six.a.cellAt (j := q) (by rw [HA.out]; exact hqN)
          have c2 := HG.out.six.p.cellAt (j := q) (by rw [HA.out]; exact hqN)
          have c3 := HG.out.six.b.cellAt (j := q) (by rw [HB.out]; exact hqN)
          have c4 := HG.out.six.q.cellAt (j := q) (by rw [HB.out]; exact hqN)
          generalize LA.getD q 0 = xa at *
          generalize LB.getD q 0 = xb at *
          have n1 : ((xa : Int) != (xa : Int)) = false := by simp
          have n2 : ((xb : Int) != (xb : Int)) = false := by simp
          have e1 : (0 : Int) ≤ (q : Int) := by omega
          have e2 : (q : Int) < (N : Int) := by omega
          have e3 : (q : Int).toNat = q := by omega
          go_wp2_with fail
          go_quiet (fail)
          clear c1 c2 c3 c4 n1 n2 e1 e2 e3
          go_wp2_with fail
          go_roundw
          case rel => exact ⟨q + 1, _, by omega, by go_num, rfl⟩
          case measure => simp [intOf]; omega
        · obtain rfl : q = N := by omega
          go_wp2_with fail
          go_loopw [19] (fun i wr => ∃ (q nn : Nat), q ≤ 768 ∧ i = .int .i64 q ∧ wr = wc.drewN nn) (fun i _ => 768 - (intOf i).toNat)
          case atStart => exact ⟨0, nn, by omega, rfl, rfl⟩
          case round =>
            obtain ⟨j, mm, hj, rfl, rfl⟩ := hrel
            by_cases hjN : j < 768
            · have c1 := HG.out.six.c.cellAt (j := j) (by rw [HC.out]; omega)
              have c2 := HG.out.six.r.cellAt (j := j) (by rw [HC.out]; omega)
              generalize LC.getD j 0 = xc at *
              have n1 : ((xc : Int) != (xc : Int)) = false := by simp
              have e1 : (0 : Int) ≤ (j : Int) := by omega
              have e2 : (j : Int) < (1024 : Int) := by omega
              have e3 : (j : Int).toNat = j := by omega
              have e4 : decide ((j : Int) < 768) = true := by rw [decide_eq_true_iff]; omega
              go_wp2_with fail
              go_quiet (fail)
              clear c1 c2 n1 e1 e2 e3 e4
              go_wp2_with fail
              go_roundw
              case rel => exact ⟨j + 1, _, by omega, by go_num, rfl⟩
              case measure => simp [intOf]; omega
            · obtain rfl : j = 768 := by omega
              clear hjN
              have HN0 := Lib.hid (fun (W : World) => new_at 0 0 (by omega) (.inl rfl) W (fun _ => 0) 0)
              have HN5 := Lib.hid (fun (W : World) => new_at (-5) 0 (by omega) (.inr (.inl ⟨by omega, rfl⟩)) W (fun _ => 0) 0)
              have HN40 := Lib.hid (fun (W : World) => new_at 40 16 (by omega) (.inr (.inr ⟨by omega, rfl⟩)) W (fun _ => 0) 0)
              have HBW := Lib.hid (show Below w.heap.size w (wc.drewN mm) from (HG.out.idle ((Step.refl [] wc O).drewN mm)).run.below)
              go_wp2_with fail
              refine (HCD.out mm).mono ?_
              rintro z w30 ⟨rfl, q3, hq3⟩
              have hw30 : w30 = wc.drewN (mm + q3) := by rw [hq3]; simp [World.drewN, Nat.add_assoc]
              have HB30 := Lib.hid (show Below w.heap.size w w30 by rw [hw30]; exact (HG.out.idle ((Step.refl [] wc O).drewN (mm + q3))).run.below)
              have HCB2 := Lib.hid (HCB.out (mm + q3))
              rw [← hw30] at HCB2
              clear hq3 hw30
              go_wp2_with fail
              refine HCB2.out.mono ?_
              rintro z w31 ⟨rfl, rfl⟩
              go_wp2_with fail
              refine (HN0.out _).mono ?_
              rintro z w32 ⟨rfl, O2, hs2, _⟩
              have HB32 := Lib.hid (HB30.out.trans ((hs2.below (Nat.le_refl _) (fun _ _ h => by cases h)).mono HB30.out.size))
              clear hs2
              go_wp2_with fail
              refine (HN5.out _).mono ?_
              rintro z w33 ⟨rfl, O3, hs3, _⟩
              have HB33 := Lib.hid (HB32.out.trans ((hs3.below (Nat.le_refl _) (fun _ _ h => by cases h)).mono HB32.out.size))
              clear hs3
              go_wp2_with fail
              refine (HN40.out _).mono ?_
              rintro z w34 ⟨rfl, O4, hs4, _⟩
              have HB34 := Lib.hid (HB33.out.trans ((hs4.below (Nat.le_refl _) (fun _ _ h => by cases h)).mono HB33.out.size))
              clear hs4
              go_wp2_with fail
              go_ret
              exact ⟨ret_bool (by simp), HB34.out⟩
      -- END rest
end Go.Proofs.Ytjfoolhgjnnhgaa.Rc
