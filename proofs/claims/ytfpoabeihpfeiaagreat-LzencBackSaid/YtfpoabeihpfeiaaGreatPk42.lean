/-
  The document's model of layer 10: a byte.
  The document's model of layer 10: a byte beside another one.
-/
import Derived.Test.YtfpoabeihpfeiaaGreatPk41

set_option maxRecDepth 100000
set_option maxHeartbeats 16000000
set_option linter.unusedVariables false
set_option linter.unusedSimpArgs false
open Go.Lib (hid)
section
namespace Go.Proofs.YtfpoabeihpfeiaaGreat.Dc
open Go.RowKit Go.Maps
open Rc Mo
open Pk (Rp)
theorem text_at (l : List UInt8) (d : Int) (h : Wnd.there d l.length = true) {n : Nat} (hn : n + d.toNat = l.length) (hp : n < (⟨l.toArray⟩ : ByteArray).size) :
  ((⟨l.toArray⟩ : ByteArray)[n]'hp).toNat = atB l d := by
 have hd : 1 <= d /\ d <= (l.length : Int) := by simpa [Wnd.there] using h
 have hlt : n < l.length := by omega
 unfold atB
 rw [if_pos h, show l.length - d.toNat = n from by omega]
 simp [hlt, List.getD]
 rfl
theorem w64s {a b T : Nat} (hT : T < 16) (h : T = a + b) : wrap64 ((a : Int) + wrap64 (b : Int)) = (T : Int) := by unfold wrap64; omega
theorem there_one {l : List UInt8} (h : 0 < l.length) : Wnd.there 1 l.length = true := by simp [Wnd.there]; omega
section
variable {w : World} {O : Paint} {d B N cd ce : Nat} {m : Ms} {Q : Qs} {v : Value} {e : Enc}
theorem dbyte_plain (h : DocAt w O cd d B N m Q) (he : EncV w O ce v e) (hne : cd ≠ ce) (ht : e.turns <= 700000) (hm : m.lc + m.lp <= 4) (hl : m.l.length <= 1000000000) (hst : m.st < 7) (b : Nat) (hb : b < 256) (hN : N <= 800000000) :
  Calls Tryz.prog 37 #[.pointer (some ⟨d, 0, none⟩), .agg #[v, .int .u64 e.size], .int .i64 b] w (DocTo w O cd ce d B (N + 8) m ((⟨e, Q⟩ : Es).byte m.lc m.lp m.st m.l m.r.a b)) := by
 have HBE : Hid ((⟨e, Q⟩ : Es).byte m.lc m.lp m.st m.l m.r.a b = (⟨e, Q⟩ : Es).num 100 (ctx m.lc m.lp m.l) 8 b) := hid (by unfold Es.byte; rw [if_pos hst])
 rw [HBE.out]
 clear HBE
 obtain ⟨f, hH⟩ := Held1.start h he hne
 have HH := hid hH
 have hct : ctx m.lc m.lp m.l = (m.l.length % 2 ^ m.lp) * 2 ^ m.lc + atB m.l 1 / 2 ^ (8 - m.lc) := rfl
 have hT16 : ctx m.lc m.lp m.l < 16 := Nat.lt_of_lt_of_le (ctx_lt hm m.l) (Nat.pow_le_pow_right (n := 2) (by omega) hm)
 have hy0 := atB_lt m.l 1
 have hT0 : Hid ((⟨e, Q⟩ : Es).e.turns <= 700000) := hid ht
 have HP1 := hid (fun W => power_any m.lp (by omega) W)
 have HP2 := hid (fun W => power_any m.lc (by omega) W)
 have HP3 := hid (fun W => power_any (8 - m.lc) (by omega) W)
 have p1 : 0 < 2 ^ m.lp := Nat.two_pow_pos _
 have p2 : 0 < 2 ^ m.lc := Nat.two_pow_pos _
 have p3 : 0 < 2 ^ (8 - m.lc) := Nat.two_pow_pos _
 have g1 : 2 ^ m.lp <= 2 ^ 4 := Nat.pow_le_pow_right (by omega) (by omega)
 have g2 : 2 ^ m.lc <= 2 ^ 4 := Nat.pow_le_pow_right (by omega) (by omega)
 have hx0 : m.l.length % 2 ^ m.lp < 2 ^ m.lp := Nat.mod_lt _ p1
 have e1 : Int.tmod (m.l.length : Int) ((2 ^ m.lp : Nat) : Int) = ((m.l.length % 2 ^ m.lp : Nat) : Int) := by rw [Int.tmod_eq_emod_of_nonneg (by omega)]; exact (Int.natCast_emod _ _).symm
 have e3 := quo_pow (x := atB m.l 1) p3
 have k8 : IntKind.i64.wrap (8 - (m.lc : Int)) = ((8 - m.lc : Nat) : Int) := by rw [IntKind.wrap_i64]; omega
 have HS0 := hid (fun (n : Nat) hn hp => text_at m.l 1 (n := n) · hn hp)
 have hz := size_text m.l
 have hX16 : (m.l.length % 2 ^ m.lp) * 2 ^ m.lc <= 16 * 16 := Nat.mul_le_mul (by omega) (by omega)
 clear h he hH ht hm
 generalize hs0 : (⟨e, Q⟩ : Es) = s0 at *
 clear hs0
 go_enter Tryz.func37, Tryz.ntmps37
 go_upto_region 2 with (fail)
 generalize (w.alloc (.cells #[v, .int .u64 e.size] 46)).alloc (.cells #[.slice none 0 0, .int .u64 0] 46) = W1 at *
 generalize Step.paint O w f = O1 at *
 generalize w.heap.size = X at *
 have HY0 : Hid (m.l.length = 0 -> atB m.l 1 = 0) := hid (fun h => by unfold atB; rw [h]; rfl)
 have HC0 := hid (ten HH.out.doc.blk.1)
 have HCE := hid (fun k => ten ((HH.out.idle ((Step.refl [] W1 O1).drewN k)).doc.blk.1))
 generalize (⟨m.l.toArray⟩ : ByteArray) = tx at *
 have hzb : (tx.size : Int) <= 1000000000 := by omega
 rw [<- hz] at e1
 have HZ := hid hz
 have HE1 := hid e1
 have HCT := hid hct
 clear hz hct e1
 generalize atB m.l 1 = y0 at *
 have hlz : decide ((0 : Int) < (tx.size : Int)) = decide (0 < m.l.length) := by have := HZ.out; rw [decide_eq_decide]; omega
 obtain ⟨c0, c1, c2, c3, c4, c5, c6, c7, c8, c9⟩ := HC0.out
 go_upto_if 21 with (fail)
 go_cut [7] from 22 to 33 (fun v wr => v = .int .i64 y0 /\ ∃ n, wr = W1.drewN n)
 case first =>
  as_aux_lemma =>
  clear HCE
  by_cases hl0 : m.l.length = 0
  · have hz0 : (tx.size : Int) = 0 := by have := HZ.out; omega
    have hz1 : decide (0 < (tx.size : Int)) = false := by rw [hz0]; rfl
    go_wp2_with fail
    go_meet
    exact ⟨by rw [HY0.out hl0]; rfl, 0, rfl⟩
  · have hz0 : (0 : Int) < (tx.size : Int) := by have := HZ.out; omega
    obtain ⟨n, hn⟩ : ∃ n : Nat, (tx.size : Int) = (n : Int) + 1 := ⟨m.l.length - 1, by have := HZ.out; omega⟩
    have hw : IntKind.i64.wrap ((tx.size : Int) - 1) = (n : Int) := by rw [IntKind.wrap_i64]; omega
    have hnn : n < tx.size := by omega
    have hv := HS0.out (there_one (by omega)) n (by have := HZ.out; simp; omega)
    have hn0 : (0 : Int) <= (n : Int) := by omega
    have hn1 : (n : Int) < (tx.size : Int) := by omega
    clear HP1 HP2 HP3 HE1 HCT HS0 HY0 HZ
    go_upto_region 3 with (fail)
    go_quiet (fail)
    go_wp2_with fail
    go_meet
    exact ⟨rfl, _, rfl⟩
 case rest =>
  clear c0 c1 c2 c3 c4 c5 c6 c7 c8 c9 HC0 HS0 HY0
  obtain ⟨rfl, nn, rfl⟩ := hcut
  obtain ⟨c0, c1, c2, c3, c4, c5, c6, c7, c8, c9⟩ := HCE.out nn
  have HD2 := hid (HH.out.idle ((Step.refl [] W1 O1).drewN nn))
  generalize W1.drewN nn = W2 at *
  have e1 := HE1.out
  have e2 := HCT.out
  clear HE1 HCT HCE HH HZ
  generalize m.l.length % 2 ^ m.lp = x0 at *
  generalize hT : ctx m.lc m.lp m.l = T at *
  have e4 : IntKind.i64.wrap (((x0 * 2 ^ m.lc : Nat) : Int) + ((y0 / 2 ^ (8 - m.lc) : Nat) : Int)) = (T : Int) := by rw [IntKind.wrap_i64]; omega
  generalize 2 ^ m.lp = q1 at *
  generalize 2 ^ m.lc = q2 at *
  generalize 2 ^ (8 - m.lc) = q3 at *
  have e5 : IntKind.i64.wrap ((x0 : Int) * (q2 : Int)) = ((x0 * q2 : Nat) : Int) := by
   rw [show (x0 : Int) * (q2 : Int) = ((x0 * q2 : Nat) : Int) from by push_cast; rfl]
   generalize x0 * q2 = z at *
   rw [IntKind.wrap_i64]; omega
  have i1 : (q1 : Int) ≠ 0 := by omega
  have i3 : (q3 : Int) ≠ 0 := by omega
  generalize x0 * q2 = z2 at *
  generalize y0 / q3 = z3 at *
  generalize 8 - m.lc = e8 at *
  generalize m.lc = lc at *
  generalize m.lp = lp at *
  have HV := hid (w64s (a := z2) (b := z3) (T := T) hT16 e2)
  clear hX16 g1 g2 hx0 hy0 e2
  go_upto_region 4 with (fail)
  go_quiet ((go_at_call 58; first | (with_reducible exact Calls.quiet_of_same (still (HP1.out _))) | (with_reducible exact Calls.quiet_of_same (still (HP2.out _))) | (with_reducible exact Calls.quiet_of_same (still (HP3.out _)))))
  have HD3 := hid (HD2.out.idle ((Step.refl [] W2 O1).drewN nq))
  have hc4 := (ten HD3.out.doc.blk.1).2.2.2.2.1
  rw [HV.out]
  clear c0 c1 c2 c3 c4 c5 c6 c7 c8 c9 HD2 HP1 HP2 HP3 HV e4 e5 i1 i3 p1 p2 p3
  generalize W2.drewN nq = W3 at *
  obtain ⟨g, cap, rfl⟩ := HD3.out.enc.form
  obtain ⟨c0, c1, f0, f1⟩ := HD3.out.cells
  obtain ⟨z0, z1, y0', y1'⟩ := HD3.out.cellsZ
  have hst' : (m.st : Int) < 7 := by omega
  have HTR := hid (show Calls Tryz.prog 59 #[.pointer (some ⟨d, 0, none⟩), .agg #[.slice (some ⟨g, 0, none⟩) (s0.e.turns + 4) cap, .int .u64 s0.e.size], .int .i64 100, .int .i64 T, .int .i64 8, .int .i64 b, .bool false] W3 (DocTo W3 O1 cd ce d B (N + 8) m (s0.num 100 T 8 b)) from
   dtree_any HD3.out.doc HD3.out.enc HD3.out.n3 (by have := hT0.out; omega) (a := 100) (b := T) (n := 8) (x := b) (len := tlen 100 T) false (by rw [show tlen 100 T = 768 from rfl]; decide) (by omega) (by omega) (by omega) (by omega) (by omega))
  go_upto_region 6 with (fail)
  go_wp2_with fail
  refine HTR.out.mono ?_
  rintro z w8 ⟨v8, O8, rfl, hs8, hd8, he8⟩
  obtain ⟨g8, cap8, rfl⟩ := he8.form
  obtain ⟨x0, x1, b0, b1⟩ := HD3.out.cellsZ2 hs8
  go_wp2_with fail
  obtain ⟨W, hW, r0, r1, hr⟩ := HD3.out.ret hs8 hd8 he8
  rw [hW]
  have HR := hid hr
  clear hW hs8 hd8 he8 c0 c1 f0 f1 z0 z1 y0' y1' x0 x1 b0 b1 hr HTR
  refine bodyPost_ret (v := .agg #[.slice (some ⟨g8, 0, none⟩) ((s0.num 100 T 8 b).e.turns + 4) cap8, .int .u64 ((s0.num 100 T 8 b).e.size : Int)]) ?_ rfl HR.out
  simp [results, Tryz.results37, go_sem, r0, r1]
end
end Go.Proofs.YtfpoabeihpfeiaaGreat.Dc
end
section
namespace Go.Proofs.YtfpoabeihpfeiaaGreat.Dc
open Go.RowKit Go.Maps
open Rc Mo
open Pk (Rp)
theorem beq_dec (a b : Nat) : ((a : Int) == (b : Int)) = decide (a = b) := by rw [Bool.eq_iff_iff]; simp; omega
section
variable {w : World} {O : Paint} {d B N cd ce : Nat} {m : Ms} {Q : Qs} {v : Value} {e : Enc}
theorem dbyte_like (h : DocAt w O cd d B N m Q) (he : EncV w O ce v e) (hne : cd ≠ ce) (ht : e.turns <= 700000) (hm : m.lc + m.lp <= 4) (hl : m.l.length <= 1000000000) (hst : ¬ m.st < 7) (hr : Wnd.there m.r.a m.l.length = true) (b : Nat) (hb : b < 256) (hN : N <= 800000000) :
  Calls Tryz.prog 37 #[.pointer (some ⟨d, 0, none⟩), .agg #[v, .int .u64 e.size], .int .i64 b] w (DocTo w O cd ce d B (N + 8) m ((⟨e, Q⟩ : Es).byte m.lc m.lp m.st m.l m.r.a b)) := by
 have HBE : Hid ((⟨e, Q⟩ : Es).byte m.lc m.lp m.st m.l m.r.a b = (⟨e, Q⟩ : Es).like 100 (ctx m.lc m.lp m.l) b (atB m.l m.r.a)) := hid (by unfold Es.byte; rw [if_neg hst])
 rw [HBE.out]
 clear HBE
 have hrr : 1 <= m.r.a /\ m.r.a <= (m.l.length : Int) := by simpa [Wnd.there] using hr
 have hok : (⟨e, Q⟩ : Es).Ok := ⟨he.fine, h.q⟩
 have hO8 := atB_lt m.l m.r.a
 have HPK := hid (fun i hi => likeN_ok b (atB m.l m.r.a) 768 (Nat.le_refl _) (hok.t0 100 (ctx m.lc m.lp m.l) 768) i hi)
 have HTU := hid (fun i => likeN_turns b (atB m.l m.r.a) ((⟨e, Q⟩ : Es).t0 100 (ctx m.lc m.lp m.l) 768) i)
 have HOF := hid (of_t0 (⟨e, Q⟩ : Es) 100 (ctx m.lc m.lp m.l) 768)
 have HLK : Hid ((⟨e, Q⟩ : Es).like 100 (ctx m.lc m.lp m.l) b (atB m.l m.r.a) = (⟨e, Q⟩ : Es).of 100 (ctx m.lc m.lp m.l) (likeN b (atB m.l m.r.a) ((⟨e, Q⟩ : Es).t0 100 (ctx m.lc m.lp m.l) 768) 8).1) := hid rfl
 rw [HLK.out]
 clear HLK hok
 have HPN : Hid (∀ i, likeN b (atB m.l m.r.a) ((⟨e, Q⟩ : Es).t0 100 (ctx m.lc m.lp m.l) 768) (i + 1) = ((likeN b (atB m.l m.r.a) ((⟨e, Q⟩ : Es).t0 100 (ctx m.lc m.lp m.l) 768) i).1.at (place (likeN b (atB m.l m.r.a) ((⟨e, Q⟩ : Es).t0 100 (ctx m.lc m.lp m.l) 768) i).1.m (likeN b (atB m.l m.r.a) ((⟨e, Q⟩ : Es).t0 100 (ctx m.lc m.lp m.l) 768) i).2 (bitAt (atB m.l m.r.a) (7 - i))) (bitAt b (7 - i)), (likeN b (atB m.l m.r.a) ((⟨e, Q⟩ : Es).t0 100 (ctx m.lc m.lp m.l) 768) i).2 && (bitAt b (7 - i) == bitAt (atB m.l m.r.a) (7 - i)))) := hid (fun i => rfl)
 have HT1 : Hid ((likeN b (atB m.l m.r.a) ((⟨e, Q⟩ : Es).t0 100 (ctx m.lc m.lp m.l) 768) 0).1.m = 1 /\ (likeN b (atB m.l m.r.a) ((⟨e, Q⟩ : Es).t0 100 (ctx m.lc m.lp m.l) 768) 0).2 = true /\ (likeN b (atB m.l m.r.a) ((⟨e, Q⟩ : Es).t0 100 (ctx m.lc m.lp m.l) 768) 0).1 = (⟨e, Q⟩ : Es).t0 100 (ctx m.lc m.lp m.l) 768) := hid ⟨rfl, rfl, rfl⟩
 have HET : Hid (((⟨e, Q⟩ : Es).t0 100 (ctx m.lc m.lp m.l) 768).e.turns = e.turns) := hid rfl
 obtain ⟨f, hH⟩ := Held1.start h he hne
 have HH := hid hH
 have hct : ctx m.lc m.lp m.l = (m.l.length % 2 ^ m.lp) * 2 ^ m.lc + atB m.l 1 / 2 ^ (8 - m.lc) := rfl
 have hT16 : ctx m.lc m.lp m.l < 16 := Nat.lt_of_lt_of_le (ctx_lt hm m.l) (Nat.pow_le_pow_right (n := 2) (by omega) hm)
 have hy0 := atB_lt m.l 1
 have hT0 : Hid (e.turns <= 700000) := hid ht
 have HP1 := hid (fun W => power_any m.lp (by omega) W)
 have HP2 := hid (fun W => power_any m.lc (by omega) W)
 have HP3 := hid (fun W => power_any (8 - m.lc) (by omega) W)
 have p1 : 0 < 2 ^ m.lp := Nat.two_pow_pos _
 have p2 : 0 < 2 ^ m.lc := Nat.two_pow_pos _
 have p3 : 0 < 2 ^ (8 - m.lc) := Nat.two_pow_pos _
 have g1 : 2 ^ m.lp <= 2 ^ 4 := Nat.pow_le_pow_right (by omega) (by omega)
 have g2 : 2 ^ m.lc <= 2 ^ 4 := Nat.pow_le_pow_right (by omega) (by omega)
 have hx0 : m.l.length % 2 ^ m.lp < 2 ^ m.lp := Nat.mod_lt _ p1
 have e1 : Int.tmod (m.l.length : Int) ((2 ^ m.lp : Nat) : Int) = ((m.l.length % 2 ^ m.lp : Nat) : Int) := by rw [Int.tmod_eq_emod_of_nonneg (by omega)]; exact (Int.natCast_emod _ _).symm
 have e3 := quo_pow (x := atB m.l 1) p3
 have k8 : IntKind.i64.wrap (8 - (m.lc : Int)) = ((8 - m.lc : Nat) : Int) := by rw [IntKind.wrap_i64]; omega
 have HS1 := hid (fun (n : Nat) hn hp => text_at m.l m.r.a hr (n := n) hn hp)
 have HS0 := hid (fun (n : Nat) hn hp => text_at m.l 1 (n := n) · hn hp)
 have hz := size_text m.l
 have hX16 : (m.l.length % 2 ^ m.lp) * 2 ^ m.lc <= 16 * 16 := Nat.mul_le_mul (by omega) (by omega)
 clear h he hH ht hm hr
 generalize (⟨e, Q⟩ : Es).t0 100 (ctx m.lc m.lp m.l) 768 = T0 at *
 generalize atB m.l m.r.a = oth at *
 generalize hs0 : (⟨e, Q⟩ : Es) = s0 at *
 clear hs0
 go_enter Tryz.func37, Tryz.ntmps37
 go_upto_region 2 with (fail)
 generalize (w.alloc (.cells #[v, .int .u64 e.size] 46)).alloc (.cells #[.slice none 0 0, .int .u64 0] 46) = W1 at *
 generalize Step.paint O w f = O1 at *
 generalize w.heap.size = X at *
 have HY0 : Hid (m.l.length = 0 -> atB m.l 1 = 0) := hid (fun h => by unfold atB; rw [h]; rfl)
 have HC0 := hid (ten HH.out.doc.blk.1)
 have HCE := hid (fun k => ten ((HH.out.idle ((Step.refl [] W1 O1).drewN k)).doc.blk.1))
 have HCF := hid (fun j k => ten (((HH.out.idle ((Step.refl [] W1 O1).drewN j)).idle ((Step.refl [] (W1.drewN j) O1).drewN k)).doc.blk.1))
 generalize (⟨m.l.toArray⟩ : ByteArray) = tx at *
 have hzb : (tx.size : Int) <= 1000000000 := by omega
 rw [<- hz] at e1
 have HZ := hid hz
 have HE1 := hid e1
 have HCT := hid hct
 clear hz hct e1
 generalize atB m.l 1 = y0 at *
 have hlz : decide ((0 : Int) < (tx.size : Int)) = decide (0 < m.l.length) := by have := HZ.out; rw [decide_eq_decide]; omega
 obtain ⟨c0, c1, c2, c3, c4, c5, c6, c7, c8, c9⟩ := HC0.out
 go_upto_if 21 with (fail)
 go_cut [7] from 22 to 33 (fun v wr => v = .int .i64 y0 /\ ∃ n, wr = W1.drewN n)
 case first =>
  as_aux_lemma =>
  clear HCE HCF
  by_cases hl0 : m.l.length = 0
  · exfalso; omega
  · have hz0 : (0 : Int) < (tx.size : Int) := by have := HZ.out; omega
    obtain ⟨n, hn⟩ : ∃ n : Nat, (tx.size : Int) = (n : Int) + 1 := ⟨m.l.length - 1, by have := HZ.out; omega⟩
    have hw : IntKind.i64.wrap ((tx.size : Int) - 1) = (n : Int) := by rw [IntKind.wrap_i64]; omega
    have hnn : n < tx.size := by omega
    have hv := HS0.out (there_one (by omega)) n (by have := HZ.out; simp; omega)
    have hn0 : (0 : Int) <= (n : Int) := by omega
    have hn1 : (n : Int) < (tx.size : Int) := by omega
    clear HP1 HP2 HP3 HE1 HCT HS0 HS1 HY0 HZ HPK HTU HOF HPN HT1 HET
    go_upto_region 3 with (fail)
    go_quiet (fail)
    go_wp2_with fail
    go_meet
    exact ⟨rfl, _, rfl⟩
 case rest =>
  clear c0 c1 c2 c3 c4 c5 c6 c7 c8 c9 HC0 HS0 HY0
  obtain ⟨rfl, nn, rfl⟩ := hcut
  obtain ⟨c0, c1, c2, c3, c4, c5, c6, c7, c8, c9⟩ := HCE.out nn
  have HCG := hid (HCF.out nn)
  clear HCF
  have HD2 := hid (HH.out.idle ((Step.refl [] W1 O1).drewN nn))
  generalize W1.drewN nn = W2 at *
  have e1 := HE1.out
  have e2 := HCT.out
  clear HE1 HCT HCE HH
  have HZ2 := HZ
  clear HZ
  generalize m.l.length % 2 ^ m.lp = x0 at *
  generalize hT : ctx m.lc m.lp m.l = T at *
  have e4 : IntKind.i64.wrap (((x0 * 2 ^ m.lc : Nat) : Int) + ((y0 / 2 ^ (8 - m.lc) : Nat) : Int)) = (T : Int) := by rw [IntKind.wrap_i64]; omega
  generalize 2 ^ m.lp = q1 at *
  generalize 2 ^ m.lc = q2 at *
  generalize 2 ^ (8 - m.lc) = q3 at *
  have e5 : IntKind.i64.wrap ((x0 : Int) * (q2 : Int)) = ((x0 * q2 : Nat) : Int) := by
   rw [show (x0 : Int) * (q2 : Int) = ((x0 * q2 : Nat) : Int) from by push_cast; rfl]
   generalize x0 * q2 = z at *
   rw [IntKind.wrap_i64]; omega
  have i1 : (q1 : Int) ≠ 0 := by omega
  have i3 : (q3 : Int) ≠ 0 := by omega
  generalize x0 * q2 = z2 at *
  generalize y0 / q3 = z3 at *
  generalize 8 - m.lc = e8 at *
  generalize m.lc = lc at *
  generalize m.lp = lp at *
  have HV := hid (w64s (a := z2) (b := z3) (T := T) hT16 e2)
  clear hX16 g1 g2 hx0 hy0 e2
  go_upto_region 4 with (fail)
  go_quiet ((go_at_call 58; first | (with_reducible exact Calls.quiet_of_same (still (HP1.out _))) | (with_reducible exact Calls.quiet_of_same (still (HP2.out _))) | (with_reducible exact Calls.quiet_of_same (still (HP3.out _)))))
  have HD3 := hid (HD2.out.idle ((Step.refl [] W2 O1).drewN nq))
  rw [HV.out]
  clear c0 c1 c2 c3 c4 c5 c6 c7 c8 c9 HD2 HP1 HP2 HP3 HV e4 e5 i1 i3 p1 p2 p3
  obtain ⟨c0, c1, c2, c3, c4, c5, c6, c7, c8, c9⟩ := HCG.out nq
  clear HCG
  generalize W2.drewN nq = W3 at *
  have hst' : ¬ (m.st : Int) < 7 := by omega
  have hst2 : decide ((m.st : Int) < 7) = false := by simpa using hst'
  obtain ⟨n1, hn1⟩ : ∃ n1 : Nat, (n1 : Int) + m.r.a = (m.l.length : Int) := ⟨((m.l.length : Int) - m.r.a).toNat, by omega⟩
  have hzz : (tx.size : Int) = (m.l.length : Int) := HZ2.out
  have hwr : IntKind.i64.wrap ((tx.size : Int) - m.r.a) = (n1 : Int) := by rw [IntKind.wrap_i64]; omega
  have hwr2 : wrap64 ((tx.size : Int) - m.r.a) = (n1 : Int) := by unfold wrap64; omega
  have hnn : n1 < tx.size := by omega
  have hv := HS1.out n1 (by omega) hnn
  have hx0 : (0 : Int) <= (n1 : Int) := by omega
  have hx1 : (n1 : Int) < (tx.size : Int) := by omega
  clear HS1 HZ2 hzz hn1 hrr
  go_upto_region 7 with (fail)
  go_quiet (fail)
  have HD4 := hid (HD3.out.idle ((Step.refl [] W3 O1).drewN nq))
  generalize W3.drewN nq = W4 at *
  clear c0 c1 c2 c3 c4 c5 c6 c7 c8 c9 HD3 hwr hwr2 hnn hv hx0 hx1 hst' hst2
  rw [<- HOF.out] at HD4
  have HET4 : Hid (T0.e.turns <= 700000) := hid (by have := HET.out; have := hT0.out; omega)
  clear HOF HET hT0
  go_wp2_with fail
  go_loopw [10, 11, 12, 13, 14, 15] (fun at' li i _ _ _ wr => ∃ (k : Nat) (v' : Value) (O' : Paint), k <= 8 /\ i = .int .i64 (7 - (k : Int)) /\ at' = .int .i64 ((likeN b oth T0 k).1.m : Int) /\ li = .bool (likeN b oth T0 k).2 /\ Held1 w O f cd ce d B (N + k) X (X + 1) m (s0.of 100 T (likeN b oth T0 k).1) wr O' v') (fun _ _ i _ _ _ _ => (intOf i + 1).toNat)
  case atStart => exact ⟨0, v, O1, by omega, rfl, by rw [HT1.out.1]; rfl, by rw [HT1.out.2.1], by rw [HT1.out.2.2]; exact HD4.out⟩
  case round =>
   clear HD4
   obtain ⟨k, v', O', hk, rfl, rfl, rfl, hL⟩ := hrel
   by_cases hlt : k < 8
   · have hS := HPK.out k hk
     have hT := HTU.out k
     have hpl := place_lt (like := (likeN b oth T0 k).2) hS.2.2.2 hlt (bitAt_le oth (7 - k))
     have hm9 : (likeN b oth T0 k).1.m < 512 := Nat.lt_of_lt_of_le hS.2.2.2 (by have : 2 ^ (k + 1) <= 2 ^ 8 := Nat.pow_le_pow_right (by omega) (by omega); omega)
     have hlen : place (likeN b oth T0 k).1.m (likeN b oth T0 k).2 (bitAt oth (7 - k)) < (likeN b oth T0 k).1.l.length := by rw [hS.2.2.1]; exact hpl
     have HOA := hid (fun u => of_at (s := s0) (a := 100) (b := T) (v := u) hlen)
     have HNX := hid (HPN.out k)
     have HET2 : Hid ((s0.of 100 T (likeN b oth T0 k).1).e.turns <= 800100) := hid (by
      show (likeN b oth T0 k).1.e.turns <= _
      have := HET4.out
      omega)
     obtain ⟨g, cap, rfl⟩ := hL.enc.form
     have HL := hid hL
     have HPLC : Hid (place (likeN b oth T0 k).1.m (likeN b oth T0 k).2 (bitAt oth (7 - k)) = if (likeN b oth T0 k).2 then (likeN b oth T0 k).1.m + 256 + 256 * bitAt oth (7 - k) else (likeN b oth T0 k).1.m) := hid rfl
     clear hL hS hT hlen
     generalize (likeN b oth T0 k).2 = li at *
     generalize (likeN b oth T0 k).1 = S at *
     have HSM := hid (show ∀ p u, (S.at p u).m = 2 * S.m + u from fun _ _ => rfl)
     generalize hsm : S.m = mm at *
     have HMM := hid hsm
     clear hsm
     obtain ⟨j, hj⟩ : ∃ j : Nat, j = 7 - k := ⟨_, rfl⟩
     have hji : (7 : Int) - (k : Int) = (j : Int) := by omega
     have hj8 : j <= 7 := by omega
     have hj0 : (0 : Int) <= (j : Int) := by omega
     rw [<- hj] at HNX hpl HPLC HOA
     rw [hji]
     have HPW := hid (power_any j (by omega))
     obtain ⟨bb, hbb⟩ : ∃ bb, bb = bitAt b j := ⟨_, rfl⟩
     obtain ⟨bc, hbc⟩ : ∃ bc, bc = bitAt oth j := ⟨_, rfl⟩
     have hbl : bb <= 1 := by rw [hbb]; exact bitAt_le _ _
     have hcl : bc <= 1 := by rw [hbc]; exact bitAt_le _ _
     rw [<- hbb, <- hbc] at HNX
     rw [<- hbc] at hpl HPLC HOA
     have hq : 0 < 2 ^ j := Nat.two_pow_pos j
     have hq2 : 2 ^ j <= 2 ^ 7 := Nat.pow_le_pow_right (by omega) hj8
     obtain ⟨y, hy⟩ : ∃ y, y = b / 2 ^ j := ⟨_, rfl⟩
     obtain ⟨z, hz⟩ : ∃ z, z = oth / 2 ^ j := ⟨_, rfl⟩
     have hyx : y <= b := by rw [hy]; exact Nat.div_le_self _ _
     have hzx : z <= oth := by rw [hz]; exact Nat.div_le_self _ _
     have hyb : bb = y % 2 := by rw [hbb, hy]; rfl
     have hzb2 : bc = z % 2 := by rw [hbc, hz]; rfl
     have e1 := quo_pow (x := b) hq
     have e3 := quo_pow (x := oth) hq
     rw [<- hy] at e1
     rw [<- hz] at e3
     have e2 := rem_two y
     have e4 := rem_two z
     rw [<- hyb] at e2
     rw [<- hzb2] at e4
     have w1 : IntKind.i64.wrap (y : Int) = (y : Int) := by rw [IntKind.wrap_i64]; omega
     have w2 : IntKind.i64.wrap (z : Int) = (z : Int) := by rw [IntKind.wrap_i64]; omega
     have hqi : ((2 ^ j : Nat) : Int) ≠ 0 := by omega
     have HJ := hid hj
     clear hj hji hy hz hyb hzb2 hbb hbc HPN HPK HTU HT1 HET4
     generalize 2 ^ j = q at *
     have hw3 : IntKind.i64.wrap (2 * (mm : Int) + (bb : Int)) = 2 * (mm : Int) + (bb : Int) := by rw [IntKind.wrap_i64]; omega
     go_upto_region 12 with (fail)
     go_quiet ((go_at_call 58; (with_reducible exact Calls.quiet_of_same (still (HPW.out _)))))
     have HL2 := hid (HL.out.idle ((Step.refl [] wr O').drewN nq))
     generalize wr.drewN nq = W5 at *
     have hm0 : (mm : Int) + 256 + 256 * (bc : Int) = ((mm + 256 + 256 * bc : Nat) : Int) := by omega
     have vm : IntKind.i64.wrap ((mm : Int) + 256 + 256 * (bc : Int)) = (mm : Int) + 256 + 256 * (bc : Int) := by rw [IntKind.wrap_i64]; omega
     have vj : IntKind.i64.wrap ((j : Int) - 1) = (j : Int) - 1 := by rw [IntKind.wrap_i64]; omega
     obtain ⟨c0, c1, f0, f1⟩ := HL2.out.cells
     clear HL HPW e1 e2 e3 e4 w1 w2 hqi hq hq2 hyx hzx
     cases li with
     | true =>
      have HNXT : Hid (likeN b oth T0 (k + 1) = (S.at (mm + 256 + 256 * bc) bb, decide (bb = bc))) := hid (by
       rw [HNX.out, HPLC.out, if_pos rfl, Bool.true_and]
       rfl)
      rw [HPLC.out, if_pos rfl] at HOA hpl
      have hdb : decide ((bb : Int) = (bc : Int)) = decide (bb = bc) := by rw [decide_eq_decide]; omega
      have HB := hid (dbit_any HL2.out.doc HL2.out.enc HL2.out.n3 (by have := HET2.out; omega) (a := 100) (b := T) (c := mm + 256 + 256 * bc) (x := bb) (by omega) (by omega) (by omega) hbl (by omega))
      rw [show (⟨(s0.of 100 T S).e, (s0.of 100 T S).q⟩ : Es) = s0.of 100 T S from rfl, HOA.out bb, <- hm0] at HB
      clear HNX HPLC HOA hpl hm0
      go_wp2_with fail
      refine HB.out.mono ?_
      rintro z9 w6 ⟨v5, O5, rfl, hs5, hd5, he5⟩
      obtain ⟨g5, cap5, rfl⟩ := he5.form
      have HN5 := hid (HL2.out.next hs5 hd5 he5)
      clear c0 c1 f0 f1
      obtain ⟨c0, c1, f0, f1⟩ := HL2.out.cells2 hs5
      clear hs5 hd5 he5 HL2 HB
      go_wp2_with fail
      go_roundw
      case rel => exact ⟨k + 1, _, _, by omega, by have := HJ.out; rw [show (7 : Int) - ((k + 1 : Nat) : Int) = (j : Int) - 1 from by omega], by rw [HNXT.out, HSM.out] <;> first | (simp; done) | (rw [HMM.out]; simp; done), by rw [HNXT.out] <;> first | rfl | exact congrArg Value.bool (beq_dec bb bc), by rw [HNXT.out]; exact HN5.out⟩
      case measure => simp [intOf] <;> omega
     | false =>
      have HNXT : Hid (likeN b oth T0 (k + 1) = (S.at mm bb, false)) := hid (by
       rw [HNX.out, HPLC.out, if_neg (by simp), Bool.false_and])
      rw [HPLC.out, if_neg (by simp)] at HOA hpl
      have HB := hid (dbit_any HL2.out.doc HL2.out.enc HL2.out.n3 (by have := HET2.out; omega) (a := 100) (b := T) (c := mm) (x := bb) (by omega) (by omega) (by omega) hbl (by omega))
      rw [show (⟨(s0.of 100 T S).e, (s0.of 100 T S).q⟩ : Es) = s0.of 100 T S from rfl, HOA.out bb] at HB
      clear HNX HPLC HOA hpl hm0
      go_wp2_with fail
      refine HB.out.mono ?_
      rintro z9 w6 ⟨v5, O5, rfl, hs5, hd5, he5⟩
      obtain ⟨g5, cap5, rfl⟩ := he5.form
      have HN5 := hid (HL2.out.next hs5 hd5 he5)
      clear c0 c1 f0 f1
      obtain ⟨c0, c1, f0, f1⟩ := HL2.out.cells2 hs5
      clear hs5 hd5 he5 HL2 HB
      go_wp2_with fail
      go_roundw
      case rel => exact ⟨k + 1, _, _, by omega, by have := HJ.out; rw [show (7 : Int) - ((k + 1 : Nat) : Int) = (j : Int) - 1 from by omega], by rw [HNXT.out, HSM.out] <;> first | (simp; done) | (rw [HMM.out]; simp; done), by rw [HNXT.out] <;> first | rfl | exact congrArg Value.bool (beq_dec bb bc), by rw [HNXT.out]; exact HN5.out⟩
      case measure => simp [intOf] <;> omega
   · obtain rfl : k = 8 := by omega
     obtain ⟨g, cap, rfl⟩ := hL.enc.form
     have HL := hid hL
     obtain ⟨c0, c1, f0, f1⟩ := HL.out.cells
     obtain ⟨z0, z1, y0', y1'⟩ := HL.out.cellsZ
     obtain ⟨W, hW, r0, r1, hr⟩ := HL.out.done
     have HR := hid hr
     clear hL hr HPN HPK HTU HT1 HET4
     generalize (likeN b oth T0 8).2 = li at *
     generalize (likeN b oth T0 8).1 = S at *
     go_wp2_with fail
     refine bodyPost_ret (v := .agg #[.slice (some ⟨g, 0, none⟩) ((s0.of 100 T S).e.turns + 4) cap, .int .u64 ((s0.of 100 T S).e.size : Int)]) ?_ rfl HR.out
     simp [results, Tryz.results37, go_sem, r0, r1]
end
end Go.Proofs.YtfpoabeihpfeiaaGreat.Dc
end
