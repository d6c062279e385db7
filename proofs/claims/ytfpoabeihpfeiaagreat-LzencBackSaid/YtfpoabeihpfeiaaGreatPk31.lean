/-
  Package model: a model whole ('Whole'); Put, PutEnd.
  Package model: Get.
  Package model: Good, New, Text, Len; a model that there isn't.
  Package model: packets put one after another, and got again (mathematics).
-/
import Derived.Test.YtfpoabeihpfeiaaGreatPk26
import Derived.Test.YtfpoabeihpfeiaaGreatPk28
import Derived.Test.YtfpoabeihpfeiaaGreatPk29
import Derived.Test.YtfpoabeihpfeiaaGreatPk30

set_option maxRecDepth 100000
set_option maxHeartbeats 16000000
set_option linter.unusedVariables false
set_option linter.unusedSimpArgs false
open Go.Lib (hid)
section
namespace Go.Proofs.YtfpoabeihpfeiaaGreat.Mo
open Go.RowKit
open Rc
open Pk (Rp Pt four)
open Wnd (Win)
structure Mid where
 cw : Nat
 cm : Nat
 mo : Nat
 wb : Nat
 k : Nat
 gb : Nat
 cap : Nat
 nb : Nat
 wm : Nat
 tb : Nat -> Nat -> Nat
 most : Int
structure Whole (w : World) (O : Paint) (i : Mid) (m : Ms) (Q : Qs) : Prop where
 mod : ∃ v, ModAt w O i.cw i.mo i.wb v m.lc m.lp m.pb i.most i.wm m.l m.r m.st i.k
 lik : LikAt w O i.cm i.k i.gb i.cap i.nb i.tb Q
 q : QOk Q
 ok : m.Ok i.nb
 pos : m.r.pos
 len : m.l.length <= i.wm
 wmE : i.wm = i.most.toNat
 ne : i.cw ≠ i.cm
 bound : i.wm <= 1099511000000
 low : -9223372036854775808 <= i.most
section
variable {cs : List Nat} {w w' : World} {O O' : Paint} {i : Mid} {m : Ms} {Q : Qs} {c a : Nat} {e : Enc}
theorem Whole.step (h : Whole w O i m Q) (hs : Step cs w O w' O') (h1 : i.cw ∉ cs) (h2 : i.cm ∉ cs) : Whole w' O' i m Q := by
 obtain ⟨v, hm⟩ := h.mod
 exact ⟨⟨v, hm.step hs h1⟩, h.lik.step hs h2, h.q, h.ok, h.pos, h.len, h.wmE, h.ne, h.bound, h.low⟩
theorem Whole.most64 (h : Whole w O i m Q) : -9223372036854775808 <= i.most /\ i.most <= 9223372036854775807 := by
 have h1 := h.wmE
 have h2 := h.bound
 exact ⟨h.low, by omega⟩
theorem Whole.take (h : Whole w O i m Q) (p : Pt) (hb : p.b < 256) (x : Int × Int × Rp) (hx : fitM i.most m p = some x) :
  Calls Tryz.prog 55 #[.pointer (some ⟨i.mo, 0, none⟩), p.val, stepVal x] w fun e w' => e = .returned (.tuple #[]) /\ ∃ O', Step [i.cw] w O w' O' /\ Whole w' O' i (m.tell p x) Q := by
 obtain ⟨h1, h2⟩ := fitM_some hx
 obtain ⟨v, hm⟩ := h.mod
 obtain ⟨d, n, s⟩ := x
 obtain ⟨hl, hp⟩ := m.tell_len h.pos h1
 have hE := h.wmE
 have hB := h.bound
 have hL := h.len
 have hlen : (m.tell p (d, n, s)).l.length <= i.wm := by
  simp only at h2 hl
  omega
 have hok : (m.tell p (d, n, s)).Ok i.nb := by
  have h12 := nxt_lt (m.st : Int) p.k (by omega) (by have := h.ok.st12; omega)
  exact ⟨by show (St.nxt (m.st : Int) p.k).toNat < 12; omega, h.ok.lclp, h.ok.pb4, h.ok.nbe⟩
 have hend : ∀ {w' : World} {v' : Value} {O' : Paint}, Step [i.cw] w O w' O' -> ModAt w' O' i.cw i.mo i.wb v' m.lc m.lp m.pb i.most i.wm (m.tell p (d, n, s)).l s (St.nxt (m.st : Int) p.k).toNat i.k -> ∃ O', Step [i.cw] w O w' O' /\ Whole w' O' i (m.tell p (d, n, s)) Q :=
  fun hs hm' => ⟨_, hs, ⟨⟨_, hm'⟩, h.lik.step hs (by have := h.ne; simp; omega), h.q, hok, hp, hlen, h.wmE, h.ne, h.bound, h.low⟩⟩
 obtain ⟨_, h4⟩ := Pk.fit_some h1 h.pos
 rcases h4 with ⟨hk, rfl⟩ | ⟨hk, h5, h6, h7, _⟩
 · have ht := take_lit hm hB p.d p.n p.b hb (by simp only at h2; omega) (d, 1, s)
   rw [show p.val = .agg #[.int .i64 1, .int .i64 p.d, .int .i64 p.n, .int .u8 p.b] by unfold Pk.Pt.val; rw [hk]]
   refine ht.mono ?_
   rintro y w' ⟨rfl, v', O', hs, hm'⟩
   refine ⟨rfl, hend (v' := v') hs ?_⟩
   rw [hk]
   have e : (m.tell p (d, 1, s)).l = m.l ++ [UInt8.ofNat p.b] := if_pos hk
   rw [e]
   exact hm'
 · have ht := take_copy hm hB p.k p.d p.n p.b hk (d, n, s) h5 h6 (by simp only; omega) (by simp only at h2 ⊢; omega)
   refine ht.mono ?_
   rintro y w' ⟨rfl, v', O', hs, hm'⟩
   refine ⟨rfl, hend (v' := v') hs ?_⟩
   have e : (m.tell p (d, n, s)).l = Wnd.copied m.l d.toNat n.toNat := if_neg hk
   rw [e]
   exact hm'
theorem put_no (h : Whole w O i m Q) (A : Nat) (p : Pt) (hn : fitM i.most m p = none) :
  Calls Tryz.prog 30 #[.pointer (some ⟨i.mo, 0, none⟩), .pointer (some ⟨A, 0, none⟩), p.val] w fun x w' => x = .returned (.bool false) /\ Below w.heap.size w w' := by
 obtain ⟨v, hm⟩ := h.mod
 have hb1 : Below w.heap.size w (w.alloc (.cells #[.int .i64 p.k, .int .i64 p.d, .int .i64 p.n, .int .u8 p.b] 37)) := (Below.refl _ _).alloc (Nat.le_refl _) _
 obtain ⟨x, hd, hc⟩ := fit_any (hm.below hb1) h.pos h.most64 (by rw [<- h.wmE]; exact h.len) p
 rw [hn] at hc
 clear hd
 obtain ⟨d, n, r⟩ := x
 have HC := hid hc
 have HB1 := hid hb1
 unfold Pk.Pt.val
 unfold stepVal at HC
 simp only at HC
 clear hc hb1 hm h
 go_enter Tryz.func30, Tryz.ntmps30
 go_upto_region 1 with (fail)
 have hP := heap_alloc_new w (.cells #[.int .i64 p.k, .int .i64 p.d, .int .i64 p.n, .int .u8 p.b] 37)
 generalize w.alloc (.cells #[.int .i64 p.k, .int .i64 p.d, .int .i64 p.n, .int .u8 p.b] 37) = W1 at *
 obtain ⟨⟨p0, p1, p2, p3⟩, _, _⟩ := four hP
 go_wp2_with fail
 refine HC.out.mono ?_
 rintro y w2 ⟨rfl, hb2⟩
 go_upto_region 2 with (fail)
 have HB2 := hid ((HB1.out.trans (hb2.mono HB1.out.size)).alloc (Nat.le_trans HB1.out.size hb2.size) (.cells #[.int .i64 d, .int .i64 n, .int .i64 r.a, .int .i64 r.b, .int .i64 r.c, .int .i64 r.d] 109))
 clear hb2 hP p0 p1 p2 p3
 go_wp2_with fail
 go_ret
 exact ⟨rfl, HB2.out⟩
theorem put_yes (h : Whole w O i m Q) (he : EncAt w O c a e) (hc1 : i.cw ≠ c) (hc2 : c ≠ i.cm) (ht : e.turns <= 600000) (p : Pt) (hb : p.b < 256) (y : Int × Int × Rp) (hy : fitM i.most m p = some y) (q : Pk1) (hq : q.Ok) (hqp : q.pt = p) :
  Calls Tryz.prog 30 #[.pointer (some ⟨i.mo, 0, none⟩), .pointer (some ⟨a, 0, none⟩), p.val] w fun x w' => x = .returned (.bool true) /\ ∃ O', Step [c, i.cw, i.cm] w O w' O' /\ Whole w' O' i (m.tell p y) ((⟨e, Q⟩ : Es).code m q).q /\ EncAt w' O' c a ((⟨e, Q⟩ : Es).code m q).e := by
 obtain ⟨v, hm⟩ := h.mod
 obtain ⟨f, hf1, hf2, hf3⟩ : ∃ f, f ≠ c /\ f ≠ i.cw /\ f ≠ i.cm := ⟨c + i.cw + i.cm + 1, by omega, by omega, by omega⟩
 have hb1 : Below w.heap.size w (w.alloc (.cells #[.int .i64 p.k, .int .i64 p.d, .int .i64 p.n, .int .u8 p.b] 37)) := (Below.refl _ _).alloc (Nat.le_refl _) _
 obtain ⟨x, hd, hc⟩ := fit_any (hm.below hb1) h.pos h.most64 (by rw [<- h.wmE]; exact h.len) p
 obtain ⟨d, n, r⟩ := y
 obtain rfl := hd _ hy
 rw [hy] at hc
 have hs1 := Step.of_below hb1 O f
 have hP : Blk (w.alloc (.cells #[.int .i64 p.k, .int .i64 p.d, .int .i64 p.n, .int .u8 p.b] 37)) (Step.paint O w f) f w.heap.size _ := ⟨heap_alloc_new w _, Step.paint_new (Nat.le_refl _)⟩
 have HC := hid hc
 have HW1 := hid (h.step hs1 (by simp) (by simp))
 have HE1 := hid (he.step hs1 (by simp))
 have HS1 := hid hs1
 have HPN := hid (fun k (hk : w.heap.size <= k) => Step.paint_new (O := O) (w := w) (c := f) hk)
 have HY := hid hy
 have HQ := hid hqp
 unfold Pk.Pt.val
 unfold stepVal at HC
 simp only at HC
 clear hc hb1 hd hm h he hs1 hy hqp
 go_enter Tryz.func30, Tryz.ntmps30
 go_upto_region 1 with (fail)
 generalize w.alloc (.cells #[.int .i64 p.k, .int .i64 p.d, .int .i64 p.n, .int .u8 p.b] 37) = W1 at *
 generalize Step.paint O w f = O1 at *
 have hP0 := hP.1
 obtain ⟨⟨p0, p1, p2, p3⟩, _, _⟩ := four hP0
 have HP := hid hP
 clear hP hP0
 have hsz : w.heap.size < W1.heap.size := HP.out.lt
 go_wp2_with fail
 refine HC.out.mono ?_
 rintro z w2 ⟨rfl, hb2⟩
 go_upto_region 2 with (fail)
 have hs2 := (Step.of_below_same hb2 O1).trans ((Step.refl [] w2 O1).alloc (.cells #[.int .i64 d, .int .i64 n, .int .i64 r.a, .int .i64 r.b, .int .i64 r.c, .int .i64 r.d] 109))
 have hX : Blk (w2.alloc (.cells #[.int .i64 d, .int .i64 n, .int .i64 r.a, .int .i64 r.b, .int .i64 r.c, .int .i64 r.d] 109)) O1 f w2.heap.size _ := ⟨heap_alloc_new w2 _, HPN.out _ (by have := hb2.size; omega)⟩
 have HW3 := hid (HW1.out.step hs2 (by simp) (by simp))
 have HE3 := hid (HE1.out.step hs2 (by simp))
 have HS3 := hid (HS1.out.trans hs2)
 have HP3 := hid (HP.out.step hs2 (by simp))
 have HX3 := hid hX
 clear hs2 hX hb2 HC HW1 HE1 HS1 HP HPN p0 p1 p2 p3
 generalize w2.alloc (.cells #[.int .i64 d, .int .i64 n, .int .i64 r.a, .int .i64 r.b, .int .i64 r.c, .int .i64 r.d] 109) = W3 at *
 generalize w2.heap.size = X at *
 generalize hPe : w.heap.size = P at *
 clear hsz
 go_upto_region 4 with (fail)
 have hP3 := HP3.out.1
 obtain ⟨⟨p0, p1, p2, p3⟩, _, _⟩ := four hP3
 obtain ⟨v3, hm3⟩ := HW3.out.mod
 have hcode := code_enc hm3 HW3.out.ok (Nat.le_trans HW3.out.len (Nat.le_trans HW3.out.bound (by omega))) hc1 HW3.out.ne (s := ⟨e, Q⟩) ⟨HE3.out, HW3.out.lik, hc2, HW3.out.q⟩ ht q hq
 rw [HQ.out] at hcode
 unfold Pk.Pt.val at hcode
 have HCO := hid hcode
 clear hP3 hm3 hcode HE3
 go_wp2_with fail
 refine HCO.out.mono ?_
 rintro z w4 ⟨rfl, O4, hs4, he4⟩
 have HW4 : Hid (Whole w4 O4 i m ((⟨e, Q⟩ : Es).code m q).q) := by
  obtain ⟨v3, hm3⟩ := HW3.out.mod
  exact hid ⟨⟨v3, hm3.step hs4 (by have := HW3.out.ne; simp; omega)⟩, he4.lik, he4.ok, HW3.out.ok, HW3.out.pos, HW3.out.len, HW3.out.wmE, HW3.out.ne, HW3.out.bound, HW3.out.low⟩
 have HE4 := hid he4.enc
 have hP4 := (HP3.out.step hs4 (by simp; omega)).1
 have hX4 := (HX3.out.step hs4 (by simp; omega)).1
 have HS4 := hid ((HS3.out.nil (cs := [c, i.cw, i.cm])).trans (hs4.mono (ds := [c, i.cw, i.cm]) (by simp)))
 have HT := hid (HW4.out.take p hb (d, n, r) HY.out)
 unfold Pk.Pt.val stepVal at HT
 simp only at HT
 clear hs4 he4 HW3 HP3 HX3 HS3 HCO p0 p1 p2 p3
 obtain ⟨⟨p0, p1, p2, p3⟩, _, _⟩ := four hP4
 obtain ⟨⟨r0, r1, r2, r3, r4, r5⟩, _⟩ := six hX4
 clear hP4 hX4
 go_wp2_with fail
 refine HT.out.mono ?_
 rintro z w5 ⟨rfl, O5, hs5, hw5⟩
 have HW5 := hid hw5
 have HE5 := hid (HE4.out.step hs5 (by simp; omega))
 have HS5 := hid (HS4.out.trans (hs5.mono (ds := [c, i.cw, i.cm]) (by simp)))
 clear hs5 hw5 HW4 HE4 HS4 HT p0 p1 p2 p3 r0 r1 r2 r3 r4 r5
 go_wp2_with fail
 go_ret
 exact ⟨rfl, _, HS5.out, HW5.out, HE5.out⟩
def pend : Pk1 := .mat 0 4294967295
theorem pend_ok : pend.Ok := ⟨by omega, by omega⟩
theorem pend_pt : pend.pt = ⟨2, 0, 2, 0⟩ := rfl
theorem end_any (w : World) : Calls Tryz.prog 56 #[] w fun x w' => x = .returned (.agg #[.int .i64 2, .int .i64 0, .int .i64 2, .int .u8 0]) /\ Below w.heap.size w w' := by
 go_enter Tryz.func56, Tryz.ntmps56
 go_wp2_with fail
 obtain ⟨⟨v0, v1, v2, v3⟩, _, _⟩ := four (heap_alloc_new w (.cells #[.int .i64 2, .int .i64 0, .int .i64 2, .int .u8 0] 37))
 refine bodyPost_ret (v := .agg #[.int .i64 2, .int .i64 0, .int .i64 2, .int .u8 0]) ?_ rfl ?_
 · simp [results, Tryz.results56, go_sem, v0, v1, v2, v3]
 · exact ⟨rfl, (Below.refl _ _).alloc (Nat.le_refl _) _⟩
theorem eq_end (k d n : Int) (b : Nat) (w : World) : (Op.equalIn 10000 37 (.agg #[.int .i64 k, .int .i64 d, .int .i64 n, .int .u8 b]) (.agg #[.int .i64 2, .int .i64 0, .int .i64 2, .int .u8 0])).run Tryz.prog w = .ok (decide (k = 2 /\ d = 0 /\ n = 2 /\ b = 0)) w := by
 rw [run_equalIn_struct (P := Tryz.prog) w 9999 37 _ _ (by kernel_rfl) (by kernel_rfl)]
 have hcase : k ≠ 2 \/ (k = 2 /\ d ≠ 0) \/ (k = 2 /\ d = 0 /\ n ≠ 2) \/ (k = 2 /\ d = 0 /\ n = 2 /\ b ≠ 0) \/ (k = 2 /\ d = 0 /\ n = 2 /\ b = 0) := by omega
 rcases hcase with h1 | ⟨h1, h2⟩ | ⟨h1, h2, h3⟩ | ⟨h1, h2, h3, h4⟩ | ⟨h1, h2, h3, h4⟩ <;> simp [go_sem, Tryz.underlying37, Tryz.underlying3, Tryz.underlying5, *]
theorem isEnd_any (p : Pt) (w : World) : Calls Tryz.prog 117 #[p.val] w fun x w' => x = .returned (.bool (decide (p.k = 2 /\ p.d = 0 /\ p.n = 2 /\ p.b = 0))) /\ Below w.heap.size w w' := by
 obtain ⟨k, d, n, b⟩ := p
 unfold Pk.Pt.val
 simp only
 generalize hB : decide (k = 2 /\ d = 0 /\ n = 2 /\ b = 0) = B
 have HB : Hid (decide (k = 2 /\ d = 0 /\ n = 2 /\ b = 0) = B) := hid hB
 clear hB
 have hb1 : Below w.heap.size w (w.alloc (.cells #[.int .i64 k, .int .i64 d, .int .i64 n, .int .u8 b] 37)) := (Below.refl _ _).alloc (Nat.le_refl _) _
 have hP := heap_alloc_new w (.cells #[.int .i64 k, .int .i64 d, .int .i64 n, .int .u8 b] 37)
 have HB1 := hid hb1
 have HP := hid hP
 clear hb1 hP
 go_enter Tryz.func117, Tryz.ntmps117
 go_upto_region 1 with (fail)
 generalize w.alloc (.cells #[.int .i64 k, .int .i64 d, .int .i64 n, .int .u8 b] 37) = W1 at *
 have hP := HP.out
 obtain ⟨⟨p0, p1, p2, p3⟩, _, _⟩ := four hP
 have hPl := lt_of_heap hP
 generalize hPe : w.heap.size = P at *
 have HS : Hid (∀ W' : World, Below W1.heap.size W1 W' -> Below W1.heap.size W1 W' /\ (W'.cell? ⟨P, 0, none⟩ = some (.int .i64 k) /\ W'.cell? ⟨P, 1, none⟩ = some (.int .i64 d) /\ W'.cell? ⟨P, 2, none⟩ = some (.int .i64 n) /\ W'.cell? ⟨P, 3, none⟩ = some (.int .u8 b))) :=
  hid fun W' hb => ⟨hb, (four ((hb.block P hPl).trans HP.out)).1⟩
 have HE := hid (fun W : World => end_any W)
 clear hP
 clear HP
 have hq := fun W : World => eq_end k d n b W
 go_region_held3 (fun W' => Below W1.heap.size W1 W' /\ (W'.cell? ⟨P, 0, none⟩ = some (.int .i64 k) /\ W'.cell? ⟨P, 1, none⟩ = some (.int .i64 d) /\ W'.cell? ⟨P, 2, none⟩ = some (.int .i64 n) /\ W'.cell? ⟨P, 3, none⟩ = some (.int .u8 b))) ((refine HS.out _ ?_; repeat (first | assumption | exact Below.refl _ _ | refine Pk.bel_drew ?_ | refine Pk.bel_alloc _ ?_ | (refine Pk.bel_new (by assumption) ?_)))) (first | (go_at_call 56; (with_reducible refine (HE.out _).mono ?_); rintro x wl ⟨rfl, hbl⟩))
 all_goals
  have hbw : Below P w wl := HB1.out.trans ((below_drewN_from hbl).mono (by have := HB1.out.size; omega))
  clear hbl HS HE HB1 hq
  go_wp2_with fail
  go_ret
  rw [hPe, <- HB.out]
  refine ⟨?_, hbw⟩
  show Ending.returned (.bool (decide (k = 2) && (decide (d = 0) && (decide (n = 2) && decide (b = 0))))) = _
  simp only [Bool.decide_and]
theorem put_end (h : Whole w O i m Q) (he : EncAt w O c a e) (hc1 : i.cw ≠ c) (hc2 : c ≠ i.cm) (ht : e.turns <= 600000) :
  Calls Tryz.prog 31 #[.pointer (some ⟨i.mo, 0, none⟩), .pointer (some ⟨a, 0, none⟩)] w fun x w' => x = .returned (.tuple #[]) /\ ∃ O', Step [c, i.cm] w O w' O' /\ Whole w' O' i m ((⟨e, Q⟩ : Es).code m pend).q /\ EncAt w' O' c a ((⟨e, Q⟩ : Es).code m pend).e := by
 have HH0 := hid h
 have HE0 := hid he
 clear h he
 go_enter Tryz.func31, Tryz.ntmps31
 go_wp2_with fail
 refine (end_any w).mono ?_
 rintro z w1 ⟨rfl, hb1⟩
 have hs1 := Step.of_below_same hb1 O
 have HH := hid (HH0.out.step hs1 (by simp) (by simp))
 have HS1 := hid (hs1.nil (cs := [c, i.cm]))
 have HE1 := hid (HE0.out.step hs1 (by simp))
 obtain ⟨v, hm⟩ := HH.out.mod
 have hcode := code_enc hm HH.out.ok (Nat.le_trans HH.out.len (Nat.le_trans HH.out.bound (by omega))) hc1 HH.out.ne (s := ⟨e, Q⟩) ⟨HE1.out, HH.out.lik, hc2, HH.out.q⟩ ht pend pend_ok
 rw [pend_pt] at hcode
 unfold Pk.Pt.val at hcode
 have HCO := hid hcode
 clear hcode hm HH0 HE0 hs1 hb1 HE1
 go_wp2_with fail
 refine HCO.out.mono ?_
 rintro z w4 ⟨rfl, O4, hs4, he4⟩
 have HW4 : Hid (Whole w4 O4 i m ((⟨e, Q⟩ : Es).code m pend).q) := by
  obtain ⟨v3, hm3⟩ := HH.out.mod
  exact hid ⟨⟨v3, hm3.step hs4 (by have := HH.out.ne; simp; omega)⟩, he4.lik, he4.ok, HH.out.ok, HH.out.pos, HH.out.len, HH.out.wmE, HH.out.ne, HH.out.bound, HH.out.low⟩
 have HE4 := hid he4.enc
 have HS4 := hid (HS1.out.trans hs4)
 clear hs4 he4 HH HCO HS1
 go_wp2_with fail
 first | go_end0 | (simp only [Exit.inBlock, Exit.then]; refine bodyPost_ret (results_none rfl _ _ _) rfl ?_) | refine bodyPost_ret (results_none rfl _ _ _) rfl ?_
 exact ⟨rfl, _, HS4.out, HW4.out, HE4.out⟩
end
end Go.Proofs.YtfpoabeihpfeiaaGreat.Mo
end
section
namespace Go.Proofs.YtfpoabeihpfeiaaGreat.Mo
open Go.RowKit
open Rc
open Pk (Rp Pt four)
open Wnd (Win)
theorem fresh3 (O : Paint) (n c d e : Nat) : ∃ f, f ≠ c /\ f ≠ d /\ f ≠ e /\ ∀ k, k < n -> O k ≠ f := by
 obtain ⟨f, h1, h2, h3⟩ := fresh (fun k => if k = n then e else O k) (n + 1) c d
 refine ⟨f, h1, h2, fun h => h3 n (by omega) (by simp [h]), fun k hk => ?_⟩
 have := h3 k (by omega)
 rwa [if_neg (by omega)] at this
theorem step_drop {cs : List Nat} {f : Nat} {w w' : World} {O O' : Paint} (h : Step (f :: cs) w O w' O') (hn : ∀ k, k < w.heap.size -> O k ≠ f) : Step cs w O w' O' :=
 ⟨h.frame.mono (fun k hk ho => by
  rcases List.mem_cons.1 ho with e | e
  · exact absurd e (hn k hk)
  · exact e), h.ext⟩
theorem blk_set4 {w : World} {O : Paint} {f R : Nat} {z0 z1 z2 z3 : Value} {t : TypeId} (h : Blk w O f R (.cells #[z0, z1, z2, z3] t (0, 0))) (x0 x1 x2 x3 : Value) :
  ∃ V, ((((w.setCell ⟨R, 0, none⟩ x0).setCell ⟨R, 1, none⟩ x1).setCell ⟨R, 2, none⟩ x2).setCell ⟨R, 3, none⟩ x3) = V /\ Step [f] w O V O /\ Blk V O f R (.cells #[x0, x1, x2, x3] t (0, 0)) := by
 have b0 := heap_setCell_same w _ 0 _ _ x0 h.1
 have b1 := heap_setCell_same _ _ 1 _ _ x1 b0
 have b2 := heap_setCell_same _ _ 2 _ _ x2 b1
 have b3 := heap_setCell_same _ _ 3 _ _ x3 b2
 simp at b3
 have hf : Frame (fun j => j = R) w ((((w.setCell ⟨R, 0, none⟩ x0).setCell ⟨R, 1, none⟩ x1).setCell ⟨R, 2, none⟩ x2).setCell ⟨R, 3, none⟩ x3) :=
  ((((Frame.refl (fun j => j = R) w).setCell (p := ⟨R, 0, none⟩) (.inl rfl) _).setCell (p := ⟨R, 1, none⟩) (.inl rfl) _).setCell (p := ⟨R, 2, none⟩) (.inl rfl) _).setCell (p := ⟨R, 3, none⟩) (.inl rfl) _
 exact ⟨_, rfl, ⟨hf.mono (fun j _ e => by subst e; simp [h.2]), fun _ _ => rfl⟩, b3, h.2⟩
def got (most : Int) (m : Ms) (p : Pt) : Pt × Bool × Bool × Ms :=
 if p.k = 2 /\ p.d = 0 /\ p.n = 2 /\ p.b = 0 then (⟨0, 0, 0, 0⟩, true, true, m)
 else match fitM most m p with
  | none => (⟨0, 0, 0, 0⟩, false, false, m)
  | some y => (p, false, true, m.tell p y)
section
variable {cs : List Nat} {w w' : World} {O O' : Paint} {i : Mid} {m : Ms} {Q : Qs} {c a tot : Nat} {d : Dec}
theorem get_any (h : Whole w O i m Q) (hd : DecAt w O c a d tot) (hc1 : i.cw ≠ c) (hc2 : c ≠ i.cm) :
  Calls Tryz.prog 116 #[.pointer (some ⟨i.mo, 0, none⟩), .pointer (some ⟨a, 0, none⟩)] w fun x w' => x = .returned (.tuple #[(got i.most m ((⟨d, Q⟩ : Ds).codeP m).pt).1.val, .bool (got i.most m ((⟨d, Q⟩ : Ds).codeP m).pt).2.1, .bool (got i.most m ((⟨d, Q⟩ : Ds).codeP m).pt).2.2.1]) /\
   ∃ O', Step [c, i.cw, i.cm] w O w' O' /\ Whole w' O' i (got i.most m ((⟨d, Q⟩ : Ds).codeP m).pt).2.2.2 ((⟨d, Q⟩ : Ds).code m).q /\ DecAt w' O' c a ((⟨d, Q⟩ : Ds).code m).d tot := by
 obtain ⟨f, hf1, hf2, hf3, hfO⟩ := fresh3 O w.heap.size c i.cw i.cm
 have hb1 : Below w.heap.size w (w.alloc (.cells #[.int .i64 0, .int .i64 0, .int .i64 0, .int .u8 0] 37)) := (Below.refl _ _).alloc (Nat.le_refl _) _
 have hs1 := Step.of_below hb1 O f
 have hR : Blk (w.alloc (.cells #[.int .i64 0, .int .i64 0, .int .i64 0, .int .u8 0] 37)) (Step.paint O w f) f w.heap.size _ := ⟨heap_alloc_new w _, Step.paint_new (Nat.le_refl _)⟩
 have HW1 := hid (h.step hs1 (by simp) (by simp))
 have HD1 := hid (hd.step hs1 (by simp))
 have HS1 := hid hs1
 have HR1 := hid hR
 have HFO := hid hfO
 clear hb1 hs1 hR h hd hfO
 go_enter Tryz.func116, Tryz.ntmps116
 go_upto_region 3 with (fail)
 generalize w.alloc (.cells #[.int .i64 0, .int .i64 0, .int .i64 0, .int .u8 0] 37) = W1 at *
 generalize Step.paint O w f = O1 at *
 obtain ⟨v1, hm1⟩ := HW1.out.mod
 have hcode := code_dec hm1 HW1.out.ok (Nat.le_trans HW1.out.len (Nat.le_trans HW1.out.bound (by omega))) hc1 HW1.out.ne (d := ⟨d, Q⟩) ⟨HD1.out, HW1.out.lik, hc2, HW1.out.q⟩
 have HPB := hid (codeP_b (d := ⟨d, Q⟩) ⟨HD1.out.2, HW1.out.q⟩ m)
 have HCO := hid hcode
 clear hcode hm1
 go_wp2_with fail
 refine HCO.out.mono ?_
 rintro z w2 ⟨rfl, O2, hs2, hd2⟩
 have HW2 : Hid (Whole w2 O2 i m ((⟨d, Q⟩ : Ds).code m).q) := by
  obtain ⟨v3, hm3⟩ := HW1.out.mod
  exact hid ⟨⟨v3, hm3.step hs2 (by have := HW1.out.ne; simp; omega)⟩, hd2.lik, hd2.ok, HW1.out.ok, HW1.out.pos, HW1.out.len, HW1.out.wmE, HW1.out.ne, HW1.out.bound, HW1.out.low⟩
 have HD2 := hid hd2.dec
 have HR2 := hid (HR1.out.step hs2 (by simp; omega))
 have HS2 := hid ((HS1.out.nil (cs := [f, c, i.cw, i.cm])).trans (hs2.mono (ds := [f, c, i.cw, i.cm]) (by simp)))
 clear hs2 hd2 HW1 HD1 HS1 HR1 HCO
 generalize hpe : ((⟨d, Q⟩ : Ds).codeP m).pt = p at *
 generalize hde : (⟨d, Q⟩ : Ds).code m = D' at *
 have HPE := hid hpe
 have HDE := hid hde
 clear hpe hde
 unfold Pk.Pt.val
 have hR2 := HR2.out.1
 obtain ⟨⟨p0, p1, p2, p3⟩, ⟨f0, f1, f2, f3⟩, _⟩ := four hR2
 have hsz : w.heap.size < w2.heap.size := HR2.out.lt
 generalize hRe : w.heap.size = R at *
 go_upto_region 4 with (fail)
 obtain ⟨W3, hW, hs3, hR3⟩ := blk_set4 HR2.out (.int .i64 p.k) (.int .i64 p.d) (.int .i64 p.n) (.int .u8 p.b)
 rw [hW]
 have HW3 := hid (HW2.out.step hs3 (by simp; omega) (by simp; omega))
 have HD3 := hid (HD2.out.step hs3 (by simp; omega))
 have HS3 := hid (HS2.out.trans (hs3.mono (ds := [f, c, i.cw, i.cm]) (by simp)))
 have HR3 := hid hR3
 have HIE := hid (isEnd_any p W3)
 unfold Pk.Pt.val at HIE
 clear hW hs3 HW2 HD2 HS2 HR2 p0 p1 p2 p3 f0 f1 f2 f3 hR2 hsz
 obtain ⟨⟨p0, p1, p2, p3⟩, ⟨f0, f1, f2, f3⟩, _⟩ := four hR3.1
 clear hR3
 go_wp2_with fail
 refine HIE.out.mono ?_
 rintro z w4 ⟨rfl, hb4⟩
 have hs4 := Step.of_below_same hb4 O2
 have HW4 := hid (HW3.out.step hs4 (by simp) (by simp))
 have HD4 := hid (HD3.out.step hs4 (by simp))
 have HS4 := hid (HS3.out.trans (hs4.nil (cs := [f, c, i.cw, i.cm])))
 have HR4 := hid (HR3.out.step hs4 (by simp))
 clear hs4 hb4 HW3 HD3 HS3 HR3 HIE p0 p1 p2 p3 f0 f1 f2 f3
 have hR4 := HR4.out.1
 obtain ⟨⟨p0, p1, p2, p3⟩, ⟨f0, f1, f2, f3⟩, _⟩ := four hR4
 clear hR4
 by_cases hE : p.k = 2 /\ p.d = 0 /\ p.n = 2 /\ p.b = 0
 · as_aux_lemma =>
   have HG := hid (show got i.most m p = (⟨0, 0, 0, 0⟩, true, true, m) from if_pos hE)
   rw [decide_eq_true hE]
   clear hE
   go_wp2_with fail
   obtain ⟨W5, hW, hs5, hR5⟩ := blk_set4 HR4.out (.int .i64 0) (.int .i64 0) (.int .i64 0) (.int .u8 0)
   rw [hW]
   have HW5 := hid (HW4.out.step hs5 (by simp; omega) (by simp; omega))
   have HD5 := hid (HD4.out.step hs5 (by simp; omega))
   have HS5 := hid (step_drop (HS4.out.trans (hs5.mono (ds := [f, c, i.cw, i.cm]) (by simp))) (by rw [hRe]; exact HFO.out))
   clear hW hs5 HW4 HD4 HS4 HR4 p0 p1 p2 p3 f0 f1 f2 f3
   obtain ⟨⟨p0, p1, p2, p3⟩, _, _⟩ := four hR5.1
   clear hR5
   refine bodyPost_ret (v := .tuple #[.agg #[.int .i64 0, .int .i64 0, .int .i64 0, .int .u8 0], .bool true, .bool true]) ?_ rfl ?_
   · simp [results, Tryz.results116, go_sem, p0, p1, p2, p3]
   · rw [HPE.out, HDE.out, HG.out]
     exact ⟨rfl, _, HS5.out, HW5.out, HD5.out⟩
 · rw [decide_eq_false hE]
   obtain ⟨v4, hm4⟩ := HW4.out.mod
   obtain ⟨x, hd, hc⟩ := fit_any hm4 HW4.out.pos HW4.out.most64 (by rw [<- HW4.out.wmE]; exact HW4.out.len) p
   obtain ⟨x1, x2, r⟩ := x
   have HX := hid hd
   have HC := hid hc
   unfold stepVal at HC
   simp only at HC
   clear hd hc hm4
   cases hf : fitM i.most m p with
   | none =>
    as_aux_lemma =>
    have HG := hid (show got i.most m p = (⟨0, 0, 0, 0⟩, false, false, m) by unfold got; rw [if_neg hE, hf])
    rw [hf] at HC
    clear hE hf
    go_wp2_with fail
    refine HC.out.mono ?_
    rintro z w5 ⟨rfl, hb5⟩
    have hs5 := Step.of_below_same (hb5.alloc hb5.size (.cells #[.int .i64 x1, .int .i64 x2, .int .i64 r.a, .int .i64 r.b, .int .i64 r.c, .int .i64 r.d] 109)) O2
    have HW5 := hid (HW4.out.step hs5 (by simp) (by simp))
    have HD5 := hid (HD4.out.step hs5 (by simp))
    have HS5 := hid (HS4.out.trans (hs5.nil (cs := [f, c, i.cw, i.cm])))
    have HR5 := hid (HR4.out.step hs5 (by simp))
    clear hs5 hb5 HW4 HD4 HS4 HR4 HC HX p0 p1 p2 p3 f0 f1 f2 f3
    go_upto_region 7 with (fail)
    generalize w5.alloc (.cells #[.int .i64 x1, .int .i64 x2, .int .i64 r.a, .int .i64 r.b, .int .i64 r.c, .int .i64 r.d] 109) = W6 at *
    have hR5 := HR5.out.1
    obtain ⟨⟨p0, p1, p2, p3⟩, ⟨f0, f1, f2, f3⟩, _⟩ := four hR5
    clear hR5
    go_wp2_with fail
    obtain ⟨W7, hW, hs7, hR7⟩ := blk_set4 HR5.out (.int .i64 0) (.int .i64 0) (.int .i64 0) (.int .u8 0)
    rw [hW]
    have HW7 := hid (HW5.out.step hs7 (by simp; omega) (by simp; omega))
    have HD7 := hid (HD5.out.step hs7 (by simp; omega))
    have HS7 := hid (step_drop (HS5.out.trans (hs7.mono (ds := [f, c, i.cw, i.cm]) (by simp))) (by rw [hRe]; exact HFO.out))
    clear hW hs7 HW5 HD5 HS5 HR5 p0 p1 p2 p3 f0 f1 f2 f3
    obtain ⟨⟨p0, p1, p2, p3⟩, _, _⟩ := four hR7.1
    clear hR7
    refine bodyPost_ret (v := .tuple #[.agg #[.int .i64 0, .int .i64 0, .int .i64 0, .int .u8 0], .bool false, .bool false]) ?_ rfl ?_
    · simp [results, Tryz.results116, go_sem, p0, p1, p2, p3]
    · rw [HPE.out, HDE.out, HG.out]
      exact ⟨rfl, _, HS7.out, HW7.out, HD7.out⟩
   | some y =>
    as_aux_lemma =>
    obtain rfl := HX.out y hf
    have HG := hid (show got i.most m p = (p, false, true, m.tell p (x1, x2, r)) by unfold got; rw [if_neg hE, hf])
    have HF := hid hf
    rw [hf] at HC
    clear hE hf HX
    go_wp2_with fail
    refine HC.out.mono ?_
    rintro z w5 ⟨rfl, hb5⟩
    have hs5 := Step.of_below (hb5.alloc hb5.size (.cells #[.int .i64 x1, .int .i64 x2, .int .i64 r.a, .int .i64 r.b, .int .i64 r.c, .int .i64 r.d] 109)) O2 f
    have hX5 : Blk (w5.alloc (.cells #[.int .i64 x1, .int .i64 x2, .int .i64 r.a, .int .i64 r.b, .int .i64 r.c, .int .i64 r.d] 109)) (Step.paint O2 w4 f) f w5.heap.size _ := ⟨heap_alloc_new w5 _, Step.paint_new hb5.size⟩
    have HX5 := hid hX5
    have HW5 := hid (HW4.out.step hs5 (by simp) (by simp))
    have HD5 := hid (HD4.out.step hs5 (by simp))
    have HS5 := hid (HS4.out.trans (hs5.nil (cs := [f, c, i.cw, i.cm])))
    have HR5 := hid (HR4.out.step hs5 (by simp))
    clear hs5 hb5 hX5 HW4 HD4 HS4 HR4 HC p0 p1 p2 p3 f0 f1 f2 f3
    go_upto_region 7 with (fail)
    generalize w5.alloc (.cells #[.int .i64 x1, .int .i64 x2, .int .i64 r.a, .int .i64 r.b, .int .i64 r.c, .int .i64 r.d] 109) = W6 at *
    generalize Step.paint O2 w4 f = O6 at *
    generalize w5.heap.size = X at *
    have hR5 := HR5.out.1
    obtain ⟨⟨p0, p1, p2, p3⟩, ⟨f0, f1, f2, f3⟩, _⟩ := four hR5
    have hX5 := HX5.out.1
    obtain ⟨⟨r0, r1, r2, r3, r4, r5⟩, _⟩ := six hX5
    have HT := hid (HW5.out.take p HPB.out (x1, x2, r) HF.out)
    unfold Pk.Pt.val stepVal at HT
    simp only at HT
    clear hR5 hX5
    go_wp2_with fail
    refine HT.out.mono ?_
    rintro z w7 ⟨rfl, O7, hs7, hw7⟩
    have HW7 := hid hw7
    have HD7 := hid (HD5.out.step hs7 (by simp; omega))
    have HR7 := hid (HR5.out.step hs7 (by simp; omega))
    have HS7 := hid (HS5.out.trans (hs7.mono (ds := [f, c, i.cw, i.cm]) (by simp)))
    clear hs7 hw7 HT HW5 HD5 HR5 HS5 HX5 p0 p1 p2 p3 f0 f1 f2 f3 r0 r1 r2 r3 r4 r5
    have hR7 := HR7.out.1
    obtain ⟨⟨p0, p1, p2, p3⟩, ⟨f0, f1, f2, f3⟩, _⟩ := four hR7
    clear hR7
    go_wp2_with fail
    obtain ⟨W8, hW, hs8, hR8⟩ := blk_set4 HR7.out (.int .i64 p.k) (.int .i64 p.d) (.int .i64 p.n) (.int .u8 p.b)
    rw [hW]
    have HW8 := hid (HW7.out.step hs8 (by simp; omega) (by simp; omega))
    have HD8 := hid (HD7.out.step hs8 (by simp; omega))
    have HS8 := hid (step_drop (HS7.out.trans (hs8.mono (ds := [f, c, i.cw, i.cm]) (by simp))) (by rw [hRe]; exact HFO.out))
    clear hW hs8 HW7 HD7 HS7 HR7 p0 p1 p2 p3 f0 f1 f2 f3
    obtain ⟨⟨p0, p1, p2, p3⟩, _, _⟩ := four hR8.1
    clear hR8
    refine bodyPost_ret (v := .tuple #[.agg #[.int .i64 p.k, .int .i64 p.d, .int .i64 p.n, .int .u8 p.b], .bool false, .bool true]) ?_ rfl ?_
    · simp [results, Tryz.results116, go_sem, p0, p1, p2, p3]
    · rw [HPE.out, HDE.out, HG.out]
      exact ⟨rfl, _, HS8.out, HW8.out, HD8.out⟩
end
end Go.Proofs.YtfpoabeihpfeiaaGreat.Mo
end
section
namespace Go.Proofs.YtfpoabeihpfeiaaGreat.Mo
open Go.RowKit
open Rc
open Pk (Rp Pt four)
open Wnd (Win)
def goodB (lc lp pb : Int) : Bool := decide (0 <= lc /\ 0 <= lp /\ 0 <= pb /\ lc + lp <= 4 /\ pb <= 4)
theorem three {w : World} {X : Nat} {a b c : Value} {t : TypeId} (h : w.heap[X]? = some (.cells #[a, b, c] t (0, 0))) :
  w.cell? ⟨X, 0, none⟩ = some a /\ w.cell? ⟨X, 1, none⟩ = some b /\ w.cell? ⟨X, 2, none⟩ = some c :=
 ⟨by simp [World.cell?, h], by simp [World.cell?, h], by simp [World.cell?, h]⟩
theorem good_any (lc lp pb : Int) (h1 : -9223372036854775808 <= lc /\ lc <= 9223372036854775807) (h2 : -9223372036854775808 <= lp /\ lp <= 9223372036854775807) (w : World) :
  Calls Tryz.prog 27 #[.agg #[.int .i64 lc, .int .i64 lp, .int .i64 pb]] w fun x w' => x = .returned (.bool (goodB lc lp pb)) /\ Below w.heap.size w w' := by
 have hb1 : Below w.heap.size w (w.alloc (.cells #[.int .i64 lc, .int .i64 lp, .int .i64 pb] 26)) := (Below.refl _ _).alloc (Nat.le_refl _) _
 have hz := heap_alloc_new w (.cells #[.int .i64 lc, .int .i64 lp, .int .i64 pb] 26)
 obtain ⟨p0, p1, p2⟩ := three hz
 have HB1 := hid hb1
 have HH := hid (And.intro h1 h2)
 clear hb1 hz h1 h2
 generalize hB : goodB lc lp pb = B
 have HB : Hid (goodB lc lp pb = B) := hid hB
 clear hB
 go_enter Tryz.func27, Tryz.ntmps27
 go_upto_region 1 with (fail)
 generalize w.alloc (.cells #[.int .i64 lc, .int .i64 lp, .int .i64 pb] 26) = W1 at *
 by_cases c1 : lc < 0
 · have d1 : decide (lc < 0) = true := decide_eq_true c1
   go_wp2_with fail
   go_ret
   rw [<- HB.out]
   exact ⟨by unfold goodB; rw [decide_eq_false (by omega)]; rfl, HB1.out⟩
 have d1 : decide (lc < 0) = false := decide_eq_false c1
 by_cases c2 : lp < 0
 · have d2 : decide (lp < 0) = true := decide_eq_true c2
   go_wp2_with fail
   go_ret
   rw [<- HB.out]
   exact ⟨by unfold goodB; rw [decide_eq_false (by omega)]; rfl, HB1.out⟩
 have d2 : decide (lp < 0) = false := decide_eq_false c2
 by_cases c3 : pb < 0
 · have d3 : decide (pb < 0) = true := decide_eq_true c3
   go_wp2_with fail
   go_ret
   rw [<- HB.out]
   exact ⟨by unfold goodB; rw [decide_eq_false (by omega)]; rfl, HB1.out⟩
 have d3 : decide (pb < 0) = false := decide_eq_false c3
 have hw : IntKind.i64.wrap (4 - lp) = 4 - lp := by have := HH.out; rw [IntKind.wrap_i64]; omega
 by_cases c4 : lc <= 4 - lp
 · have d4 : decide (lc <= 4 - lp) = true := decide_eq_true c4
   by_cases c5 : pb <= 4
   · have d5 : decide (pb <= 4) = true := decide_eq_true c5
     go_wp2_with fail
     go_ret
     rw [<- HB.out]
     exact ⟨by unfold goodB; rw [decide_eq_true (by omega)]; rfl, HB1.out⟩
   · have d5 : decide (pb <= 4) = false := decide_eq_false c5
     go_wp2_with fail
     go_ret
     rw [<- HB.out]
     exact ⟨by unfold goodB; rw [decide_eq_false (by omega)]; rfl, HB1.out⟩
 · have d4 : decide (lc <= 4 - lp) = false := decide_eq_false c4
   go_wp2_with fail
   go_ret
   rw [<- HB.out]
   exact ⟨by unfold goodB; rw [decide_eq_false (by omega)]; rfl, HB1.out⟩
section
variable {w : World} {O : Paint} {i : Mid} {m : Ms} {Q : Qs}
theorem model_text (h : Whole w O i m Q) : Calls Tryz.prog 22 #[.pointer (some ⟨i.mo, 0, none⟩)] w fun e w' => e = .returned (.string ⟨m.l.toArray⟩) /\ w = w' := by
 obtain ⟨v, hm⟩ := h.mod
 obtain ⟨_, _, _, _, c4, _⟩ := hm.cells
 have HT := hid (Wnd.text_any hm.win)
 clear hm h
 go_enter Tryz.func22, Tryz.ntmps22
 go_wp2_with fail
 refine HT.out.mono ?_
 rintro e w' ⟨rfl, rfl⟩
 go_wp2_with fail
 go_ret
 exact ⟨rfl, rfl⟩
theorem model_len (h : Whole w O i m Q) : Calls Tryz.prog 84 #[.pointer (some ⟨i.mo, 0, none⟩)] w fun e w' => e = .returned (.int .i64 m.l.length) /\ w = w' := by
 obtain ⟨v, hm⟩ := h.mod
 obtain ⟨_, _, _, _, c4, _⟩ := hm.cells
 have HT := hid (Wnd.len_any hm.win)
 clear hm h
 go_enter Tryz.func84, Tryz.ntmps84
 go_wp2_with fail
 refine HT.out.mono ?_
 rintro e w' ⟨rfl, rfl⟩
 go_wp2_with fail
 go_ret
 exact ⟨rfl, rfl⟩
end
theorem new_raw (lc lp pb : Nat) (hl : lc + lp <= 4) (hpb : pb <= 4) (most : Int) (w : World) :
  Calls Tryz.prog 28 #[.agg #[.int .i64 lc, .int .i64 lp, .int .i64 pb], .int .i64 most] w fun x w' =>
   ∃ mo wb K gb cap tb W w2, x = .returned (.pointer (some ⟨mo, 0, none⟩)) /\ Below w.heap.size w W /\ w.heap.size <= wb /\ W.heap[wb]? = some (.cells #[.slice none 0 0, .int .i64 most.toNat] 131 (0, 0)) /\
    Below W.heap.size W w2 /\ (∀ O' cm, (∀ k, W.heap.size <= k -> O' k = cm) -> LikAt w2 O' cm K gb cap (2 ^ (lc + lp)) tb (fun _ _ _ => 1024)) /\ mo = w2.heap.size /\
    Below w2.heap.size w2 w' /\ w'.heap[mo]? = some (.cells #[.int .i64 lc, .int .i64 lp, .int .i64 pb, .int .i64 most, .pointer (some ⟨wb, 0, none⟩), .int .i64 1, .int .i64 1, .int .i64 1, .int .i64 1, .int .i64 0, .pointer (some ⟨K, 0, none⟩)] 98 (0, 0)) := by
 have hb1 : Below w.heap.size w (w.alloc (.cells #[.int .i64 lc, .int .i64 lp, .int .i64 pb] 26)) := (Below.refl _ _).alloc (Nat.le_refl _) _
 have hz := heap_alloc_new w (.cells #[.int .i64 lc, .int .i64 lp, .int .i64 pb] 26)
 obtain ⟨p0, p1, p2⟩ := three hz
 have HB1 := hid hb1
 have HZ := hid hz
 clear hb1 hz
 go_enter Tryz.func28, Tryz.ntmps28
 go_upto_region 1 with (fail)
 generalize w.alloc (.cells #[.int .i64 lc, .int .i64 lp, .int .i64 pb] 26) = W1 at *
 go_wp2_with fail
 refine (good_any (lc : Int) (lp : Int) (pb : Int) (by omega) (by omega) W1).mono ?_
 rintro z W2 ⟨rfl, hb2⟩
 rw [show goodB lc lp pb = true by unfold goodB; exact decide_eq_true (by omega)]
 have HB2 := hid (HB1.out.trans (hb2.mono HB1.out.size))
 have hz2 := (hb2.block w.heap.size (lt_of_heap HZ.out)).trans HZ.out
 clear hb2 HB1 p0 p1 p2
 go_upto_region 3 with (fail)
 have HZ2 := hid hz2
 obtain ⟨p0, p1, p2⟩ := three hz2
 have hPl := lt_of_heap hz2
 generalize hPe : w.heap.size = P at *
 have HS : Hid (∀ W' : World, Below W2.heap.size W2 W' -> Below W2.heap.size W2 W' /\ (W'.cell? ⟨P, 0, none⟩ = some (.int .i64 lc) /\ W'.cell? ⟨P, 1, none⟩ = some (.int .i64 lp) /\ W'.cell? ⟨P, 2, none⟩ = some (.int .i64 pb))) :=
  hid fun W' hb => ⟨hb, three ((hb.block P hPl).trans HZ2.out)⟩
 have HN := hid (fun W : World => Wnd.new_any most W)
 have HF := hid (fun W : World => Pk.first_any W)
 have HL := hid (fun W : World => likely_new lc lp pb hl W)
 clear hz2 HZ
 unfold Pk.Rp.val at HF
 simp only at HF
 go_region_held3 (fun W' => Below W2.heap.size W2 W' /\ (W'.cell? ⟨P, 0, none⟩ = some (.int .i64 lc) /\ W'.cell? ⟨P, 1, none⟩ = some (.int .i64 lp) /\ W'.cell? ⟨P, 2, none⟩ = some (.int .i64 pb))) ((refine HS.out _ ?_; repeat (first | assumption | exact Below.refl _ _ | refine Pk.bel_drew ?_ | refine Pk.bel_alloc _ ?_ | (refine Pk.bel_new (by assumption) ?_)))) (first | (go_at_call 51; (with_reducible refine (HN.out _).mono ?_); rintro x wn ⟨rfl, hwn⟩; have hbn := (show Below _ _ wn by rw [hwn]; exact (Below.refl _ _).alloc (Nat.le_refl _) _)) | (go_at_call 24; (with_reducible refine (HF.out _).mono ?_); rintro x wf ⟨rfl, hbf⟩) | (go_at_call 52; (with_reducible refine (HL.out _).mono ?_); rintro x wl ⟨K, gb, cap, tb, rfl, hbl, hKl, hlik⟩))
 all_goals
  rw [show (max most 0 : Int) = (most.toNat : Int) by omega] at hbf
  have hbn' : Below W2.heap.size W2 (W2.alloc (.cells #[.slice none 0 0, .int .i64 most.toNat] 131)).drew := Pk.bel_drew (Pk.bel_alloc _ (Below.refl _ _))
  have hwb : (W2.alloc (.cells #[.slice none 0 0, .int .i64 most.toNat] 131)).drew.heap[W2.heap.size]? = some (.cells #[.slice none 0 0, .int .i64 most.toNat] 131 (0, 0)) := heap_alloc_new W2 _
  generalize (W2.alloc (.cells #[.slice none 0 0, .int .i64 most.toNat] 131)).drew = wn2 at *
  have hwb2 := (hbf.block _ (lt_of_heap hwb)).trans hwb
  have hsP := HB2.out.size
  have hbW : Below P w wf := (HB2.out.trans (hbn'.mono (by omega))).trans (hbf.mono (by have := hbn'.size; omega))
  have hPW : P <= W2.heap.size := by omega
  clear HS HN HF HL HZ2 HB2 hbn' hbf p0 p1 p2
  go_wp2_with fail
  go_ret
  rw [hPe]
  exact ⟨wl.heap.size, W2.heap.size, K, gb, cap, tb, wf, wl, rfl, hbW, hPW, hwb2, hbl, hlik, rfl, (Below.refl _ _).alloc (Nat.le_refl _) _, heap_alloc_new wl _⟩
theorem win_new {w : World} {wb wm : Nat} (h : w.heap[wb]? = some (.cells #[.slice none 0 0, .int .i64 wm] 131 (0, 0))) : Win w wb (.slice none 0 0) wm [] := ⟨h, World.ownsRow_nil _ _ _ _, by simp [Value.ownBlock]⟩
theorem new_model (lc lp pb : Nat) (hl : lc + lp <= 4) (hpb : pb <= 4) (most : Int) (h1 : -9223372036854775808 <= most) (h2 : most <= 1099511000000) (w : World) (O : Paint) (cw cm : Nat) (hne : cw ≠ cm) :
  Calls Tryz.prog 28 #[.agg #[.int .i64 lc, .int .i64 lp, .int .i64 pb], .int .i64 most] w fun x w' =>
   ∃ i O', x = .returned (.pointer (some ⟨i.mo, 0, none⟩)) /\ i.cw = cw /\ i.cm = cm /\ i.most = most /\ Step [] w O w' O' /\ Whole w' O' i ⟨lc, lp, pb, 0, [], ⟨1, 1, 1, 1⟩⟩ (fun _ _ _ => 1024) := by
 refine (new_raw lc lp pb hl hpb most w).mono ?_
 rintro x w' ⟨mo, wb, K, gb, cap, tb, W, w2, rfl, hbW, hwb, hWb, hb2, hlik, rfl, hb3, hmo⟩
 have s1 := Step.of_below hbW O cw
 have s2 := Step.of_below hb2 (Step.paint O w cw) cm
 have s3 := Step.of_below hb3 (Step.paint (Step.paint O w cw) W cm) cw
 have hl2 := hlik (Step.paint (Step.paint O w cw) W cm) cm (fun k hk => Step.paint_new hk)
 have hwl := lt_of_heap hWb
 have e1 : Step.paint O w cw wb = cw := Step.paint_new hwb
 have e2 : Step.paint (Step.paint O w cw) W cm wb = cw := (Step.paint_old hwl).trans e1
 have e3 : Step.paint (Step.paint (Step.paint O w cw) W cm) w2 cw wb = cw := (Step.paint_old (Nat.lt_of_lt_of_le hwl hb2.size)).trans e2
 have hW3 := (hb3.block wb (Nat.lt_of_lt_of_le hwl hb2.size)).trans ((hb2.block wb hwl).trans hWb)
 refine ⟨⟨cw, cm, w2.heap.size, wb, K, gb, cap, 2 ^ (lc + lp), most.toNat, tb, most⟩, _, rfl, rfl, rfl, rfl, (s1.trans s2).trans s3, ⟨⟨.slice none 0 0, ⟨⟨hmo, Step.paint_new (Nat.le_refl _)⟩, win_new hW3, ⟨e3, fun j hj => by simp [Value.ownBlock] at hj⟩, by show (0 : Nat) < 12; omega⟩⟩, hl2.step s3 (by simp), fun _ _ _ => by omega, ⟨by show (0 : Nat) < 12; omega, hl, hpb, rfl⟩, ?_, Nat.zero_le _, rfl, hne, ?_, h1⟩⟩
 · unfold Pk.Rp.pos; simp
 · show most.toNat <= 1099511000000
   omega
end Go.Proofs.YtfpoabeihpfeiaaGreat.Mo
end
section
namespace Go.Proofs.YtfpoabeihpfeiaaGreat.Mo
open Go.RowKit
open Rc
open Pk (Rp Pt)
structure Pr where
 m : Ms
 s : Es
open Classical in
noncomputable def pkOf (p : Pt) : Pk1 := if h : ∃ q : Pk1, q.Ok /\ q.pt = p then h.choose else .sho
theorem pkOf_ok {p : Pt} {hv : Int} {r : Rp} {x : Int × Int × Rp} (hb : p.b < 256) (h : p.fit hv r = some x) : (pkOf p).Ok /\ (pkOf p).pt = p := by
 have hq := fit_pk hb h
 unfold pkOf
 rw [dif_pos hq]
 exact hq.choose_spec
noncomputable def Pr.put (most : Int) (x : Pr) (p : Pt) : Pr := match fitM most x.m p with
 | none => x
 | some y => ⟨x.m.tell p y, x.s.code x.m (pkOf p)⟩
theorem Pr.put_no {most : Int} {x : Pr} {p : Pt} (h : fitM most x.m p = none) : x.put most p = x := by unfold Pr.put; rw [h]
theorem Pr.put_yes {most : Int} {x : Pr} {p : Pt} {y : Int × Int × Rp} (h : fitM most x.m p = some y) : x.put most p = ⟨x.m.tell p y, x.s.code x.m (pkOf p)⟩ := by unfold Pr.put; rw [h]
noncomputable def runs (most : Int) (x : Pr) (l : List Pt) : Pr := l.foldl (Pr.put most) x
theorem runs_snoc (most : Int) (x : Pr) (l : List Pt) (p : Pt) : runs most x (l ++ [p]) = (runs most x l).put most p := by simp [runs]
def FitAll (most : Int) (x : Pr) : List Pt -> Prop
 | [] => True
 | p :: l => (p.b < 256 /\ ∃ y, fitM most x.m p = some y) /\ FitAll most (x.put most p) l
theorem fitAll_snoc {most : Int} {p : Pt} : ∀ {l : List Pt} {x : Pr}, FitAll most x l -> p.b < 256 -> (∃ y, fitM most (runs most x l).m p = some y) -> FitAll most x (l ++ [p])
 | [], x, _, hb, h => ⟨⟨hb, h⟩, trivial⟩
 | q :: l, x, hl, hb, h => ⟨hl.1, fitAll_snoc hl.2 hb h⟩
theorem fitAll_at {most : Int} : ∀ {l : List Pt} {x : Pr} {i : Nat} {p : Pt}, FitAll most x l -> l[i]? = some p -> p.b < 256 /\ ∃ y, fitM most (runs most x (l.take i)).m p = some y
 | [], x, i, p, _, h => by simp at h
 | q :: l, x, 0, p, hl, h => by simp at h; subst h; exact hl.1
 | q :: l, x, i + 1, p, hl, h => fitAll_at (l := l) (x := x.put most q) hl.2 (by simpa using h)
theorem runs_take {most : Int} {l : List Pt} {x : Pr} {i : Nat} {p : Pt} (h : l[i]? = some p) : runs most x (l.take (i + 1)) = (runs most x (l.take i)).put most p := by
 rw [List.take_add_one, h]
 exact runs_snoc _ _ _ _
theorem Pr.put_ok {most : Int} {x : Pr} (h : x.s.Ok) (p : Pt) : (x.put most p).s.Ok := by
 unfold Pr.put
 split
 · exact h
 · exact h.code _ _
theorem runs_ok {most : Int} : ∀ {l : List Pt} {x : Pr}, x.s.Ok -> (runs most x l).s.Ok
 | [], _, h => h
 | p :: l, x, h => runs_ok (l := l) (x := x.put most p) (Pr.put_ok h p)
theorem Pr.put_turns {most : Int} {x : Pr} {p : Pt} (hb : p.b < 256) : (x.put most p).s.e.turns <= x.s.e.turns + 200 := by
 cases h : fitM most x.m p with
 | none => rw [Pr.put_no h]; omega
 | some y => rw [Pr.put_yes h]; exact Es.code_turns _ _ (pkOf_ok hb (fitM_some h).1).1
theorem runs_turns {most : Int} : ∀ {l : List Pt} {x : Pr}, FitAll most x l -> (runs most x l).s.e.turns <= x.s.e.turns + 200 * l.length
 | [], x, _ => Nat.le_refl _
 | p :: l, x, h => by
  have h1 := Pr.put_turns (most := most) (x := x) h.1.1
  have h2 := runs_turns (l := l) (x := x.put most p) h.2
  have e : runs most x (p :: l) = runs most (x.put most p) l := rfl
  rw [e]
  simp only [List.length_cons]
  omega
theorem ahead_put {most : Int} {x : Pr} {p : Pt} {F T : Nat} (h : x.s.Ok) (ha : Ahead (x.put most p).s.e F T) : Ahead x.s.e F T := by
 cases hf : fitM most x.m p with
 | none => rwa [Pr.put_no hf] at ha
 | some y => rw [Pr.put_yes hf] at ha; exact ahead_code h ha
theorem ahead_runs {most : Int} {F T : Nat} : ∀ {l : List Pt} {x : Pr} (i : Nat), x.s.Ok -> Ahead (runs most x l).s.e F T -> Ahead (runs most x (l.take i)).s.e F T
 | [], x, i, _, ha => by simpa using ha
 | p :: l, x, 0, h, ha => ahead_put h (ahead_runs (l := l) (x := x.put most p) 0 (Pr.put_ok h p) ha)
 | p :: l, x, i + 1, h, ha => ahead_runs (l := l) (x := x.put most p) i (Pr.put_ok h p) ha
theorem fit_no_end {p : Pt} {hv : Int} {r : Rp} {x : Int × Int × Rp} (h : p.fit hv r = some x) : ¬ (p.k = 2 /\ p.d = 0 /\ p.n = 2 /\ p.b = 0) := by
 rintro ⟨h1, h2, h3, h4⟩
 have hn : p.fit hv r = none := by
  unfold Pk.Pt.fit
  split
  · rfl
  · simp [h1, h2]
 rw [hn] at h
 cases h
theorem got_fits {most : Int} {m : Ms} {p : Pt} {y : Int × Int × Rp} (h : fitM most m p = some y) : got most m p = (p, false, true, m.tell p y) := by
 unfold got
 rw [if_neg (fit_no_end (fitM_some h).1), h]
theorem got_end (most : Int) (m : Ms) : got most m pend.pt = (⟨0, 0, 0, 0⟩, true, true, m) := if_pos ⟨rfl, rfl, rfl, rfl⟩
theorem fol_put {most : Int} {x : Pr} {d : Ds} {p : Pt} {y : Int × Int × Rp} {F T : Nat} {more : List UInt8} (h : x.s.Ok) (hb : p.b < 256) (hy : fitM most x.m p = some y) (ha : Ahead (x.put most p).s.e F T) (hf : Fol d x.s F T more) :
  got most x.m (d.codeP x.m).pt = (p, false, true, (x.put most p).m) /\ Fol (d.code x.m) (x.put most p).s F T more := by
 obtain ⟨q1, q2⟩ := pkOf_ok hb (fitM_some hy).1
 rw [Pr.put_yes hy] at ha ⊢
 obtain ⟨h1, h2⟩ := fol_code h q1 ha hf
 refine ⟨?_, h2⟩
 rw [h1, q2]
 exact got_fits hy
theorem fol_end {most : Int} {x : Pr} {d : Ds} {F T : Nat} {more : List UInt8} (h : x.s.Ok) (ha : Ahead (x.s.code x.m pend).e F T) (hf : Fol d x.s F T more) :
  got most x.m (d.codeP x.m).pt = (⟨0, 0, 0, 0⟩, true, true, x.m) /\ Fol (d.code x.m) (x.s.code x.m pend) F T more := by
 obtain ⟨h1, h2⟩ := fol_code h pend_ok ha hf
 refine ⟨?_, h2⟩
 rw [h1]
 exact got_end _ _
end Go.Proofs.YtfpoabeihpfeiaaGreat.Mo
end
