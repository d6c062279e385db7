/-
  The walk of the statement OptimalBest: for every text and table it returns true, and writes nothing that was there.
  Opening arguments: the cells of a struct whose fields take one cell each, read as data (plain laws; no program is named).
  Opening arguments of layer 10's statements: an array of three bytes, an array of three integers, a list of packets.
  Opening arguments: a list of layer 11's packets, read as data, is what the walks are told of it.
  Opening arguments of layer 15's statements: a table; a list of packets.
-/
import Derived.Test.YtoneghmahdjgbaaGreatPk01
import Derived.Test.YtoneghmahdjgbaaGreatPk15
import Derived.Test.YtoneghmahdjgbaaGreatPk25
import Derived.Test.YtoneghmahdjgbaaGreatPk26
import Derived.Test.YtoneghmahdjgbaaGreatPk48
import Derived.Deep.Slices
import Derived.Deep.Fields
import Derived.ChangeSame
import Derived.Test.YtoneghmahdjgbaaGreatRows
import Derived.OpenShut
import Derived.ChangeArms
import Derived.ChangeAt
import Derived.WalkKit
import Derived.ProofKit
section
set_option linter.unusedVariables false
set_option linter.unusedSimpArgs false
namespace Go.Proofs.YtoneghmahdjgbaaGreat.Om
open Go.RowKit
open Pc (Tb ofV)
open Pk (Pt Rp IsPts repL applyL)
open Gr (told best wait best_ok wait_ok told_facts parse_rep parse_length greedy_any lazy_any again_any)
open Lz (back_end three_cells)
theorem bel_dn {B : Nat} {W0 W : World} (h : Below B W0 W) (n : Nat) : Below B W0 (W.drewN n) := ⟨h.os, h.tape, h.output, h.size, h.block⟩
theorem ofV_eq (x : Option Int) : ofV x = .tuple #[.int .i64 (x.getD 0), .bool x.isSome] := by cases x <;> rfl
/-- Other packets that tell the text. -/
structure Other (t : Tb) (s : ByteArray) (N : Int) (l : List Pt) : Prop where
  len : l.length ≤ 1000
  dist : ∀ p ∈ l, -9223372036854775808 ≤ p.d ∧ p.d ≤ 9223372036854775807
  cost : (t.go 0 l).isSome = true → ¬ (t.go 0 l).getD 0 < N
theorem other_of {t : Tb} (ht : t.good = true) {s : ByteArray} (hs : s.size ≤ 300) {l : List Pt} (hl : l.length ≤ 1000) (h : applyL s.size l [] ⟨1, 1, 1, 1⟩ = (s.data.toList, 0)) : Other t s (ways t s 1048576 s.size s.size).1 l := by
  have hpos : (⟨1, 1, 1, 1⟩ : Rp).pos := by unfold Rp.pos; simp
  refine ⟨hl, fun p hp => ?_, fun hsm => ?_⟩
  · have := apply_dist l [] _ hpos h p hp
    omega
  · cases hg : t.go 0 l with
    | none => rw [hg] at hsm; cases hsm
    | some a =>
      have := path_least (W := 1048576) ht (show s.size ≤ 1048576 by omega) rfl l 0 ⟨1, 1, 1, 1⟩ 0 a (Nat.zero_le _) hpos (by rw [List.take_zero]; exact h) hg
      rw [ways_zero ht _ (by omega)] at this
      show ¬ a < _
      omega
theorem other_greedy {t : Tb} (ht : t.good = true) {s : ByteArray} (hs : s.size ≤ 300) (W cut : Int) : Other t s (ways t s 1048576 s.size s.size).1 (told s (best s W cut)) :=
  other_of ht hs (by rw [(told_facts (best_ok s W cut) (show s.size ≤ 1048576 by omega)).2.1]; have := parse_length s (best s W cut) 0; omega) ((parse_rep (best_ok s W cut) (show s.size ≤ 1048576 by omega)).2 s.size (Nat.le_refl _))
theorem other_lazy {t : Tb} (ht : t.good = true) {s : ByteArray} (hs : s.size ≤ 300) (W cut : Int) : Other t s (ways t s 1048576 s.size s.size).1 (told s (wait s W cut)) :=
  other_of ht hs (by rw [(told_facts (wait_ok s W cut) (show s.size ≤ 1048576 by omega)).2.1]; have := parse_length s (wait s W cut) 0; omega) ((parse_rep (wait_ok s W cut) (show s.size ≤ 1048576 by omega)).2 s.size (Nat.le_refl _))
set_option maxRecDepth 100000 in
set_option maxHeartbeats 8000000 in
theorem best_walk (s0 : ByteArray) (t : Tb) (w : World) (hs0 : s0.size ≤ maxLen) :
    Calls Tryz.prog 3 #[.string s0, .agg #[.int .i64 t.l, .int .i64 t.m, .int .i64 t.n, .int .i64 t.f, .int .i64 t.b]] w fun x w' => x = .returned (.bool true) ∧ Below w.heap.size w w' := by
  unfold maxLen at hs0
  have HSP := Lib.hid speaks16
  have hb1 : Below w.heap.size w (w.alloc (.cells #[.int .i64 t.l, .int .i64 t.m, .int .i64 t.n, .int .i64 t.f, .int .i64 t.b] 23)) := (Below.refl _ _).alloc (Nat.le_refl _) _
  have HX1 := Lib.hid (heap_alloc_new w (.cells #[.int .i64 t.l, .int .i64 t.m, .int .i64 t.n, .int .i64 t.f, .int .i64 t.b] 23))
  have HB1 := Lib.hid hb1
  clear hb1
  go_enter Tryz.func3, Tryz.ntmps3
  go_upto_region 1 with (fail)
  generalize w.alloc (.cells #[.int .i64 t.l, .int .i64 t.m, .int .i64 t.n, .int .i64 t.f, .int .i64 t.b] 23) = w1 at *
  obtain ⟨X, hX⟩ : ∃ X, X = w.heap.size := ⟨_, rfl⟩
  rw [← hX] at HX1 ⊢
  clear hX
  go_wp2_with fail
  refine (HSP.out w1).mono ?_
  rintro x w2 ⟨rfl, hb2⟩
  have HB2 := Lib.hid (HB1.out.trans (hb2.mono HB1.out.size))
  have HX2 := Lib.hid ((hb2.block X (lt_of_heap HX1.out)).trans HX1.out)
  clear hb2 HSP HX1 HB1
  go_upto_region 4 with (fail)
  have hmm : (if (300 : Int) < (s0.size : Int) then (300 : Int) else (s0.size : Int)) = min (s0.size : Int) 300 := by split <;> omega
  try rw [hmm]
  clear hmm
  have hs : (s0.extract 0 (min (s0.size : Int) 300).toNat).size ≤ 300 := by simp; omega
  generalize min (s0.size : Int) 300 = mn at *
  generalize s0.extract 0 mn.toNat = s at *
  obtain ⟨x0, x1, x2, x3, x4⟩ := five_of HX2.out
  go_upto_region 5 with (fail)
  have hb3 : Below w2.heap.size w2 (w2.alloc (.cells #[.int .i64 t.l, .int .i64 t.m, .int .i64 t.n, .int .i64 t.f, .int .i64 t.b] 25)) := (Below.refl _ _).alloc (Nat.le_refl _) _
  have HY3 := Lib.hid (heap_alloc_new w2 (.cells #[.int .i64 t.l, .int .i64 t.m, .int .i64 t.n, .int .i64 t.f, .int .i64 t.b] 25))
  have HB3 := Lib.hid (HB2.out.trans (hb3.mono HB2.out.size))
  clear hb3 HX2 HB2 x0 x1 x2 x3 x4
  generalize w2.alloc (.cells #[.int .i64 t.l, .int .i64 t.m, .int .i64 t.n, .int .i64 t.f, .int .i64 t.b] 25) = w3 at *
  generalize w2.heap.size = Y at *
  obtain ⟨y0, y1, y2, y3, y4⟩ := five_of HY3.out
  have HGD := Lib.hid (Pc.good_any t w3)
  cases hg : t.good with
  | false =>
    rw [hg] at HGD
    clear hg
    go_wp2_with fail
    refine HGD.out.mono ?_
    rintro x w4 ⟨rfl, hb4⟩
    have HB4 := Lib.hid (HB3.out.trans (hb4.mono HB3.out.size))
    clear hb4 HGD y0 y1 y2 y3 y4
    go_wp2_with fail
    go_ret
    exact ⟨rfl, HB4.out⟩
  | true =>
    rw [hg] at HGD
    have HPL := Lib.hid (fun (W1 : World) => plain_any s (by omega) 1048576 (by omega) (by omega) t hg W1)
    have HPA := Lib.hid (fun (W1 : World) => parse_any s (by omega) 1048576 (by omega) (by omega) t hg W1)
    rw [show min (1048576 : Int) 1048576 = 1048576 from by omega] at HPL HPA
    obtain ⟨k1, k2, k3, k4, k5, k6, k7⟩ := plain_ok hg (show s.size ≤ 1048576 by omega) 1048576
    obtain ⟨bs, hE, hD⟩ := back_end 3 0 2 (by omega) (by omega) k6 k7 (by omega) (by omega)
    have HGR := Lib.hid (fun (W1 : World) => greedy_any s 1048576 1048576 W1 (by omega) (by omega) (by omega) (by omega))
    have HLZ := Lib.hid (fun (W1 : World) => lazy_any s 1048576 1048576 W1 (by omega) (by omega) (by omega) (by omega))
    have HOG := Lib.hid (other_greedy hg hs 1048576 1048576)
    have HOL := Lib.hid (other_lazy hg hs 1048576 1048576)
    have HTE : Hid (repL (plainL t s 1048576) 0 ⟨1, 1, 1, 1⟩ ⟨1, 1, 1, 1⟩ = toldL t s 1048576) := Lib.hid rfl
    have HK1 := Lib.hid k1
    have HK2 : Hid (∀ p ∈ plainL t s 1048576, -9223372036854775808 ≤ p.d ∧ p.d ≤ 9223372036854775807) := Lib.hid (fun p hp => by obtain ⟨_, q0, q1, _⟩ := k2 p hp; omega)
    have HK5 := Lib.hid k5
    have HK6 := Lib.hid k6
    have HENC := Lib.hid hE
    have HDEC := Lib.hid hD
    have HG := Lib.hid hg
    have hl1000 : (plainL t s 1048576).length ≤ 1000 := by omega
    have hm1000 : (toldL t s 1048576).length ≤ 1000 := by omega
    clear k1 k2 k3 k4 k5 k6 k7 hE hD hg
    generalize plainL t s 1048576 = l at *
    generalize toldL t s 1048576 = ml at *
    generalize told s (best s 1048576 1048576) = gl at *
    generalize told s (wait s 1048576 1048576) = ll at *
    generalize (ways t s 1048576 s.size s.size).1 = N at *
    go_wp2_with fail
    refine HGD.out.mono ?_
    rintro x w4 ⟨rfl, hb4⟩
    have HB4 := Lib.hid (HB3.out.trans (hb4.mono HB3.out.size))
    have HY4 := Lib.hid ((hb4.block Y (lt_of_heap HY3.out)).trans HY3.out)
    clear hb4 HGD y0 y1 y2 y3 y4 HB3 HY3
    obtain ⟨y0, y1, y2, y3, y4⟩ := five_of HY4.out
    go_wp2_with fail
    refine (HPL.out w4).mono ?_
    rintro x w5 ⟨A, cap, rfl, hb5, hI5⟩
    have HB5 := Lib.hid (HB4.out.trans (hb5.mono HB4.out.size))
    have HY5 := Lib.hid ((hb5.block Y (lt_of_heap HY4.out)).trans HY4.out)
    have HI5 := Lib.hid hI5
    have hof := Pc.of_any t HG.out hI5 hl1000 HK2.out cap
    rw [HK1.out] at hof
    have HOF := Lib.hid hof
    clear hb5 hI5 hof HPL y0 y1 y2 y3 y4 HB4 HY4
    obtain ⟨y0, y1, y2, y3, y4⟩ := five_of HY5.out
    go_wp2_with fail
    refine HOF.out.mono ?_
    rintro x w6 ⟨rfl, hb6⟩
    have HB6 := Lib.hid (HB5.out.trans (hb6.mono HB5.out.size))
    have HY6 := Lib.hid ((hb6.block Y (lt_of_heap HY5.out)).trans HY5.out)
    have HI6 := Lib.hid (HI5.out.below hb6)
    clear hb6 HOF HB5 HY5 HI5 y0 y1 y2 y3 y4
    have HS6 := Lib.hid (show ∀ W', Below w6.heap.size w6 W' → (Below w6.heap.size w6 W' ∧ (W'.cell? ⟨Y, 0, none⟩ = some (.int .i64 t.l) ∧ W'.cell? ⟨Y, 1, none⟩ = some (.int .i64 t.m) ∧ W'.cell? ⟨Y, 2, none⟩ = some (.int .i64 t.n) ∧ W'.cell? ⟨Y, 3, none⟩ = some (.int .i64 t.f) ∧ W'.cell? ⟨Y, 4, none⟩ = some (.int .i64 t.b))) from fun W' hb => ⟨hb, five_of ((hb.block Y (lt_of_heap HY6.out)).trans HY6.out)⟩)
    have HOFG := Lib.hid (fun (W1 : World) (a : Option Addr) (hI : IsPts W1 a gl) (cap : Nat) => Pc.of_any t HG.out hI HOG.out.len HOG.out.dist cap)
    have HOFL := Lib.hid (fun (W1 : World) (a : Option Addr) (hI : IsPts W1 a ll) (cap : Nat) => Pc.of_any t HG.out hI HOL.out.len HOL.out.dist cap)
    rw [ofV_eq] at HOFG HOFL
    have hcg := HOG.out.cost
    have hcl := HOL.out.cost
    generalize (t.go 0 gl).isSome = gp at *
    generalize (t.go 0 gl).getD 0 = ga at *
    generalize (t.go 0 ll).isSome = lp at *
    generalize (t.go 0 ll).getD 0 = la at *
    unfold ofV
    go_upto_region 11 with (fail)
    go_region_held3 (fun W' => Below w6.heap.size w6 W' ∧ (W'.cell? ⟨Y, 0, none⟩ = some (.int .i64 t.l) ∧ W'.cell? ⟨Y, 1, none⟩ = some (.int .i64 t.m) ∧ W'.cell? ⟨Y, 2, none⟩ = some (.int .i64 t.n) ∧ W'.cell? ⟨Y, 3, none⟩ = some (.int .i64 t.f) ∧ W'.cell? ⟨Y, 4, none⟩ = some (.int .i64 t.b))) ((refine HS6.out _ ?_; repeat (first | assumption | exact Below.refl _ _ | refine Pk.bel_drew ?_ | (refine Pk.bel_new (by assumption) ?_)))) (first | (go_at_call 8; (with_reducible refine (HGR.out _).mono ?_); rintro z w7 ⟨Z7, rfl, hb7, hI7⟩) | (go_at_call 7; (with_reducible refine (HOFG.out _ _ hI7 _).mono ?_); rintro z w8 ⟨rfl, hb8⟩))
    have hb9 := Pk.bel_new hb8 (Pk.bel_new hb7 (Pk.bel_drew (Below.refl w6.heap.size w6)))
    rename World => w9
    have HB9 := Lib.hid (HB6.out.trans (hb9.mono HB6.out.size))
    have HY9 := Lib.hid ((hb9.block Y (lt_of_heap HY6.out)).trans HY6.out)
    have HI9 := Lib.hid (HI6.out.below hb9)
    clear hb7 hb8 hb9 hI7 HB6 HY6 HI6 HS6 HGR HOFG HOG
    have HS9 := Lib.hid (show ∀ W', Below w9.heap.size w9 W' → (Below w9.heap.size w9 W' ∧ (W'.cell? ⟨Y, 0, none⟩ = some (.int .i64 t.l) ∧ W'.cell? ⟨Y, 1, none⟩ = some (.int .i64 t.m) ∧ W'.cell? ⟨Y, 2, none⟩ = some (.int .i64 t.n) ∧ W'.cell? ⟨Y, 3, none⟩ = some (.int .i64 t.f) ∧ W'.cell? ⟨Y, 4, none⟩ = some (.int .i64 t.b))) from fun W' hb => ⟨hb, five_of ((hb.block Y (lt_of_heap HY9.out)).trans HY9.out)⟩)
    go_upto_region 12 with (fail)
    go_region_held3 (fun W' => Below w9.heap.size w9 W' ∧ (W'.cell? ⟨Y, 0, none⟩ = some (.int .i64 t.l) ∧ W'.cell? ⟨Y, 1, none⟩ = some (.int .i64 t.m) ∧ W'.cell? ⟨Y, 2, none⟩ = some (.int .i64 t.n) ∧ W'.cell? ⟨Y, 3, none⟩ = some (.int .i64 t.f) ∧ W'.cell? ⟨Y, 4, none⟩ = some (.int .i64 t.b))) ((refine HS9.out _ ?_; repeat (first | assumption | exact Below.refl _ _ | refine Pk.bel_drew ?_ | (refine Pk.bel_new (by assumption) ?_)))) (first | (go_at_call 9; (with_reducible refine (HLZ.out _).mono ?_); rintro z w10 ⟨Z10, rfl, hb10, hI10⟩) | (go_at_call 7; (with_reducible refine (HOFL.out _ _ hI10 _).mono ?_); rintro z w11 ⟨rfl, hb11⟩))
    have hb12 := Pk.bel_new hb11 (Pk.bel_new hb10 (Pk.bel_drew (Below.refl w9.heap.size w9)))
    rename World => w12
    have HB12 := Lib.hid (HB9.out.trans (hb12.mono HB9.out.size))
    have HY12 := Lib.hid ((hb12.block Y (lt_of_heap HY9.out)).trans HY9.out)
    have HI12 := Lib.hid (HI9.out.below hb12)
    clear hb10 hb11 hb12 hI10 HB9 HY9 HI9 HS9 HLZ HOFL HOL
    obtain ⟨y0, y1, y2, y3, y4⟩ := five_of HY12.out
    have HCG := Lib.hid hcg
    have HCL := Lib.hid hcl
    clear hcg hcl
    have HNE := Lib.hid (fun (k d n : Int) (b : Nat) (W : World) => eq_pkt k d n b W)
    cases gp <;> cases lp
    all_goals
      first
        | (have hg1 := HCG.out rfl; have hl1 := HCL.out rfl)
        | have hg1 := HCG.out rfl
        | have hl1 := HCL.out rfl
        | skip
      clear HCG HCL
      go_wp2_with fail
      refine (HPA.out w12).mono ?_
      rintro x w13 ⟨Z13, rfl, hb13, hI13⟩
      have HB13 := Lib.hid (HB12.out.trans (hb13.mono HB12.out.size))
      have HI13 := Lib.hid (HI12.out.below hb13)
      have HM13 := Lib.hid hI13
      have hag := again_any (cap := cap) (Below.refl w13.heap.size w13) HI13.out hl1000 (by rw [HTE.out]; exact HK6.out) (by rw [HTE.out]; exact HK5.out)
      rw [HTE.out] at hag
      have HAG := Lib.hid hag
      clear hb13 hI13 hag HB12 HY12 HI12 y0 y1 y2 y3 y4
      go_wp2_with fail
      refine HAG.out.mono ?_
      rintro x w14 ⟨Z14, rfl, hb14, hI14⟩
      have HB14 := Lib.hid (HB13.out.trans (hb14.mono HB13.out.size))
      have HM14 := Lib.hid (HM13.out.below hb14)
      have HR14 := Lib.hid hI14
      clear hb14 hI14 HAG HB13 HI13 HM13
      go_wp2_with fail
      go_loopw [15] (fun i wr => ∃ k : Nat, k ≤ ml.length ∧ i = .int .i64 (k : Int) ∧ Below w14.heap.size w14 wr) (fun i _ => ml.length - (intOf i).toNat)
      case atStart => exact ⟨0, Nat.zero_le _, rfl, Below.refl _ _⟩
      case round =>
        obtain ⟨k, hk, rfl, hbr⟩ := hrel
        rename World => wo
        by_cases hlt : k < ml.length
        · rcases HM14.out.below hbr with h | ⟨bb, oo, he, hI⟩
          · rw [h] at hlt; simp at hlt
          · rcases HR14.out.below hbr with h | ⟨cc, qq, he2, hJ⟩
            · rw [h] at hlt; simp at hlt
            · simp only [Option.some.injEq, Addr.mk.injEq, and_true] at he he2
              obtain ⟨rfl, rfl⟩ := he
              obtain ⟨rfl, rfl⟩ := he2
              obtain ⟨p0, p1, p2, p3, _⟩ := hI k hlt
              obtain ⟨q0, q1, q2, q3, _⟩ := hJ k hlt
              rw [Nat.zero_add] at p0 p1 p2 p3 q0 q1 q2 q3
              have hq := HNE.out ml[k].k ml[k].d ml[k].n ml[k].b
              have e0 : (0 : Int) ≤ (k : Int) := by omega
              have e1 : (k : Int) < (ml.length : Int) := by omega
              have e2 : (k : Int).toNat = k := rfl
              have HBR := Lib.hid hbr
              clear hI hJ hbr
              generalize ml[k].k = kk at *
              generalize ml[k].d = dd at *
              generalize ml[k].n = nn at *
              generalize ml[k].b = bb at *
              go_upto_region 21 with (fail)
              go_quiet (fail)
              have HBR2 := Lib.hid (show Below w14.heap.size w14 (wo.drewN nq) from bel_dn HBR.out nq)
              generalize wo.drewN nq = wq at *
              clear HBR p0 p1 p2 p3 q0 q1 q2 q3 hq
              go_wp2_with fail
              go_roundw
              case rel => exact ⟨k + 1, by omega, by go_num, HBR2.out⟩
              case measure => (simp [intOf]; try omega)
        · obtain rfl : k = ml.length := by omega
          have HB15 := Lib.hid (HB14.out.trans (hbr.mono HB14.out.size))
          have HM15 := Lib.hid (HM14.out.below hbr)
          clear hbr HB14 HM14 HR14
          go_upto_region 24 with (fail)
          have hb16 : Below wo.heap.size wo (wo.alloc (.cells #[.int .i64 3, .int .i64 0, .int .i64 2] 35)) := (Below.refl _ _).alloc (Nat.le_refl _) _
          have HB16 := Lib.hid (HB15.out.trans (hb16.mono HB15.out.size))
          have HM16 := Lib.hid (HM15.out.below hb16)
          have hz := heap_alloc_new wo (.cells #[.int .i64 3, .int .i64 0, .int .i64 2] 35)
          clear hb16 HB15 HM15
          generalize wo.alloc (.cells #[.int .i64 3, .int .i64 0, .int .i64 2] 35) = w16 at *
          generalize wo.heap.size = P at *
          obtain ⟨p0, p1, p2⟩ := three_cells hz
          have HZ := Lib.hid hz
          have hPl := lt_of_heap hz
          clear hz
          go_wp2_with fail
          refine (HENC.out _ _ _ HM16.out).mono ?_
          rintro x w17 ⟨rfl, hb17⟩
          have HB17 := Lib.hid (HB16.out.trans (hb17.mono HB16.out.size))
          obtain ⟨p0, p1, p2⟩ := three_cells ((hb17.block P hPl).trans HZ.out)
          clear hb17 HENC HB16 HM16 HZ
          go_wp2_with fail
          refine (HDEC.out _).mono ?_
          rintro x w18 ⟨rfl, hb18⟩
          have HB18 := Lib.hid (HB17.out.trans (hb18.mono HB17.out.size))
          have hss : (s.toList == s.toList) = true := by simp
          clear hb18 HDEC HB17 p0 p1 p2
          go_wp2_with fail
          go_ret
          exact ⟨rfl, HB18.out⟩
end Go.Proofs.YtoneghmahdjgbaaGreat.Om
end
section
section
section
namespace Go.Proofs.YtoneghmahdjgbaaGreat
open Go.ChangeShapes Go.WideShapes Go.Deep
section
variable {H : Type} {enc : TypeId × Value → H} {P : Program} {w : World} {base : Nat} {spare : Nat → Bool} {held : Bool}
end
end Go.Proofs.YtoneghmahdjgbaaGreat
end
section
namespace Go.Proofs.YtoneghmahdjgbaaGreat.Mo
open Go.ChangeShapes Go.WideShapes Go.ChangeAt Go.RowKit
open Pk (Pt IsPts IsPt)
open Pl (pts_of)
theorem laidOut : laidOutB Tryz.prog = true := by kernel_rfl
end Go.Proofs.YtoneghmahdjgbaaGreat.Mo
end
end
section
namespace Go.Proofs.YtoneghmahdjgbaaGreat.Mo
open Go.ChangeShapes Go.WideShapes Go.ChangeAt Go.RowKit
open Pk (Pt IsPts IsPt)
open Pl (pts_of)
end Go.Proofs.YtoneghmahdjgbaaGreat.Mo
end
end
section
namespace Go.Proofs.YtoneghmahdjgbaaGreat
open Go.ChangeShapes Go.WideShapes Go.Deep
/-- An integer field of a struct value that is read. -/
theorem int_field {H : Type} {enc : TypeId × Value → H} {P : Program} {w : World} {base : Nat} {spare : Nat → Bool} {held : Bool} {e : TypeId} {fs : Array Field} {fuel : Nat} {cs : List Value} {x : DataW H × List MemPlace} (he : P.underlying e = some (.struct fs)) (hone : oneCellFields P fs = true)
    (ht : DataW.trod enc P w base spare held fuel e cs = some x) (hC : P.cellsOf e = fs.size) (j : Nat) (f : Field) (hj : fs[j]? = some f) (k : IntKind) (hk : P.underlying f.type = some (.int k)) :
    ∃ n, cs[j]? = some (.int k n) ∧ (Lit.int k n).wf = true := by
  have hlt : j < fs.size := (Array.getElem?_eq_some_iff.1 hj).1
  obtain ⟨xs, m, _, _, hl, hxl, hf⟩ := DataW.trod_struct he ht
  have h := hf j f hj
  obtain ⟨ho, hkk⟩ := hone_of hone j f hj
  have hjc : j < cs.length := by omega
  rw [ho, hkk, List.drop_eq_getElem_cons hjc, List.take_succ_cons, List.take_zero, List.getElem?_eq_getElem (by omega)] at h
  obtain ⟨n, h3, _, h4⟩ := DataW.trod_int hk h
  simp only [List.cons.injEq, and_true] at h3
  exact ⟨n, by rw [List.getElem?_eq_getElem hjc, h3], h4⟩
end Go.Proofs.YtoneghmahdjgbaaGreat
namespace Go.Proofs.YtoneghmahdjgbaaGreat.Pc
open Go.ChangeShapes Go.WideShapes Go.ChangeAt Go.RowKit
open Pk (Pt IsPts IsPt)
open Pl (pts_of)
theorem laidOut : laidOutB Tryz.prog = true := by kernel_rfl
theorem cellsTb : Tryz.prog.cellsOf 23 = 5 := by kernel_rfl
set_option maxRecDepth 100000 in
theorem open_table {H : Type} {enc : TypeId × Value → H} {w W : World} {base b0 : Nat} {spare : Nat → Bool} {held : Bool} {v : Value} {d : DataW H} {p : List MemPlace} {r : Reach}
    (hk : Value.okWide Tryz.prog W r b0 23 v) (h : DataW.Trod enc Tryz.prog w base spare held 23 v d p) :
    ∃ t : Tb, v = .agg #[.int .i64 t.l, .int .i64 t.m, .int .i64 t.n, .int .i64 t.f, .int .i64 t.b] := by
  obtain ⟨cs, rfl, h2⟩ := okWide_struct Tryz.underlying23 hk
  obtain ⟨fuel, hf⟩ := h
  obtain ⟨l⟩ := cs
  rw [cellsTb] at h2
  match l, h2 with
  | [a, b, c, e, g], _ =>
    obtain ⟨n0, h0, _⟩ := int_field Tryz.underlying23 (by kernel_rfl) hf cellsTb 0 _ rfl .i64 Tryz.underlying3
    obtain ⟨n1, h1, _⟩ := int_field Tryz.underlying23 (by kernel_rfl) hf cellsTb 1 _ rfl .i64 Tryz.underlying3
    obtain ⟨n2, h2, _⟩ := int_field Tryz.underlying23 (by kernel_rfl) hf cellsTb 2 _ rfl .i64 Tryz.underlying3
    obtain ⟨n3, h3, _⟩ := int_field Tryz.underlying23 (by kernel_rfl) hf cellsTb 3 _ rfl .i64 Tryz.underlying3
    obtain ⟨n4, h4, _⟩ := int_field Tryz.underlying23 (by kernel_rfl) hf cellsTb 4 _ rfl .i64 Tryz.underlying3
    simp [Value.cells] at h0 h1 h2 h3 h4
    exact ⟨⟨n0, n1, n2, n3, n4⟩, by simp [h0, h1, h2, h3, h4]⟩
end Go.Proofs.YtoneghmahdjgbaaGreat.Pc
end
