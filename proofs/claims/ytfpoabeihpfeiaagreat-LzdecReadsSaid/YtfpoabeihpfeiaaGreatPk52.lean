/-
  What the statement LzdecReads asks of the document's bytes, as mathematics: they are read as their packets; with a byte more, or one less, they are none; of a lower limit neither.
  The walk of the statement LzdecReads: for all numbers and every list of packets it returns true, and writes nothing that was there.
-/
import Derived.Test.YtfpoabeihpfeiaaGreatPk50
import Derived.Test.YtfpoabeihpfeiaaGreatPk51

section
set_option linter.unusedVariables false
set_option linter.unusedSimpArgs false
namespace Go.Proofs.YtfpoabeihpfeiaaGreat.Lz
open Go.RowKit
open Rc Mo
open Pk (Rp Pt applyL IsPts)
open Cd (codA Inv xNew_pos)
theorem reads_coded (fin : Bool) (lc lp pb : Nat) {z : Pr × List Pt} {k : Nat} (h : Inv (xNew lc lp pb) z k) {M : Nat} (hM : z.1.m.l.length ≤ M) :
  readR lc lp pb ⟨(encB z.1 fin).toArray⟩ (askN fin z.1.m.l.length) (M : Int) = some (z.1.m, z.2) := by
 have h1 := apply_tight (Nat.le_refl _) _ _ _ (coded_applies h)
 obtain ⟨h2, h3⟩ := fitAll_apply z.2 (xNew lc lp pb) (xNew_pos lc lp pb) h.byte h1
 have hl := h.len
 obtain ⟨h4, h5⟩ := runs_mono (M := 3000) (by omega) h2
 rw [h.run] at h5
 generalize hN : z.1.m.l.length = N at *
 cases fin with
 | true =>
  obtain ⟨h6, h7⟩ := runs_mono (M := (M : Int)) (by omega) h2
  exact read_end (N := N) h6 (by rw [h7]; exact h5) hN hM
 | false =>
  have := read_run h2 h5 hN (by omega)
  unfold readR at this ⊢
  have e1 : mostOf (askN false N) (M : Int) = (N : Int) := by unfold mostOf askN; simp; omega
  have e2 : mostOf (N : Int) (N : Int) = (N : Int) := by unfold mostOf; split <;> rfl
  rw [e1]
  rw [e2] at this
  exact this
theorem reads_more {lc lp pb : Nat} {s : ByteArray} {n most : Int} {y : Ms × List Pt} (x : UInt8) (h : readR lc lp pb s n most = some y) : readR lc lp pb (s ++ ⟨#[x]⟩) n most = none := by
 rcases readR_two lc lp pb (s ++ ⟨#[x]⟩) s x n most (by simp) with h1 | h1
 · exact h1
 · rw [h] at h1; cases h1
theorem reads_less {lc lp pb : Nat} {s : ByteArray} {n most : Int} {y : Ms × List Pt} (hs : 1 ≤ s.size) (h : readR lc lp pb s n most = some y) : readR lc lp pb (s.extract 0 (s.size - 1)) n most = none := by
 have hl : s.data.toList ≠ [] := by
  intro hc
  have := congrArg List.length hc
  rw [Array.length_toList] at this
  have h2 : s.data.size = s.size := rfl
  rw [List.length_nil] at this
  omega
 have he : (s.extract 0 (s.size - 1)).data.toList = s.data.toList.dropLast := by
  have h2 : s.data.size = s.size := rfl
  have h3 : (s.extract 0 (s.size - 1)).data.toList = s.data.toList.take (s.size - 1) := by
   simp [ByteArray.data_extract]
   rw [List.dropLast_eq_take, Array.length_toList, h2]
  rw [h3, List.dropLast_eq_take, Array.length_toList, h2]
 rcases readR_two lc lp pb s (s.extract 0 (s.size - 1)) (s.data.toList.getLast hl) n most (by rw [he, List.dropLast_concat_getLast]) with h1 | h1
 · rw [h] at h1; cases h1
 · exact h1
end Go.Proofs.YtfpoabeihpfeiaaGreat.Lz
end
section
set_option linter.unusedVariables false
set_option linter.unusedSimpArgs false
namespace Go.Proofs.YtfpoabeihpfeiaaGreat.Lz
open Go.RowKit
open Rc Mo
open Pk (Rp Pt applyL IsPts)
open Cd (codA Inv xNew_pos coded_any CodedTo)
def lowC (fin : Bool) (N : Nat) : Int := if N = 0 then 1 else if fin then 6 else 4
theorem low_any (fin : Bool) (lc lp pb : Nat) (hl : lc + lp ≤ 4) (hpb : pb ≤ 4) {bs : ByteArray} (hbs : bs.size ≤ 1000000000000) {N : Nat} (hN : N ≤ 3000) {y : Ms × List Pt} (hy : y.1.l.length = N) (h : readR lc lp pb bs (askN fin N) (N : Int) = some y) (w : World) :
  Calls Tryz.prog 9 #[.string bs, .agg #[.int .i64 (lc : Int), .int .i64 (lp : Int), .int .i64 (pb : Int)], .int .i64 (askN fin N), .int .i64 ((N : Int) - 1)] w fun x w' => x = .returned (.tuple #[.string ⟨#[]⟩, .int .i64 (lowC fin N)]) ∧ Below w.heap.size w w' := by
 by_cases h0 : N = 0
 · rw [show lowC fin N = 1 from by unfold lowC; rw [if_pos h0]]
   exact dec_err 1 (by omega) _ _ _ _ _ bs (fun W fv => decode_bad _ _ _ ⟨by omega, by omega⟩ ⟨by omega, by omega⟩ _ _ (.inr (by omega)) bs fv W) w
 · cases fin with
   | true =>
    rw [show lowC true N = 6 from by unfold lowC; rw [if_neg h0]; rfl]
    have hr := readR_low lc lp pb bs (M := (N : Int)) (K := (N : Int) - 1) (m := y.1) (l := y.2) (by omega) (by omega) h (by omega)
    have hd := dec_any lc lp pb hl hpb bs hbs (askN true N) ((N : Int) - 1) (by omega) (by omega) (by show (-1 : Int) ≤ _; omega) (by show _ ≤ (-1 : Int); omega) w
    rw [show readR lc lp pb bs (askN true N) ((N : Int) - 1) = none from hr] at hd
    exact hd
   | false =>
    rw [show lowC false N = 4 from by unfold lowC; rw [if_neg h0]; rfl]
    exact dec_err 4 (by omega) _ _ _ _ _ bs (fun W fv => decode_long lc lp pb hl hpb _ _ (by omega) (by show _ < (N : Int); omega) bs fv W) w
theorem eq_pktr (k d n : Int) (b : Nat) (w : World) : (Op.equalIn 10000 37 (.agg #[.int .i64 k, .int .i64 d, .int .i64 n, .int .u8 (b : Int)]) (.agg #[.int .i64 k, .int .i64 d, .int .i64 n, .int .u8 (b : Int)])).run Tryz.prog w = .ok true w := by
 rw [run_equalIn_struct (P := Tryz.prog) w 9999 37 _ _ (by kernel_rfl) (by kernel_rfl)]
 simp [go_sem, Tryz.underlying37, Tryz.underlying3, Tryz.underlying5]
theorem belr_dn {B : Nat} {W0 W : World} (h : Below B W0 W) (n : Nat) : Below B W0 (W.drewN n) := ⟨h.os, h.tape, h.output, h.size, h.block⟩
set_option maxRecDepth 100000 in
set_option maxHeartbeats 16000000 in
theorem lzr_walk (x0 x1 x2 : Nat) (a0 : Option Addr) (len cap : Nat) (fin : Bool) (w : World) (ps : List Pt) (h0 : x0 < 256) (h1 : x1 < 256) (h2 : x2 < 256) (hps : ps.length = min len 40) (hpb : ∀ p ∈ ps, p.b < 256) (hlen : len ≤ maxLen) (h : IsPts w a0 ps) :
  Calls Tryz.prog 3 #[.agg #[.int .u8 (x0 : Int), .int .u8 (x1 : Int), .int .u8 (x2 : Int)], .slice a0 len cap, .bool fin] w fun x w' => x = .returned (.bool true) ∧ Below w.heap.size w w' := by
 have HPS := Lib.hid hps
 have HPX := Lib.hid hpb
 have h40 : ps.length ≤ 40 := by omega
 have HPA := Lib.hid (fun W => params11_any x0 x1 x2 h0 h1 h2 W)
 have HSUM := par_sum x0 x1
 have HPB : x2 % 5 ≤ 4 := by omega
 have hb1 : Below w.heap.size w (w.alloc (.cells #[.int .u8 (x0 : Int), .int .u8 (x1 : Int), .int .u8 (x2 : Int)] 22)) := (Below.refl _ _).alloc (Nat.le_refl _) _
 have HBX := Lib.hid (heap_alloc_new w (.cells #[.int .u8 (x0 : Int), .int .u8 (x1 : Int), .int .u8 (x2 : Int)] 22))
 have HB1 := Lib.hid hb1
 generalize parL x0 = lc at *
 generalize parP x0 x1 = lp at *
 generalize x2 % 5 = pb at *
 have HCD := Lib.hid (fun (W : World) (hb : Below w.heap.size w W) => coded_any lc lp pb HSUM HPB a0 len cap fin W ps HPS.out HPX.out hlen (h.below hb))
 have hiv := Inv.all lc lp pb HPX.out ps.length (Nat.le_refl _)
 rw [List.take_length] at hiv
 unfold maxLen at hlen
 clear h hps hpb h0 h1 h2 hb1
 generalize codA (xNew lc lp pb) ps = z at *
 have r1 := reads_coded fin lc lp pb hiv (M := 9000) (by have := hiv.len; omega)
 have r2 := reads_coded fin lc lp pb hiv (M := z.1.m.l.length) (Nat.le_refl _)
 rw [show ((9000 : Nat) : Int) = 9000 from rfl] at r1
 have hlen2 := hiv.len
 have hbl : (encB z.1 fin).length ≤ 9000 ∧ 1 ≤ (encB z.1 fin).length := by
  have ht := hiv.turns
  rw [show (xNew lc lp pb).s.e.turns = 0 from rfl] at ht
  have hct := Es.code_turns z.1.s z.1.m pend_ok
  cases fin <;> simp [encB, Enc.bytes, be_length] <;> omega
 have hzn : z.2.length ≤ 1000 := by have := hiv.num; omega
 obtain ⟨s, hs⟩ : ∃ s : ByteArray, s = ⟨z.1.m.l.toArray⟩ := ⟨_, rfl⟩
 have hsz : z.1.m.l.length = s.size := by rw [hs]; exact List.size_toArray.symm
 obtain ⟨bs, hbs⟩ : ∃ bs : ByteArray, bs = ⟨(encB z.1 fin).toArray⟩ := ⟨_, rfl⟩
 have hbz : (encB z.1 fin).length = bs.size := by rw [hbs]; exact List.size_toArray.symm
 rw [← hbs] at r1 r2
 have hlow := low_any fin lc lp pb HSUM HPB (bs := bs) (by omega) (N := z.1.m.l.length) (by omega) (y := (z.1.m, z.2)) rfl r2
 rw [hsz] at r1 r2 hlow hlen2
 rw [hbz] at hbl
 have r3 := reads_more 0 r1
 have r4 := reads_less hbl.2 r1
 have hak : -9223372036854775808 ≤ askN fin s.size ∧ askN fin s.size ≤ s.size := by unfold askN; split <;> omega
 have HPK := Lib.hid (fun (W : World) => packets_any lc lp pb HSUM HPB bs (by omega) (askN fin s.size) 9000 (by omega) (by omega) (by omega) hak.1 W)
 have HDC := Lib.hid (fun (W : World) => dec_any lc lp pb HSUM HPB bs (by omega) (askN fin s.size) (s.size : Int) (by omega) (by omega) hak.2 hak.1 W)
 have HDM := Lib.hid (fun (W : World) => dec_any lc lp pb HSUM HPB (bs ++ ⟨#[0]⟩) (by rw [ByteArray.size_append]; show bs.size + 1 ≤ _; omega) (askN fin s.size) 9000 (by omega) (by omega) (by omega) hak.1 W)
 have HDL := Lib.hid (fun (W : World) => dec_any lc lp pb HSUM HPB (bs.extract 0 (bs.size - 1)) (by rw [ByteArray.size_extract]; omega) (askN fin s.size) 9000 (by omega) (by omega) (by omega) hak.1 W)
 have HLO := Lib.hid hlow
 rw [r1] at HPK
 rw [r2] at HDC
 rw [r3] at HDM
 rw [r4] at HDL
 rw [show decV (some (z.1.m, z.2)) = .tuple #[.string s, .int .i64 0] from by show Value.tuple #[.string ⟨z.1.m.l.toArray⟩, .int .i64 0] = _; rw [hs]] at HDC
 rw [show decV none = .tuple #[.string ⟨#[]⟩, .int .i64 6] from rfl] at HDM HDL
 have HSS := Lib.hid hs
 have HBS := Lib.hid hbs
 have HNE := Lib.hid (fun (k d n : Int) (b : Nat) (W : World) => eq_pktr k d n b W)
 have hs2 : s.size ≤ 3000 := by omega
 have hb2 := hbl.1
 have hb3 := hbl.2
 clear hiv r1 r2 r3 r4 hlow hs hbs hsz hbz hbl hak HSUM HPB HPX HPS hlen2
 go_enter Tryz.func3, Tryz.ntmps3
 go_upto_region 1 with (fail)
 generalize w.alloc (.cells #[.int .u8 (x0 : Int), .int .u8 (x1 : Int), .int .u8 (x2 : Int)] 22) = W1 at *
 go_wp2_with fail
 refine (speaks11 W1).mono ?_
 rintro x w2 ⟨rfl, hb2'⟩
 have HB2 := Lib.hid (HB1.out.trans (hb2'.mono HB1.out.size))
 have hX2 := (hb2'.block _ (lt_of_heap HBX.out)).trans HBX.out
 obtain ⟨p0, p1, p2⟩ := Mo.three hX2
 clear hb2' HB1 HBX hX2
 go_wp2_with fail
 refine (HPA.out w2).mono ?_
 rintro x w3 ⟨rfl, hb3'⟩
 have HB3 := Lib.hid (HB2.out.trans (hb3'.mono HB2.out.size))
 clear hb3' HB2 p0 p1 p2 HPA
 go_upto_region 4 with (fail)
 have HB4 := Lib.hid (HB3.out.alloc HB3.out.size (.cells #[.int .i64 (lc : Int), .int .i64 (lp : Int), .int .i64 (pb : Int)] 26))
 have HX4 := Lib.hid (heap_alloc_new w3 (.cells #[.int .i64 (lc : Int), .int .i64 (lp : Int), .int .i64 (pb : Int)] 26))
 generalize w3.alloc (.cells #[.int .i64 (lc : Int), .int .i64 (lp : Int), .int .i64 (pb : Int)] 26) = W4 at *
 generalize w3.heap.size = P at *
 clear HB3
 obtain ⟨p0, p1, p2⟩ := Mo.three HX4.out
 go_wp2_with fail
 refine (HCD.out W4 HB4.out).mono ?_
 rintro x w5 ⟨ag, cg, rfl, hb5, hg5⟩
 have HB5 := Lib.hid (HB4.out.trans (hb5.mono HB4.out.size))
 have HX5 := Lib.hid ((hb5.block _ (lt_of_heap HX4.out)).trans HX4.out)
 have HG5 := Lib.hid hg5
 rw [← HSS.out, ← HBS.out]
 clear hb5 hg5 HB4 HX4 p0 p1 p2 HCD HSS HBS
 generalize z.1.m = zm at *
 generalize z.2 = qs at *
 clear z
 have ha0 : askN false s.size = (s.size : Int) := rfl
 have ha1 : askN true s.size = (-1 : Int) := rfl
 have hss : (s.toList == s.toList) = true := by simp
 have hw1 : IntKind.i64.wrap ((s.size : Int) - 1) = (s.size : Int) - 1 := by rw [IntKind.wrap_i64]; omega
 obtain ⟨q, hq⟩ : ∃ q : Int, q = (bs.size : Int) - 1 := ⟨_, rfl⟩
 have hw2 : IntKind.i64.wrap ((bs.size : Int) - 1) = q := by rw [IntKind.wrap_i64]; omega
 have hn1 : (0 : Int) ≤ q := by omega
 have hn2 : q ≤ (bs.size : Int) := by omega
 rw [show bs.size - 1 = q.toNat from by omega] at HDL
 clear hq
 have hl0 : Hid (s.size = 0 → lowC fin s.size = 1) := Lib.hid fun h => by unfold lowC; rw [if_pos h]
 have hl1 : Hid (¬ s.size = 0 → lowC fin s.size = if fin then 6 else 4) := Lib.hid fun h => by unfold lowC; rw [if_neg h]
 generalize lowC fin s.size = code at *
 cases fin
 all_goals
  first
  | rw [ha0] at HPK HDC HDM HDL HLO
  | rw [ha1] at HPK HDC HDM HDL HLO
  clear ha0 ha1
  obtain ⟨p0, p1, p2⟩ := Mo.three HX5.out
  go_wp2_with fail
  refine (HPK.out w5).mono ?_
  rintro x w8 hpk
  rcases hpk with ⟨_, h, _⟩ | ⟨v8, m8, acc, rfl, h, hb8, hrow, hby⟩
  · cases h
  have hq8 : acc = qs := by cases h; rfl
  rw [hq8] at hrow hby
  clear hq8 h
  obtain ⟨a8, c8, rfl, hI8⟩ := Pl.PtsT.slice (l := qs) hrow hby
  have HB8 := Lib.hid (HB5.out.trans (hb8.mono HB5.out.size))
  have HX8 := Lib.hid ((hb8.block _ (lt_of_heap HX5.out)).trans HX5.out)
  have HI8 := Lib.hid (HG5.out.below hb8)
  have HJ8 := Lib.hid hI8
  clear hb8 hI8 hrow hby HB5 HX5 HG5 HPK p0 p1 p2
  obtain ⟨p0, p1, p2⟩ := Mo.three HX8.out
  go_wp2_with fail
  refine (HDC.out w8).mono ?_
  rintro x w9 ⟨rfl, hb9⟩
  have HB9 := Lib.hid (HB8.out.trans (hb9.mono HB8.out.size))
  have HX9 := Lib.hid ((hb9.block _ (lt_of_heap HX8.out)).trans HX8.out)
  have HI9 := Lib.hid (HI8.out.below hb9)
  have HJ9 := Lib.hid (HJ8.out.below hb9)
  clear hb9 HB8 HX8 HI8 HJ8 HDC p0 p1 p2
  go_wp2_with fail
  go_loopw [16] (fun i wr => ∃ k : Nat, k ≤ qs.length ∧ i = .int .i64 (k : Int) ∧ Below w9.heap.size w9 wr) (fun i _ => qs.length - (intOf i).toNat)
  case atStart => exact ⟨0, Nat.zero_le _, rfl, Below.refl _ _⟩
  case round =>
   obtain ⟨k, hk, rfl, hbr⟩ := hrel
   rename World => wo
   by_cases hlt : k < qs.length
   · rcases HI9.out.below hbr with h | ⟨bb, oo, he, hI⟩
     · rw [h] at hlt; simp at hlt
     · rcases HJ9.out.below hbr with h | ⟨cc, qq, he2, hJ⟩
       · rw [h] at hlt; simp at hlt
       · subst he he2
         obtain ⟨p0, p1, p2, p3, _⟩ := hI k hlt
         obtain ⟨q0, q1, q2, q3, _⟩ := hJ k hlt
         have hq := HNE.out qs[k].k qs[k].d qs[k].n qs[k].b
         have e0 : (0 : Int) ≤ (k : Int) := by omega
         have e1 : (k : Int) < (qs.length : Int) := by omega
         have e2 : (k : Int).toNat = k := rfl
         have HBR := Lib.hid hbr
         clear hI hJ hbr
         generalize qs[k].k = kk at *
         generalize qs[k].d = dd at *
         generalize qs[k].n = nn at *
         generalize qs[k].b = bb at *
         go_upto_region 15 with (fail)
         go_quiet (fail)
         have HBR2 := Lib.hid (show Below w9.heap.size w9 (wo.drewN nq) from belr_dn HBR.out nq)
         generalize wo.drewN nq = wq at *
         clear HBR p0 p1 p2 p3 q0 q1 q2 q3 hq
         go_wp2_with fail
         go_roundw
         case rel => exact ⟨k + 1, by omega, by go_num, HBR2.out⟩
         case measure => (simp [intOf]; try omega)
   · obtain rfl : k = qs.length := by omega
     have HB10 := Lib.hid (HB9.out.trans (hbr.mono HB9.out.size))
     have HX10 := Lib.hid ((hbr.block _ (lt_of_heap HX9.out)).trans HX9.out)
     clear hbr HB9 HI9 HJ9 HX9 HNE
     obtain ⟨p0, p1, p2⟩ := Mo.three HX10.out
     go_wp2_with fail
     refine (HDM.out wo).mono ?_
     rintro x w11 ⟨rfl, hb11⟩
     have HB11 := Lib.hid (HB10.out.trans (hb11.mono HB10.out.size))
     have HX11 := Lib.hid ((hb11.block _ (lt_of_heap HX10.out)).trans HX10.out)
     clear hb11 HB10 HX10 HDM p0 p1 p2
     go_upto_region 18 with (fail)
     have HS : Hid (∀ W', Below w11.heap.size w11 W' → Below w11.heap.size w11 W' ∧ (W'.cell? ⟨P, 0, none⟩ = some (.int .i64 (lc : Int)) ∧ W'.cell? ⟨P, 1, none⟩ = some (.int .i64 (lp : Int)) ∧ W'.cell? ⟨P, 2, none⟩ = some (.int .i64 (pb : Int)))) := Lib.hid fun W' hb => ⟨hb, Mo.three ((hb.block P (lt_of_heap HX11.out)).trans HX11.out)⟩
     go_region_held3 (fun W' => Below w11.heap.size w11 W' ∧ (W'.cell? ⟨P, 0, none⟩ = some (.int .i64 (lc : Int)) ∧ W'.cell? ⟨P, 1, none⟩ = some (.int .i64 (lp : Int)) ∧ W'.cell? ⟨P, 2, none⟩ = some (.int .i64 (pb : Int)))) ((refine HS.out _ ?_; repeat (first | assumption | exact Below.refl _ _ | refine Pk.bel_drew ?_ | (refine Pk.bel_new (by assumption) ?_)))) (first | (go_at_call 9; (with_reducible refine (HDL.out _).mono ?_); rintro z w12 ⟨rfl, hb12⟩))
     all_goals
      have hb13 := Pk.bel_new hb12 (Pk.bel_drew (Below.refl w11.heap.size w11))
      rename World => w12
      have HB12 := Lib.hid (HB11.out.trans (hb13.mono HB11.out.size))
      have HX12 := Lib.hid ((hb13.block _ (lt_of_heap HX11.out)).trans HX11.out)
      clear hb12 hb13 HS HB11 HX11 HDL
      obtain ⟨p0, p1, p2⟩ := Mo.three HX12.out
      go_wp2_with fail
      refine (HLO.out w12).mono ?_
      rintro x w13 ⟨rfl, hb13⟩
      have HB13 := Lib.hid (HB12.out.trans (hb13.mono HB12.out.size))
      clear hb13 HB12 HX12 HLO p0 p1 p2 hw1 hw2 hn1 hn2
      by_cases hN : s.size = 0
      · obtain rfl := hl0.out hN
        have hNi : (s.size : Int) = 0 := by omega
        have hNb : ((s.size : Int) == 0) = true := by simpa using hN
        go_wp2_with fail
        go_ret
        exact ⟨rfl, HB13.out⟩
      · have hNi : ¬ (s.size : Int) = 0 := by omega
        have hNb : ((s.size : Int) == 0) = false := by simpa using hN
        have hco := hl1.out hN
        simp at hco
        subst hco
        go_wp2_with fail
        go_ret
        exact ⟨rfl, HB13.out⟩
end Go.Proofs.YtfpoabeihpfeiaaGreat.Lz
end
