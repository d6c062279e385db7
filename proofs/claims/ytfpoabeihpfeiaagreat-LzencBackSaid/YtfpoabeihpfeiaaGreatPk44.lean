/-
  The document's model of layer 10: a byte is put.
-/
import Derived.Test.YtfpoabeihpfeiaaGreatPk43
import Derived.Deep.RegionHeld3
set_option maxRecDepth 100000
set_option maxHeartbeats 16000000
set_option linter.unusedVariables false
set_option linter.unusedSimpArgs false
open Go.Lib (hid)
namespace Go.Proofs.YtfpoabeihpfeiaaGreat.Dc
open Go.RowKit Go.Maps
open Rc Mo
open Pk (Rp Pt)
section
variable {w : World} {O : Paint} {d B N cd ce : Nat} {m : Ms} {Q : Qs} {v : Value} {e : Enc}
theorem dput_lit (h : DocAt w O cd d B N m Q) (he : EncV w O ce v e) (hne : cd ≠ ce) (ht : e.turns <= 500000) (hm : m.lc + m.lp <= 4) (hp : m.pb <= 4) (hl : m.l.length <= 1000000000) (hst : m.st < 12) (hr : ¬ m.st < 7 -> Wnd.there m.r.a m.l.length = true) (hN : N <= 700000000) (p : Pt) (hk : p.k = 1) (hb : p.b < 256) :
  Calls Tryz.prog 16 #[.pointer (some ⟨d, 0, none⟩), .agg #[v, .int .u64 e.size], .agg #[.int .i64 p.k, .int .i64 p.d, .int .i64 p.n, .int .u8 p.b]] w (DocTo w O cd ce d B (N + 100) { m with l := m.l ++ [UInt8.ofNat p.b], st := (St.nxt (m.st : Int) 1).toNat } ((⟨e, Q⟩ : Es).lit m p.b)) := by
 obtain ⟨f, hH⟩ := Held2.start h he hne p
 have HH := hid hH
 have hh := here_lt m hp
 have HT : Hid ((⟨e, Q⟩ : Es).e.turns <= 500000) := hid ht
 have HE : Hid ((⟨e, Q⟩ : Es).lit m p.b = ((⟨e, Q⟩ : Es).one 1 m.st m.here 0).byte m.lc m.lp m.st m.l m.r.a p.b) := hid rfl
 rw [HE.out]
 clear HE
 have HK := hid hk
 clear h he hH ht hk
 generalize hs0 : (⟨e, Q⟩ : Es) = s0 at *
 clear hs0
 obtain ⟨Pl, hPl⟩ : ∃ Pl, Pl = m.here := ⟨_, rfl⟩
 rw [<- hPl] at hh ⊢
 have HPL : Hid (m.here = Pl) := hid hPl.symm
 clear hPl
 go_enter Tryz.func16, Tryz.ntmps16
 go_upto_region 1 with (fail)
 generalize ((w.alloc (.cells #[v, .int .u64 e.size] 46)).alloc (.cells #[.int .i64 p.k, .int .i64 p.d, .int .i64 p.n, .int .u8 p.b] 48)).alloc (.cells #[.slice none 0 0, .int .u64 0] 46) = W1 at *
 generalize Step.paint O w f = O1 at *
 generalize w.heap.size = X at *
 have c4 := (ten HH.out.one.doc.blk.1).2.2.2.2.1
 obtain ⟨b0, b1, b2, b3⟩ := HH.out.pcells
 have hk := HK.out
 obtain ⟨g, cap, rfl⟩ := HH.out.one.enc.form
 have HT2 : Hid ((s0.one 1 m.st Pl 0).e.turns <= 500003) := hid (by have := s0.one_turns 1 m.st Pl 0; have := HT.out; omega)
 obtain ⟨s1, hse1⟩ : ∃ s', s' = (s0.one 1 m.st Pl 0) := ⟨_, rfl⟩
 rw [<- hse1] at HT2
 have HSE1 := hid hse1
 clear hse1
 obtain ⟨c0, c1, f0, f1⟩ := HH.out.one.cells
 go_upto_region 3 with (fail)
 go_cut [] from 20 to 26 (fun wc => ∃ v2 O2, Held2 w O f cd ce d B (N + 1) X (X + 1) (X + 1 + 1) m s1 p wc O2 v2)
 case first =>
  as_aux_lemma =>
  clear hk
  obtain ⟨c0, c1, f0, f1⟩ := HH.out.one.cells
  have c4 := (ten HH.out.one.doc.blk.1).2.2.2.2.1
  have HND : Hid (∀ k, Held2 w O f cd ce d B (N) X (X + 1) (X + 1 + 1) m s0 p (W1.drewN k) O1 (.slice (some ⟨g, 0, none⟩) (s0.e.turns + 4) cap)) := hid (fun k => HH.out.idle ((Step.refl [] W1 O1).drewN k))
  have HB : Hid (∀ k, Calls Tryz.prog 35 #[.pointer (some ⟨d, 0, none⟩), .agg #[.slice (some ⟨g, 0, none⟩) (s0.e.turns + 4) cap, .int .u64 s0.e.size], .agg #[.int .i64 1, .int .i64 m.st, .int .i64 Pl, .int .i64 0], .int .i64 0] (W1.drewN k) (DocTo (W1.drewN k) O1 cd ce d B (N + 1) m s1)) := hid (fun k => by rw [HSE1.out]; exact (show Calls Tryz.prog 35 #[.pointer (some ⟨d, 0, none⟩), .agg #[.slice (some ⟨g, 0, none⟩) (s0.e.turns + 4) cap, .int .u64 s0.e.size], .agg #[.int .i64 1, .int .i64 m.st, .int .i64 Pl, .int .i64 0], .int .i64 0] (W1.drewN k) (DocTo (W1.drewN k) O1 cd ce d B (N + 1) m (s0.one 1 m.st Pl 0)) from dbit_any (HND.out k).one.doc (HND.out k).one.enc (HND.out k).one.n3 (by have := HT.out; omega) (a := 1) (b := m.st) (c := Pl) (x := 0) (by omega) (by omega) (by omega) (by omega) (by omega)))
  have HPC : Hid (∀ W, (∃ k, W = W1.drewN k) -> Calls Tryz.prog 36 #[.pointer (some ⟨d, 0, none⟩)] W fun x w' => x = .returned (.int .i64 Pl) /\ ∃ k, w' = W1.drewN k) := hid (fun W hW => by
   obtain ⟨k, rfl⟩ := hW
   have := dplace_any (HND.out k).one.doc hp hl
   rw [HPL.out] at this
   refine this.mono ?_
   rintro x w' ⟨rfl, k', rfl⟩
   exact ⟨rfl, k + k', by simp [World.drewN, Nat.add_assoc]⟩)
  refine Tail.region_head (fun W => (W.cell? ⟨X, 0, none⟩ = some (.slice (some ⟨g, 0, none⟩) (s0.e.turns + 4) cap) /\ W.cell? ⟨X, 1, none⟩ = some (.int .u64 s0.e.size)) /\ W.cell? ⟨d, 4, none⟩ = some (.int .i64 m.st)) 6 2 #[true, true, true, true, true, true, false, false] (by kernel_rfl) ⟨by kernel_rfl, by decide, by kernel_rfl, by kernel_rfl, by kernel_rfl⟩ (by kernel_rfl) ⟨⟨c0, c1⟩, c4⟩ (fun ok hHeld => ?_)
  refine Tail.Lst.mk [0, 1, 2, 3] ?_
  iterate 4 (refine Tail.Lst.takeT ok rfl (v := ?_) (Or.inl ⟨by rfl, ?_⟩) ?_; rotate_left; (next => intro w hSw; (try dsimp only at hSw); go_simp; (try with_reducible rfl)); simp only [Act.put, List.getElem_toArray, List.getElem_cons_succ, List.getElem_cons_zero, List.setIfInBounds_toArray, List.set])
  refine Tail.Lst.nil ?_
  refine Tail.head_ready (rs := [4]) (by kernel_rfl) (by simp) (by kernel_rfl) ?_
  refine Tail.AllHead.cons rfl (fun K hK => ?_) Tail.AllHead.nil
  go_simp
  refine (HPC.out _ ⟨1, rfl⟩).mono ?_
  rintro z wl ⟨rfl, kk, rfl⟩
  refine hK.out _ _ ⟨⟨(HND.out kk).one.cells.1, (HND.out kk).one.cells.2.1⟩, (ten (HND.out kk).one.doc.blk.1).2.2.2.2.1⟩ (fun hHeld => ?_)
  clear hK K
  try simp only [Act.put, List.setIfInBounds_toArray, List.set]
  refine Tail.tk ok (i := 5) (v := Value.agg #[.int .i64 1, .int .i64 m.st, .int .i64 Pl, .int .i64 0]) rfl (by kernel_rfl) (fun _ _ _ h => h) (Or.inl ⟨by rfl, ?ht1_5⟩) hHeld ?rt1_5
  case ht1_5 => (intro w hSw; go_simp; (try with_reducible rfl))
  try simp only [Act.put, List.setIfInBounds_toArray, List.set]
  refine Tail.head_done rfl ?_
  refine wpAny_ready (rs := [6]) (by kernel_rfl) (by simp) ?_
  refine AllReady.cons rfl (fun K hK => ?_) AllReady.nil
  go_simp
  refine (HB.out kk).mono ?_
  rintro z w8 ⟨v8, O8, rfl, hs8, hd8, he8⟩
  obtain ⟨g8, cap8, rfl⟩ := he8.form
  obtain ⟨x0, x1, b0, b1⟩ := (HND.out kk).one.cells2 hs8
  refine hK _ _ ?_
  clear hK K
  try simp only [Act.put, List.setIfInBounds_toArray, List.set]
  refine wpAny_ready (rs := [7]) (by kernel_rfl) (by simp) ?_
  refine AllReady.cons rfl (fun K hK => ?_) AllReady.nil
  go_simp
  refine hK _ _ ?_
  clear hK K
  try simp only [Act.put, List.setIfInBounds_toArray, List.set]
  refine wpAny_done (by kernel_rfl) ?_ _
  have HN := hid ((HND.out kk).next hs8 hd8 he8)
  clear hs8 hd8 he8 x0 x1 b0 b1 c0 c1 f0 f1 c4 HB HND
  go_wp2_with fail
  go_meet
  exact ⟨_, _, HN.out⟩
 case rest =>
  clear c0 c1 f0 f1 HT HH
  obtain ⟨v2, O2, hH⟩ := hcut
  have HH := hid hH
  have HT := HT2
  clear hH HT2
  obtain ⟨W2, hWe⟩ : ∃ W', W' = wc := ⟨_, rfl⟩
  rw [<- hWe] at HH ⊢
  clear hWe
  obtain ⟨g, cap, rfl⟩ := HH.out.one.enc.form
  have HT2 : Hid ((s1.byte m.lc m.lp m.st m.l m.r.a p.b).e.turns <= 500027) := hid (by have := s1.byte_turns m.lc m.lp m.st m.l m.r.a p.b; have := HT.out; omega)
  obtain ⟨s2, hse2⟩ : ∃ s', s' = (s1.byte m.lc m.lp m.st m.l m.r.a p.b) := ⟨_, rfl⟩
  rw [<- hse2] at HT2
  have HSE2 := hid hse2
  clear hse2
  obtain ⟨c0, c1, f0, f1⟩ := HH.out.one.cells
  obtain ⟨b0, b1, b2, b3⟩ := HH.out.pcells
  have HB : Hid (Calls Tryz.prog 37 #[.pointer (some ⟨d, 0, none⟩), .agg #[.slice (some ⟨g, 0, none⟩) (s1.e.turns + 4) cap, .int .u64 s1.e.size], .int .i64 p.b] W2 (DocTo W2 O2 cd ce d B (N + 1 + 8) m s2)) := hid (by rw [HSE2.out]; exact (show Calls Tryz.prog 37 #[.pointer (some ⟨d, 0, none⟩), .agg #[.slice (some ⟨g, 0, none⟩) (s1.e.turns + 4) cap, .int .u64 s1.e.size], .int .i64 p.b] W2 (DocTo W2 O2 cd ce d B (N + 1 + 8) m (s1.byte m.lc m.lp m.st m.l m.r.a p.b)) from dbyte_any HH.out.one.doc HH.out.one.enc HH.out.one.n3 (by have := HT.out; omega) hm hl hr p.b (by omega) (by omega)))
  go_wp2_with fail
  refine HB.out.mono ?_
  rintro z w5 ⟨v5, O5, rfl, hs5, hd5, he5⟩
  obtain ⟨g5, cap5, rfl⟩ := he5.form
  have HN5 := hid (HH.out.next hs5 hd5 he5)
  clear c0 c1 f0 f1
  obtain ⟨c0, c1, f0, f1⟩ := HH.out.one.cells2 hs5
  clear hs5 hd5 he5 HB HT HH
  clear b0 b1 b2 b3
  go_upto_region 5 with (fail)
  generalize (w5.setCell ⟨X, 0, none⟩ (.slice (some ⟨g5, 0, none⟩) (s2.e.turns + 4) cap5)).setCell ⟨X, 1, none⟩ (.int .u64 s2.e.size) = W3 at *
  clear c0 c1 f0 f1
  have HH := HN5
  have HT := HT2
  clear HN5 HT2
  obtain ⟨v2, hv2⟩ : ∃ v2 : Value, v2 = (.slice (some ⟨g5, 0, none⟩) (s2.e.turns + 4) cap5) := ⟨_, rfl⟩
  rw [<- hv2] at HH
  clear hv2
  obtain ⟨O2, hO2⟩ : ∃ O2, O2 = O5 := ⟨_, rfl⟩
  rw [<- hO2] at HH
  clear hO2
  obtain ⟨c0, c1, c2, c3, c4, c5, c6, c7, c8, c9⟩ := ten HH.out.one.doc.blk.1
  obtain ⟨q0, q1, q2, q3⟩ := HH.out.pcells
  obtain ⟨tx, htx⟩ : ∃ tx : ByteArray, tx = ⟨m.l.toArray⟩ := ⟨_, rfl⟩
  rw [<- htx] at c9
  have HTX := hid htx
  have htz : tx.size <= 9223372036854775806 := by
   rw [htx]
   exact Nat.le_trans hl (by omega)
  clear htx c0 c1 c2 c3 c5 c6 c7 c8 q0 q1 q2
  refine Tail.region_head (fun W => W.cell? ⟨d, 9, none⟩ = some (.string tx) /\ W.cell? ⟨X + 1, 3, none⟩ = some (.int .u8 p.b)) 9 3 #[true, true, true, true, true, true, true, true, true, false, false, false] (by kernel_rfl) ⟨by kernel_rfl, by decide, by kernel_rfl, by kernel_rfl, by kernel_rfl⟩ (by kernel_rfl) ⟨c9, q3⟩ (fun ok hHeld => ?_)
  refine Tail.Lst.mk [0, 1, 2, 3, 4, 5] ?_
  iterate 6 (refine Tail.Lst.takeT ok rfl (v := ?_) (Or.inl ⟨by rfl, ?_⟩) ?_; rotate_left; (next => intro w hSw; (try dsimp only at hSw); go_simp; (try with_reducible rfl)); simp only [Act.put, List.getElem_toArray, List.getElem_cons_succ, List.getElem_cons_zero, List.setIfInBounds_toArray, List.set])
  refine Tail.Lst.nil ?_
  refine Tail.head_ready (rs := [6]) (by kernel_rfl) (by simp) (by kernel_rfl) ?_
  refine Tail.AllHead.cons rfl (fun K hK => ?_) Tail.AllHead.nil
  go_simp
  have HI := hid (HH.out.idle (Step.of_below_same (((Below.refl W3.heap.size W3).alloc (Nat.le_refl _) (.cells #[.int .u8 p.b] 5)).drew) O2))
  have hcw : ((W3.alloc (.cells #[.int .u8 p.b] 5)).drew).cell? ⟨W3.heap.size, 0, none⟩ = some (.int .u8 p.b) := by
   have := heap_alloc_new W3 (.cells #[.int .u8 p.b] 5)
   show (W3.alloc (.cells #[.int .u8 p.b] 5)).cell? _ = _
   unfold World.cell?
   rw [this]
   rfl
  have hcv := one_byte hb hcw
  have k9 := (ten HI.out.one.doc.blk.1).2.2.2.2.2.2.2.2.2
  rw [<- HTX.out] at k9
  have k3 := HI.out.pcells.2.2.2
  have fz := HI.out.one.doc.blk.free 9
  generalize (W3.alloc (.cells #[.int .u8 p.b] 5)).drew = W9 at *
  generalize W3.heap.size = K9 at *
  refine hK.out _ _ ⟨k9, k3⟩ (fun hHeld => ?_)
  clear hK K hcw
  try simp only [Act.put, List.setIfInBounds_toArray, List.set]
  refine Tail.head_ready (rs := [7]) (by kernel_rfl) (by simp) (by kernel_rfl) ?_
  refine Tail.AllHead.cons rfl (fun K hK => ?_) Tail.AllHead.nil
  go_simp
  refine hK.out _ _ ⟨k9, k3⟩ (fun hHeld => ?_)
  clear hK K hcv
  try simp only [Act.put, List.setIfInBounds_toArray, List.set]
  refine Tail.tk ok (i := 8) (v := Value.string (tx ++ ⟨#[UInt8.ofNat p.b]⟩)) rfl (by kernel_rfl) (fun _ _ _ h => h) (Or.inl ⟨by rfl, ?hx7⟩) hHeld ?rx7
  case hx7 => (intro w hSw; go_simp; (try with_reducible rfl))
  try simp only [Act.put, List.setIfInBounds_toArray, List.set]
  refine Tail.head_done rfl ?_
  refine wpAny_ready (rs := [9]) (by kernel_rfl) (by simp) ?_
  refine AllReady.cons rfl (fun K hK => ?_) AllReady.nil
  go_simp
  refine hK _ _ ?_
  clear hK K
  try simp only [Act.put, List.setIfInBounds_toArray, List.set]
  refine wpAny_ready (rs := [10]) (by kernel_rfl) (by simp) ?_
  refine AllReady.cons rfl (fun K hK => ?_) AllReady.nil
  go_simp
  refine hK _ _ ?_
  clear hK K
  try simp only [Act.put, List.setIfInBounds_toArray, List.set]
  refine wpAny_ready (rs := [11]) (by kernel_rfl) (by simp) ?_
  refine AllReady.cons rfl (fun K hK => ?_) AllReady.nil
  go_simp
  refine hK _ _ ?_
  clear hK K
  try simp only [Act.put, List.setIfInBounds_toArray, List.set]
  refine wpAny_done (by kernel_rfl) ?_ _
  have HN := hid (HI.out.setText (m.l ++ [UInt8.ofNat p.b]))
  rw [<- text_one, <- HTX.out] at HN
  clear k9 k3 fz c4 c9 q3
  generalize W9.setCell ⟨d, 9, none⟩ (.string (tx ++ ⟨#[UInt8.ofNat p.b]⟩)) = W10 at *
  clear htz HI hHeld
  obtain ⟨n0, n1⟩ := St.nxt_in (s := (m.st : Int)) (k := 1) (by omega) (by omega)
  have HNX := hid (St.ref_any (m.st : Int) 1 (by omega) (by omega))
  have HNV : Hid (St.nxt (m.st : Int) 1 = ((St.nxt (m.st : Int) 1).toNat : Int)) := hid (by omega)
  rw [HNV.out] at HNX
  clear n0 n1
  generalize (St.nxt (m.st : Int) 1).toNat = ns at *
  have fz := HN.out.one.doc.blk.free 4
  have c4 := (ten HN.out.one.doc.blk.1).2.2.2.2.1
  go_wp2_with fail
  refine (HNX.out _).mono ?_
  rintro z w9 ⟨rfl, rfl⟩
  go_upto_region 7 with (fail)
  have HM := hid (HN.out.setSt ns)
  generalize W10.setCell ⟨d, 4, none⟩ (.int .i64 ns) = W11 at *
  clear HN fz c4 HNX HNV
  obtain ⟨gz, capz, rfl⟩ := HM.out.one.enc.form
  obtain ⟨c0, c1, f0, f1⟩ := HM.out.one.cells
  obtain ⟨z0, z1, y0, y1⟩ := HM.out.one.cellsZ
  go_wp2_with fail
  obtain ⟨W, hW, r0, r1, hr⟩ := HM.out.one.done
  rw [hW]
  have HR := hid hr
  clear hW c0 c1 f0 f1 z0 z1 y0 y1 hr HM
  refine bodyPost_ret (v := .agg #[.slice (some ⟨gz, 0, none⟩) (s2.e.turns + 4) capz, .int .u64 s2.e.size]) ?_ rfl (by rw [HSE2.out, HSE1.out] at HR ⊢; exact HR.out.mono (by omega))
  simp [results, Tryz.results16, go_sem, r0, r1]
end
end Go.Proofs.YtfpoabeihpfeiaaGreat.Dc
