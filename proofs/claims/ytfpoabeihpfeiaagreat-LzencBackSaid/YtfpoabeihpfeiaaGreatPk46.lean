/-
  The document's model of layer 10: Put, of any packet that fits.
  The document's model of layer 10: the end of all.
  The document's model of layer 10: New.
  Layer 10's statement ModelPuts: the developers' model and the document's, what they hold together.
-/
import Derived.Test.YtfpoabeihpfeiaaGreatPk32
import Derived.Test.YtfpoabeihpfeiaaGreatPk41
import Derived.Test.YtfpoabeihpfeiaaGreatPk43
import Derived.Test.YtfpoabeihpfeiaaGreatPk44
import Derived.Test.YtfpoabeihpfeiaaGreatPk45
import Derived.Deep.RegionHeld3
set_option maxRecDepth 100000
set_option maxHeartbeats 16000000
set_option linter.unusedVariables false
set_option linter.unusedSimpArgs false
open Go.Lib (hid)
section
namespace Go.Proofs.YtfpoabeihpfeiaaGreat.Dc
open Go.RowKit Go.Maps
open Rc Mo
open Pk (Rp Pt)
theorem front_first {r : Rp} {i : Int} (h : 0 <= i /\ i < 4) : (r.front i).a = r.at i := by
 have key : i = 0 \/ i = 1 \/ i = 2 \/ i = 3 := by omega
 rcases key with rfl | rfl | rfl | rfl <;> rfl
theorem fit_first {p : Pt} {hv d n : Int} {r s : Rp} (h : p.fit hv r = some (d, n, s)) (hk : p.k ≠ 1) : s.a = d := by
 unfold Pt.fit at h
 by_cases hp : p.plain = false
 · rw [if_pos hp] at h; cases h
 · rw [if_neg hp, if_neg hk] at h
   by_cases h2 : p.k = 2
   · rw [if_pos h2] at h
     split at h
     · simp only [Option.some.injEq, Prod.mk.injEq] at h
       obtain ⟨rfl, _, rfl⟩ := h
       rfl
     · cases h
   · rw [if_neg h2] at h
     by_cases h3 : p.k = 3
     · rw [if_pos h3] at h
       split at h
       · rename_i hc
         simp only [Option.some.injEq, Prod.mk.injEq] at h
         obtain ⟨rfl, _, rfl⟩ := h
         exact front_first hc.1
       · cases h
     · rw [if_neg h3] at h
       split at h
       · simp only [Option.some.injEq, Prod.mk.injEq] at h
         obtain ⟨rfl, _, rfl⟩ := h
         rfl
       · cases h
theorem fit_lit {p : Pt} {hv : Int} {r : Rp} {y : Int × Int × Rp} (h : p.fit hv r = some y) (hk : p.k = 1) : y = (0, 1, r) := by
 unfold Pt.fit at h
 by_cases hp : p.plain = false
 · rw [if_pos hp] at h; cases h
 · rw [if_neg hp, if_pos hk] at h
   simpa using h.symm
theorem fit_match {p : Pt} {hv : Int} {r : Rp} {y : Int × Int × Rp} (h : p.fit hv r = some y) (hk : p.k = 2) : 1 <= p.d /\ p.d <= hv := by
 unfold Pt.fit at h
 by_cases hp : p.plain = false
 · rw [if_pos hp] at h; cases h
 · rw [if_neg hp, if_neg (by omega), if_pos hk] at h
   split at h
   · rename_i hc; exact ⟨hc.1, by have := hc.2.1; omega⟩
   · cases h
section
variable {w : World} {O : Paint} {d B N cd ce : Nat} {m : Ms} {Q : Qs} {v : Value} {e : Enc}
theorem dput_any (h : DocAt w O cd d B N m Q) (he : EncV w O ce v e) (hne : cd ≠ ce) (ht : e.turns <= 500000) (hm : m.lc + m.lp <= 4) (hp : m.pb <= 4) (hl : m.l.length <= 1000000000) (hst : m.st < 12) (hr : ¬ m.st < 7 -> Wnd.there m.r.a m.l.length = true) (hN : N <= 700000000) (hrp : m.r.pos) (p : Pt) (hb : p.b < 256) (y : Int × Int × Rp) (hy : p.fit (m.l.length : Int) m.r = some y) (q : Pk1) (hq : q.Ok) (hqp : q.pt = p) :
  Calls Tryz.prog 16 #[.pointer (some ⟨d, 0, none⟩), .agg #[v, .int .u64 e.size], .agg #[.int .i64 p.k, .int .i64 p.d, .int .i64 p.n, .int .u8 p.b]] w (DocTo w O cd ce d B (N + 100) (m.tell p y) ((⟨e, Q⟩ : Es).code m q)) := by
 by_cases hk : p.k = 1
 · obtain rfl := fit_lit hy hk
   cases q with
   | lit b =>
    obtain rfl : p.b = b := by rw [<- hqp]; rfl
    have e1 : m.tell p (0, 1, m.r) = { m with l := m.l ++ [UInt8.ofNat p.b], st := (St.nxt (m.st : Int) 1).toNat } := by
     unfold Ms.tell
     rw [if_pos hk, hk]
    have e2 : (⟨e, Q⟩ : Es).code m (.lit p.b) = (⟨e, Q⟩ : Es).lit m p.b := rfl
    rw [e1, e2]
    exact dput_lit h he hne ht hm hp hl hst hr hN p hk hb
   | mat n v => rw [<- hqp] at hk; exact absurd (show (2 : Int) = 1 from hk) (by decide)
   | sho => rw [<- hqp] at hk; exact absurd (show (4 : Int) = 1 from hk) (by decide)
   | rep i n => rw [<- hqp] at hk; exact absurd (show (3 : Int) = 1 from hk) (by decide)
 · obtain ⟨dd, nn, r'⟩ := y
   obtain ⟨_, hf⟩ := Pk.fit_some hy hrp
   obtain ⟨_, h1, h2, h3, h4⟩ := hf.resolve_left (fun h => hk h.1)
   obtain ⟨dn, rfl⟩ := Int.eq_ofNat_of_zero_le (show 0 <= dd by omega)
   obtain ⟨n1, rfl⟩ := Int.eq_ofNat_of_zero_le (show 0 <= nn by omega)
   have ht1 : m.tell p ((dn : Int), (n1 : Int), r') = { m with l := Wnd.copied m.l dn n1, st := (St.nxt (m.st : Int) p.k).toNat, r := r' } := by
    unfold Ms.tell
    rw [if_neg hk]
    rfl
   rw [ht1]
   clear ht1
   cases q with
   | lit b => rw [<- hqp] at hk; exact absurd rfl hk
   | mat n v =>
    have e1 : p.k = 2 := by rw [<- hqp]; rfl
    have e2 : p.d = (((v + 1) % 4294967296 : Nat) : Int) := by rw [<- hqp]; rfl
    have e3 : p.n = (n : Int) + 2 := by rw [<- hqp]; rfl
    obtain ⟨q1, q2⟩ := hq
    have hd1 := fit_match hy e1
    rw [show (⟨e, Q⟩ : Es).code m (.mat n v) = (⟨e, Q⟩ : Es).mat m n v from rfl]
    exact dput_copy h he hne ht hp hl hst hN p _ (.inl ⟨n, v, e1, by omega, e3, q1, by omega, rfl⟩) dn n1 r' hy (by omega) (by omega) (by omega)
   | sho =>
    have e1 : p.k = 4 := by rw [<- hqp]; rfl
    rw [show (⟨e, Q⟩ : Es).code m .sho = (⟨e, Q⟩ : Es).sho m from rfl]
    exact dput_copy h he hne ht hp hl hst hN p _ (.inr (.inl ⟨e1, rfl⟩)) dn n1 r' hy (by omega) (by omega) (by omega)
   | rep i n =>
    have e1 : p.k = 3 := by rw [<- hqp]; rfl
    have e2 : p.d = (i : Int) := by rw [<- hqp]; rfl
    have e3 : p.n = (n : Int) + 2 := by rw [<- hqp]; rfl
    obtain ⟨q1, q2⟩ := hq
    clear hqp
    match i, e2, q1 with
    | 0, e2, _ =>
     rw [show (⟨e, Q⟩ : Es).code m (.rep 0 n) = (⟨e, Q⟩ : Es).rp0 m n from rfl]
     exact dput_copy h he hne ht hp hl hst hN p _ (.inr (.inr (.inl ⟨n, e1, by simpa using e2, e3, q2, rfl⟩))) dn n1 r' hy (by omega) (by omega) (by omega)
    | 1, e2, _ =>
     rw [show (⟨e, Q⟩ : Es).code m (.rep 1 n) = (⟨e, Q⟩ : Es).rpi m 1 n from rfl]
     exact dput_copy h he hne ht hp hl hst hN p _ (.inr (.inr (.inr (.inl ⟨n, e1, by simpa using e2, e3, q2, rfl⟩)))) dn n1 r' hy (by omega) (by omega) (by omega)
    | x + 2, e2, q1 =>
     rw [show (⟨e, Q⟩ : Es).code m (.rep (x + 2) n) = (⟨e, Q⟩ : Es).rpi m (x + 2) n from rfl]
     exact dput_copy h he hne ht hp hl hst hN p _ (.inr (.inr (.inr (.inr ⟨n, x, e1, by rw [e2]; omega, e3, q2, by omega, by unfold Es.rpi Es.rep; rw [if_neg (by omega), if_neg (by omega)]; rfl⟩)))) dn n1 r' hy (by omega) (by omega) (by omega)
end
end Go.Proofs.YtfpoabeihpfeiaaGreat.Dc
end
section
namespace Go.Proofs.YtfpoabeihpfeiaaGreat.Dc
open Go.RowKit Go.Maps
open Rc Mo
open Pk (Rp Pt)
section
variable {w : World} {O : Paint} {d B N cd ce : Nat} {m : Ms} {Q : Qs} {v : Value} {e : Enc}
theorem dend_any (h : DocAt w O cd d B N m Q) (he : EncV w O ce v e) (hne : cd ≠ ce) (ht : e.turns <= 500000) (hp : m.pb <= 4) (hl : m.l.length <= 1000000000) (hst : m.st < 12) (hN : N <= 700000000) :
  Calls Tryz.prog 17 #[.pointer (some ⟨d, 0, none⟩), .agg #[v, .int .u64 e.size]] w (DocTo w O cd ce d B (N + 52) m ((⟨e, Q⟩ : Es).mat m 0 4294967295)) := by
 obtain ⟨f, hH⟩ := Held1.start h he hne
 have HH := hid hH
 have hh := here_lt m hp
 have HT : Hid ((⟨e, Q⟩ : Es).e.turns <= 500000) := hid ht
 have HE : Hid ((⟨e, Q⟩ : Es).mat m 0 4294967295 = ((((⟨e, Q⟩ : Es).one 1 m.st m.here 1).one 2 m.st 0 0).len 0 m.here 0).dist (cls 0) 4294967295) := hid rfl
 rw [HE.out]
 clear h he hH HE ht
 generalize hs0 : (⟨e, Q⟩ : Es) = s0 at *
 clear hs0
 obtain ⟨Pl, hPl⟩ : ∃ Pl, Pl = m.here := ⟨_, rfl⟩
 rw [<- hPl] at hh ⊢
 have HPL : Hid (m.here = Pl) := hid hPl.symm
 clear hPl
 go_enter Tryz.func17, Tryz.ntmps17
 go_upto_region 1 with (fail)
 generalize (w.alloc (.cells #[v, .int .u64 e.size] 46)).alloc (.cells #[.slice none 0 0, .int .u64 0] 46) = W1 at *
 generalize Step.paint O w f = O1 at *
 generalize w.heap.size = X at *
 obtain ⟨g, cap, rfl⟩ := HH.out.enc.form
 have HT2 : Hid ((s0.one 1 m.st Pl 1).e.turns <= 500003) := hid (by have := s0.one_turns 1 m.st Pl 1; have := HT.out; omega)
 obtain ⟨s1, hse1⟩ : ∃ s', s' = (s0.one 1 m.st Pl 1) := ⟨_, rfl⟩
 rw [<- hse1] at HT2
 have HSE1 := hid hse1
 clear hse1
 obtain ⟨c0, c1, f0, f1⟩ := HH.out.cells
 go_upto_region 1 with (fail)
 go_cut [] from 5 to 14 (fun wc => ∃ v2 O2, Held1 w O f cd ce d B (N + 1) X (X + 1) m s1 wc O2 v2)
 case first =>
  as_aux_lemma =>
  obtain ⟨c0, c1, f0, f1⟩ := HH.out.cells
  have c4 := (ten HH.out.doc.blk.1).2.2.2.2.1
  have HND : Hid (∀ k, Held1 w O f cd ce d B (N) X (X + 1) m s0 (W1.drewN k) O1 (.slice (some ⟨g, 0, none⟩) (s0.e.turns + 4) cap)) := hid (fun k => HH.out.idle ((Step.refl [] W1 O1).drewN k))
  have HB : Hid (∀ k, Calls Tryz.prog 35 #[.pointer (some ⟨d, 0, none⟩), .agg #[.slice (some ⟨g, 0, none⟩) (s0.e.turns + 4) cap, .int .u64 s0.e.size], .agg #[.int .i64 1, .int .i64 m.st, .int .i64 Pl, .int .i64 0], .int .i64 1] (W1.drewN k) (DocTo (W1.drewN k) O1 cd ce d B (N + 1) m s1)) := hid (fun k => by rw [HSE1.out]; exact (show Calls Tryz.prog 35 #[.pointer (some ⟨d, 0, none⟩), .agg #[.slice (some ⟨g, 0, none⟩) (s0.e.turns + 4) cap, .int .u64 s0.e.size], .agg #[.int .i64 1, .int .i64 m.st, .int .i64 Pl, .int .i64 0], .int .i64 1] (W1.drewN k) (DocTo (W1.drewN k) O1 cd ce d B (N + 1) m (s0.one 1 m.st Pl 1)) from dbit_any (HND.out k).doc (HND.out k).enc (HND.out k).n3 (by have := HT.out; omega) (a := 1) (b := m.st) (c := Pl) (x := 1) (by omega) (by omega) (by omega) (by omega) (by omega)))
  have HPC : Hid (∀ W, (∃ k, W = W1.drewN k) -> Calls Tryz.prog 36 #[.pointer (some ⟨d, 0, none⟩)] W fun x w' => x = .returned (.int .i64 Pl) /\ ∃ k, w' = W1.drewN k) := hid (fun W hW => by
   obtain ⟨k, rfl⟩ := hW
   have := dplace_any (HND.out k).doc hp hl
   rw [HPL.out] at this
   refine this.mono ?_
   rintro x w' ⟨rfl, k', rfl⟩
   exact ⟨rfl, k + k', by simp [World.drewN, Nat.add_assoc]⟩)
  refine Tail.region_head (fun W => (W.cell? ⟨X, 0, none⟩ = some (.slice (some ⟨g, 0, none⟩) (s0.e.turns + 4) cap) /\ W.cell? ⟨X, 1, none⟩ = some (.int .u64 s0.e.size)) /\ W.cell? ⟨d, 4, none⟩ = some (.int .i64 m.st)) 9 2 #[true, true, true, true, true, true, true, true, true, false, false] (by kernel_rfl) ⟨by kernel_rfl, by decide, by kernel_rfl, by kernel_rfl, by kernel_rfl⟩ (by kernel_rfl) ⟨⟨c0, c1⟩, c4⟩ (fun ok hHeld => ?_)
  refine Tail.Lst.mk [0, 1, 2, 3, 4, 5, 6] ?_
  iterate 7 (refine Tail.Lst.takeT ok rfl (v := ?_) (Or.inl ⟨by rfl, ?_⟩) ?_; rotate_left; (next => intro w hSw; (try dsimp only at hSw); go_simp; (try with_reducible rfl)); simp only [Act.put, List.getElem_toArray, List.getElem_cons_succ, List.getElem_cons_zero, List.setIfInBounds_toArray, List.set])
  refine Tail.Lst.nil ?_
  refine Tail.head_ready (rs := [7]) (by kernel_rfl) (by simp) (by kernel_rfl) ?_
  refine Tail.AllHead.cons rfl (fun K hK => ?_) Tail.AllHead.nil
  go_simp
  refine (HPC.out _ ⟨1, rfl⟩).mono ?_
  rintro z wl ⟨rfl, kk, rfl⟩
  refine hK.out _ _ ⟨⟨(HND.out kk).cells.1, (HND.out kk).cells.2.1⟩, (ten (HND.out kk).doc.blk.1).2.2.2.2.1⟩ (fun hHeld => ?_)
  clear hK K
  try simp only [Act.put, List.setIfInBounds_toArray, List.set]
  refine Tail.tk ok (i := 8) (v := Value.agg #[.int .i64 1, .int .i64 m.st, .int .i64 Pl, .int .i64 0]) rfl (by kernel_rfl) (fun _ _ _ h => h) (Or.inl ⟨by rfl, ?ht1_8⟩) hHeld ?rt1_8
  case ht1_8 => (intro w hSw; go_simp; (try with_reducible rfl))
  try simp only [Act.put, List.setIfInBounds_toArray, List.set]
  refine Tail.head_done rfl ?_
  refine wpAny_ready (rs := [9]) (by kernel_rfl) (by simp) ?_
  refine AllReady.cons rfl (fun K hK => ?_) AllReady.nil
  go_simp
  refine (HB.out kk).mono ?_
  rintro z w8 ⟨v8, O8, rfl, hs8, hd8, he8⟩
  obtain ⟨g8, cap8, rfl⟩ := he8.form
  obtain ⟨x0, x1, b0, b1⟩ := (HND.out kk).cells2 hs8
  refine hK _ _ ?_
  clear hK K
  try simp only [Act.put, List.setIfInBounds_toArray, List.set]
  refine wpAny_ready (rs := [10]) (by kernel_rfl) (by simp) ?_
  refine AllReady.cons rfl (fun K hK => ?_) AllReady.nil
  go_simp
  refine hK _ _ ?_
  clear hK K
  try simp only [Act.put, List.setIfInBounds_toArray, List.set]
  refine wpAny_done (by kernel_rfl) ?_ _
  have HN := hid ((HND.out kk).next hs8 hd8 he8)
  clear hs8 hd8 he8 x0 x1 b0 b1 c0 c1 f0 f1 c4 HB HND
  go_wp2_with fail
  go_meet
  exact ⟨_, _, HN.out⟩
 case rest =>
  clear c0 c1 f0 f1 HT HH
  obtain ⟨v2, O2, hH⟩ := hcut
  have HH := hid hH
  have HT := HT2
  clear hH HT2
  obtain ⟨W2, hWe⟩ : ∃ W', W' = wc := ⟨_, rfl⟩
  rw [<- hWe] at HH ⊢
  clear hWe
  obtain ⟨g, cap, rfl⟩ := HH.out.enc.form
  have HT2 : Hid ((s1.one 2 m.st 0 0).e.turns <= 500006) := hid (by have := s1.one_turns 2 m.st 0 0; have := HT.out; omega)
  obtain ⟨s2, hse2⟩ : ∃ s', s' = (s1.one 2 m.st 0 0) := ⟨_, rfl⟩
  rw [<- hse2] at HT2
  have HSE2 := hid hse2
  clear hse2
  obtain ⟨c0, c1, f0, f1⟩ := HH.out.cells
  go_upto_region 2 with (fail)
  go_cut [] from 15 to 22 (fun wc => ∃ v2 O2, Held1 w O f cd ce d B (N + 2) X (X + 1) m s2 wc O2 v2)
  case first =>
   as_aux_lemma =>
   obtain ⟨c0, c1, f0, f1⟩ := HH.out.cells
   have c4 := (ten HH.out.doc.blk.1).2.2.2.2.1
   have HND : Hid (∀ k, Held1 w O f cd ce d B (N + 1) X (X + 1) m s1 (W2.drewN k) O2 (.slice (some ⟨g, 0, none⟩) (s1.e.turns + 4) cap)) := hid (fun k => HH.out.idle ((Step.refl [] W2 O2).drewN k))
   have HB : Hid (∀ k, Calls Tryz.prog 35 #[.pointer (some ⟨d, 0, none⟩), .agg #[.slice (some ⟨g, 0, none⟩) (s1.e.turns + 4) cap, .int .u64 s1.e.size], .agg #[.int .i64 2, .int .i64 m.st, .int .i64 0, .int .i64 0], .int .i64 0] (W2.drewN k) (DocTo (W2.drewN k) O2 cd ce d B (N + 1 + 1) m s2)) := hid (fun k => by rw [HSE2.out]; exact (show Calls Tryz.prog 35 #[.pointer (some ⟨d, 0, none⟩), .agg #[.slice (some ⟨g, 0, none⟩) (s1.e.turns + 4) cap, .int .u64 s1.e.size], .agg #[.int .i64 2, .int .i64 m.st, .int .i64 0, .int .i64 0], .int .i64 0] (W2.drewN k) (DocTo (W2.drewN k) O2 cd ce d B (N + 1 + 1) m (s1.one 2 m.st 0 0)) from dbit_any (HND.out k).doc (HND.out k).enc (HND.out k).n3 (by have := HT.out; omega) (a := 2) (b := m.st) (c := 0) (x := 0) (by omega) (by omega) (by omega) (by omega) (by omega)))
   refine Tail.region_head (fun W => (W.cell? ⟨X, 0, none⟩ = some (.slice (some ⟨g, 0, none⟩) (s1.e.turns + 4) cap) /\ W.cell? ⟨X, 1, none⟩ = some (.int .u64 s1.e.size)) /\ W.cell? ⟨d, 4, none⟩ = some (.int .i64 m.st)) 7 2 #[true, true, true, true, true, true, true, false, false] (by kernel_rfl) ⟨by kernel_rfl, by decide, by kernel_rfl, by kernel_rfl, by kernel_rfl⟩ (by kernel_rfl) ⟨⟨c0, c1⟩, c4⟩ (fun ok hHeld => ?_)
   refine Tail.Lst.mk [0, 1, 2, 3, 4, 5, 6] ?_
   iterate 7 (refine Tail.Lst.takeT ok rfl (v := ?_) (Or.inl ⟨by rfl, ?_⟩) ?_; rotate_left; (next => intro w hSw; (try dsimp only at hSw); go_simp; (try with_reducible rfl)); simp only [Act.put, List.getElem_toArray, List.getElem_cons_succ, List.getElem_cons_zero, List.setIfInBounds_toArray, List.set])
   refine Tail.Lst.nil ?_
   refine Tail.head_done rfl ?_
   refine wpAny_ready (rs := [7]) (by kernel_rfl) (by simp) ?_
   refine AllReady.cons rfl (fun K hK => ?_) AllReady.nil
   go_simp
   refine (HB.out 1).mono ?_
   rintro z w8 ⟨v8, O8, rfl, hs8, hd8, he8⟩
   obtain ⟨g8, cap8, rfl⟩ := he8.form
   obtain ⟨x0, x1, b0, b1⟩ := (HND.out 1).cells2 hs8
   refine hK _ _ ?_
   clear hK K
   try simp only [Act.put, List.setIfInBounds_toArray, List.set]
   refine wpAny_ready (rs := [8]) (by kernel_rfl) (by simp) ?_
   refine AllReady.cons rfl (fun K hK => ?_) AllReady.nil
   go_simp
   refine hK _ _ ?_
   clear hK K
   try simp only [Act.put, List.setIfInBounds_toArray, List.set]
   refine wpAny_done (by kernel_rfl) ?_ _
   have HN := hid ((HND.out 1).next hs8 hd8 he8)
   clear hs8 hd8 he8 x0 x1 b0 b1 c0 c1 f0 f1 c4 HB HND
   go_wp2_with fail
   go_meet
   exact ⟨_, _, HN.out⟩
  case rest =>
   clear c0 c1 f0 f1 HT HH
   obtain ⟨v2, O2, hH⟩ := hcut
   have HH := hid hH
   have HT := HT2
   clear hH HT2
   obtain ⟨W3, hWe⟩ : ∃ W', W' = wc := ⟨_, rfl⟩
   rw [<- hWe] at HH ⊢
   clear hWe
   obtain ⟨g, cap, rfl⟩ := HH.out.enc.form
   have HT2 : Hid ((s2.len 0 Pl 0).e.turns <= 500036) := hid (by have := s2.len_turns 0 Pl 0; have := HT.out; omega)
   obtain ⟨s3, hse3⟩ : ∃ s', s' = (s2.len 0 Pl 0) := ⟨_, rfl⟩
   rw [<- hse3] at HT2
   have HSE3 := hid hse3
   clear hse3
   obtain ⟨c0, c1, f0, f1⟩ := HH.out.cells
   have HB : Hid (Calls Tryz.prog 39 #[.pointer (some ⟨d, 0, none⟩), .agg #[.slice (some ⟨g, 0, none⟩) (s2.e.turns + 4) cap, .int .u64 s2.e.size], .int .i64 0, .int .i64 (2)] W3 (DocTo W3 O2 cd ce d B (N + 2 + 10) m s3)) := hid (by rw [HSE3.out]; exact (show Calls Tryz.prog 39 #[.pointer (some ⟨d, 0, none⟩), .agg #[.slice (some ⟨g, 0, none⟩) (s2.e.turns + 4) cap, .int .u64 s2.e.size], .int .i64 0, .int .i64 (2)] W3 (DocTo W3 O2 cd ce d B (N + 2 + 10) m (s2.len 0 Pl 0)) from by
         have := dlen_any HH.out.doc HH.out.enc HH.out.n3 (by have := HT.out; omega) hp hl (u := 0) (n := 0) (by omega) (by omega) (by omega)
         rw [HPL.out] at this
         exact this))
   go_wp2_with fail
   refine HB.out.mono ?_
   rintro z w5 ⟨v5, O5, rfl, hs5, hd5, he5⟩
   obtain ⟨g5, cap5, rfl⟩ := he5.form
   have HN5 := hid (HH.out.next hs5 hd5 he5)
   clear c0 c1 f0 f1
   obtain ⟨c0, c1, f0, f1⟩ := HH.out.cells2 hs5
   clear hs5 hd5 he5 HB HT HH
   go_upto_region 4 with (fail)
   generalize (w5.setCell ⟨X, 0, none⟩ (.slice (some ⟨g5, 0, none⟩) (s3.e.turns + 4) cap5)).setCell ⟨X, 1, none⟩ (.int .u64 s3.e.size) = W4 at *
   clear c0 c1 f0 f1
   have HH := HN5
   have HT := HT2
   clear HN5 HT2
   obtain ⟨v2, hv2⟩ : ∃ v2 : Value, v2 = (.slice (some ⟨g5, 0, none⟩) (s3.e.turns + 4) cap5) := ⟨_, rfl⟩
   rw [<- hv2] at HH
   clear hv2
   obtain ⟨O2, hO2⟩ : ∃ O2, O2 = O5 := ⟨_, rfl⟩
   rw [<- hO2] at HH
   clear hO2
   obtain ⟨g, cap, rfl⟩ := HH.out.enc.form
   have HSS := hid (show s3 = s3 from rfl)
   obtain ⟨c0, c1, f0, f1⟩ := HH.out.cells
   obtain ⟨z0, z1, y0, y1⟩ := HH.out.cellsZ
   have HB : Hid (Calls Tryz.prog 40 #[.pointer (some ⟨d, 0, none⟩), .agg #[.slice (some ⟨g, 0, none⟩) (s3.e.turns + 4) cap, .int .u64 s3.e.size], .int .u64 4294967295, .int .i64 (2)] W4 (DocTo W4 O2 cd ce d B (N + 12 + 40) m (s3.dist (cls 0) 4294967295))) := hid (ddist_any HH.out.doc HH.out.enc HH.out.n3 (by have := HT.out; omega) (n := 0) (x := 4294967295) (by omega) (by omega) (by omega))
   go_wp2_with fail
   refine HB.out.mono ?_
   rintro z w8 ⟨v8, O8, rfl, hs8, hd8, he8⟩
   obtain ⟨g8, cap8, rfl⟩ := he8.form
   obtain ⟨x0, x1, b0, b1⟩ := HH.out.cellsZ2 hs8
   go_wp2_with fail
   obtain ⟨W, hW, r0, r1, hr⟩ := HH.out.ret hs8 hd8 he8
   rw [hW]
   have HR := hid hr
   clear hW hs8 hd8 he8 c0 c1 f0 f1 z0 z1 y0 y1 x0 x1 b0 b1 hr
   refine bodyPost_ret (v := .agg #[.slice (some ⟨g8, 0, none⟩) ((s3.dist (cls 0) 4294967295).e.turns + 4) cap8, .int .u64 ((s3.dist (cls 0) 4294967295).e.size : Int)]) ?_ rfl (by rw [HSE3.out, HSE2.out, HSE1.out] at HR ⊢; exact HR.out)
   simp [results, Tryz.results17, go_sem, r0, r1]
end
end Go.Proofs.YtfpoabeihpfeiaaGreat.Dc
end
section
namespace Go.Proofs.YtfpoabeihpfeiaaGreat.Dc
open Go.RowKit Go.Maps
open Rc Mo
open Pk (Rp Pt)
theorem dnew_any (lc lp pb : Nat) (w : World) (O : Paint) (c : Nat) :
  Calls Tryz.prog 13 #[.int .i64 lc, .int .i64 lp, .int .i64 pb] w fun x w' => ∃ d B O', x = .returned (.pointer (some ⟨d, 0, none⟩)) /\ Step [] w O w' O' /\ DocAt w' O' c d B 0 (mNew lc lp pb) (fun _ _ _ => 1024) := by
 have hmm := run_makeMap (P := Tryz.prog) 53 w
 have hown := World.ownsMap_made w Tryz.prog 50 (plainElem (H := Unit) Tryz.prog 44)
 have HO := hid hown
 clear hown
 go_enter Tryz.func13, Tryz.ntmps13
 go_wp2_with fail
 go_ret
 refine ⟨w.heap.size + 1, w.heap.size, Step.paint O w c, ?_, ?_, ?_⟩
 · first | rfl | simp
 · exact (((Step.refl [] w O).alloc _).alloc _).repaint c
 · have hp : ∀ k, w.heap.size <= k -> Step.paint O w c k = c := fun k hk => Step.paint_new hk
   have hb := heap_alloc_new (w.alloc (.map #[] 0)) (.cells #[.int .i64 lc, .int .i64 lp, .int .i64 pb, .map (some w.heap.size), .int .i64 0, .int .i64 1, .int .i64 1, .int .i64 1, .int .i64 1, .string ⟨#[]⟩] 55)
   rw [World.size_alloc] at hb
   exact ⟨⟨hb, hp _ (by omega)⟩, ⟨_, HO.out.alloc _, tells4_new⟩, hp _ (Nat.le_refl _), fun _ _ _ => by show 31 <= 1024 /\ 1024 <= 2017; omega⟩
end Go.Proofs.YtfpoabeihpfeiaaGreat.Dc
end
section
namespace Go.Proofs.YtfpoabeihpfeiaaGreat.Dc
open Go.RowKit Go.Maps
open Rc Mo
open Pk (Rp Pt)
structure LockP (w0 : World) (i : Mid) (E d B N F : Nat) (x z : Pr) (w : World) (O : Paint) : Prop where
 run : Run w0 w O
 col : i.cw = 1 /\ i.cm = 2
 most : i.most = 3000
 one : Whole w O i x.m x.s.q
 enc : EncAt w O 5 E x.s.e
 doc : DocAt w O 6 d B N z.m z.s.q
 var : ∃ v, EncV w O 7 v z.s.e /\ Blk w O 9 F (.cells #[v, .int .u64 z.s.e.size] 46 (0, 0))
 ok : z.m.lc + z.m.lp <= 4 /\ z.m.pb <= 4 /\ z.m.st < 12 /\ z.m.r.pos /\ z.m.l.length <= 3000
 inv : ¬ z.m.st < 7 -> Wnd.there z.m.r.a z.m.l.length = true
section
variable {cs : List Nat} {w0 w w' : World} {O O' : Paint} {i : Mid} {E d B N N' F : Nat} {x z : Pr}
theorem LockP.step (h : LockP w0 i E d B N F x z w O) (hs : Step cs w O w' O') (h0 : 0 ∉ cs) (h1 : 1 ∉ cs) (h2 : 2 ∉ cs) (h5 : 5 ∉ cs) (h6 : 6 ∉ cs) (h7 : 7 ∉ cs) (h9 : 9 ∉ cs) : LockP w0 i E d B N F x z w' O' := by
 obtain ⟨v, hv, hF⟩ := h.var
 exact ⟨h.run.step hs h0, h.col, h.most, h.one.step hs (by rw [h.col.1]; exact h1) (by rw [h.col.2]; exact h2), h.enc.step hs h5, h.doc.step hs h6, ⟨v, hv.step hs h7, hF.step hs h9⟩, h.ok, h.inv⟩
theorem LockP.idle (h : LockP w0 i E d B N F x z w O) (hs : Step [] w O w' O') : LockP w0 i E d B N F x z w' O' := h.step hs (by simp) (by simp) (by simp) (by simp) (by simp) (by simp) (by simp)
theorem LockP.news (h : LockP w0 i E d B N F x z w O) (hb : Below w.heap.size w w') : LockP w0 i E d B N F x z w' O := h.idle (Step.of_below_same hb O)
theorem LockP.put (h : LockP w0 i E d B N F x z w O) (ht : x.s.e.turns <= 600000) (p : Pt) (hb : p.b < 256) :
  Calls Tryz.prog 30 #[.pointer (some ⟨i.mo, 0, none⟩), .pointer (some ⟨E, 0, none⟩), p.val] w fun r w' => r = .returned (.bool (fitM 3000 x.m p).isSome) /\ ∃ O', Step [5, 1, 2] w O w' O' /\ LockP w0 i E d B N F (x.put 3000 p) z w' O' := by
 obtain ⟨c1, c2⟩ := h.col
 cases hf : fitM 3000 x.m p with
 | none =>
  refine (put_no h.one E p (by rw [h.most]; exact hf)).mono ?_
  rintro r w' ⟨rfl, hb'⟩
  rw [Pr.put_no hf]
  exact ⟨rfl, O, (Step.of_below_same hb' O).nil, h.news hb'⟩
 | some y =>
  obtain ⟨q1, q2⟩ := pkOf_ok hb (fitM_some hf).1
  refine (put_yes h.one h.enc (by omega) (by omega) ht p hb y (by rw [h.most]; exact hf) (pkOf p) q1 q2).mono ?_
  rintro r w' ⟨rfl, O', hs, hw, he⟩
  rw [Pr.put_yes hf]
  obtain ⟨v, hv, hF⟩ := h.var
  exact ⟨rfl, O', hs.mono (by intro z hz; simp at hz ⊢; omega), h.run.step hs (by simp; omega), h.col, h.most, hw, he, h.doc.step hs (by simp; omega), ⟨v, hv.step hs (by simp; omega), hF.step hs (by simp; omega)⟩, h.ok, h.inv⟩
def DocPutTo (w0 : World) (i : Mid) (E d B N F : Nat) (x z : Pr) (r : Ending) (w' : World) : Prop :=
 ∃ g cap O', r = .returned (.agg #[.slice (some ⟨g, 0, none⟩) (z.s.e.turns + 4) cap, .int .u64 z.s.e.size]) /\ (∃ v u, w'.cell? ⟨F, 0, none⟩ = some v /\ w'.cell? ⟨F, 1, none⟩ = some u) /\ (w'.frozen? ⟨F, 0, none⟩ = false /\ w'.frozen? ⟨F, 1, none⟩ = false) /\ LockP w0 i E d B N F x z ((w'.setCell ⟨F, 0, none⟩ (.slice (some ⟨g, 0, none⟩) (z.s.e.turns + 4) cap)).setCell ⟨F, 1, none⟩ (.int .u64 z.s.e.size)) O'
theorem LockP.stored (h : LockP w0 i E d B N F x z w O) {z' : Pr} {cap g : Nat} (hs : Step [6] w O w' O') (hd : DocAt w' O' 6 d B N' z'.m z'.s.q) (he : EncV w' O' 7 (.slice (some ⟨g, 0, none⟩) (z'.s.e.turns + 4) cap) z'.s.e) (hok : z'.m.lc + z'.m.lp <= 4 /\ z'.m.pb <= 4 /\ z'.m.st < 12 /\ z'.m.r.pos /\ z'.m.l.length <= 3000) (hinv : ¬ z'.m.st < 7 -> Wnd.there z'.m.r.a z'.m.l.length = true) :
  DocPutTo w0 i E d B N' F x z' (.returned (.agg #[.slice (some ⟨g, 0, none⟩) (z'.s.e.turns + 4) cap, .int .u64 z'.s.e.size])) w' := by
 obtain ⟨c1, c2⟩ := h.col
 obtain ⟨v0, hv, hF⟩ := h.var
 have hF' := hF.step hs (by simp)
 obtain ⟨a0, a1, f0, f1, _⟩ := two hF'.1
 have hs5 : Step [9] w' O' ((w'.setCell ⟨F, 0, none⟩ (.slice (some ⟨g, 0, none⟩) (z'.s.e.turns + 4) cap)).setCell ⟨F, 1, none⟩ (.int .u64 z'.s.e.size)) O' :=
  ((Step.refl [9] w' O').setCell (p := ⟨F, 0, none⟩) (.inl (by simp [hF'.2])) _).setCell (p := ⟨F, 1, none⟩) (.inl (by simp [hF'.2])) _
 have hF5 := (hF'.setCell 0 (.slice (some ⟨g, 0, none⟩) (z'.s.e.turns + 4) cap)).setCell 1 (.int .u64 z'.s.e.size)
 simp at hF5
 exact ⟨g, cap, O', rfl, ⟨_, _, a0, a1⟩, ⟨f0, f1⟩, (h.run.step hs (by simp)).step hs5 (by simp), h.col, h.most, (h.one.step hs (by simp; omega) (by simp; omega)).step hs5 (by simp; omega) (by simp; omega), (h.enc.step hs (by simp)).step hs5 (by simp), hd.step hs5 (by simp), ⟨_, he.step hs5 (by simp), hF5⟩, hok, hinv⟩
theorem tell_ok {z : Pr} {p : Pt} {y : Int × Int × Rp} (h : z.m.lc + z.m.lp <= 4 /\ z.m.pb <= 4 /\ z.m.st < 12 /\ z.m.r.pos /\ z.m.l.length <= 3000) (hf : fitM 3000 z.m p = some y) :
  ((z.m.tell p y).lc + (z.m.tell p y).lp <= 4 /\ (z.m.tell p y).pb <= 4 /\ (z.m.tell p y).st < 12 /\ (z.m.tell p y).r.pos /\ (z.m.tell p y).l.length <= 3000) /\ (¬ (z.m.tell p y).st < 7 -> Wnd.there (z.m.tell p y).r.a (z.m.tell p y).l.length = true) := by
 obtain ⟨h1, h2, h3, h4, h5⟩ := h
 obtain ⟨e1, e2⟩ := fitM_some hf
 obtain ⟨t1, t2⟩ := z.m.tell_len h4 e1
 obtain ⟨n0, n1⟩ := St.nxt_in (s := (z.m.st : Int)) (k := p.k) (by omega) (by omega)
 refine ⟨⟨h1, h2, ?_, t2, by omega⟩, fun hst => ?_⟩
 · show (St.nxt (z.m.st : Int) p.k).toNat < 12
   omega
 · obtain ⟨dd, nn, r'⟩ := y
   obtain ⟨_, hh⟩ := Pk.fit_some e1 h4
   rcases hh with ⟨k1, k2⟩ | ⟨k1, k2, k3, k4, k5⟩
   · exfalso
     apply hst
     show (St.nxt (z.m.st : Int) p.k).toNat < 7
     rw [k1]
     unfold St.nxt
     simp only [if_pos]
     (repeat' split) <;> omega
   · have hfa := fit_first e1 k1
     show Wnd.there r'.a _ = true
     rw [hfa]
     simp [Wnd.there]
     simp only at t1
     omega
theorem LockP.grow (h : LockP w0 i E d B N F x z w O) (hN : N <= N') : LockP w0 i E d B N' F x z w O := ⟨h.run, h.col, h.most, h.one, h.enc, h.doc.mono hN, h.var, h.ok, h.inv⟩
theorem LockP.dput (h : LockP w0 i E d B N F x z w O) (ht : z.s.e.turns <= 500000) (hN : N <= 700000000) (p : Pt) (hb : p.b < 256) {y : Int × Int × Rp} (hf : fitM 3000 z.m p = some y) {v : Value} (hF : w.cell? ⟨F, 0, none⟩ = some v) :
  Calls Tryz.prog 16 #[.pointer (some ⟨d, 0, none⟩), .agg #[v, .int .u64 z.s.e.size], .agg #[.int .i64 p.k, .int .i64 p.d, .int .i64 p.n, .int .u8 p.b]] w (DocPutTo w0 i E d B (N + 100) F x (z.put 3000 p)) := by
 obtain ⟨v0, hv, hFb⟩ := h.var
 obtain ⟨a0, a1, f0, f1, _⟩ := two hFb.1
 rw [a0] at hF
 simp only [Option.some.injEq] at hF
 subst hF
 obtain ⟨q1, q2⟩ := pkOf_ok hb (fitM_some hf).1
 obtain ⟨o1, o2, o3, o4, o5⟩ := h.ok
 refine (dput_any h.doc hv (by omega) ht o1 o2 (by omega) o3 h.inv hN o4 p hb y (fitM_some hf).1 (pkOf p) q1 q2).mono ?_
 rintro r w' ⟨v', O', rfl, hs, hd, he⟩
 obtain ⟨g, cap, rfl⟩ := he.form
 obtain ⟨t1, t2⟩ := tell_ok (z := z) ⟨o1, o2, o3, o4, o5⟩ hf
 rw [Pr.put_yes hf]
 exact h.stored (z' := ⟨z.m.tell p y, (⟨z.s.e, z.s.q⟩ : Es).code z.m (pkOf p)⟩) hs hd he t1 t2
theorem LockP.dend (h : LockP w0 i E d B N F x z w O) (ht : z.s.e.turns <= 500000) (hN : N <= 700000000) {v : Value} (hF : w.cell? ⟨F, 0, none⟩ = some v) :
  Calls Tryz.prog 17 #[.pointer (some ⟨d, 0, none⟩), .agg #[v, .int .u64 z.s.e.size]] w (DocPutTo w0 i E d B (N + 52) F x ⟨z.m, z.s.code z.m pend⟩) := by
 obtain ⟨v0, hv, hFb⟩ := h.var
 obtain ⟨a0, a1, f0, f1, _⟩ := two hFb.1
 rw [a0] at hF
 simp only [Option.some.injEq] at hF
 subst hF
 obtain ⟨o1, o2, o3, o4, o5⟩ := h.ok
 refine (dend_any h.doc hv (by omega) ht o2 (by omega) o3 hN).mono ?_
 rintro r w' ⟨v', O', rfl, hs, hd, he⟩
 obtain ⟨g, cap, rfl⟩ := he.form
 exact h.stored (z' := ⟨z.m, z.s.code z.m pend⟩) hs hd he ⟨o1, o2, o3, o4, o5⟩ h.inv
theorem LockP.fin (h : LockP w0 i E d B N F x z w O) (ht : x.s.e.turns <= 600000) :
  Calls Tryz.prog 31 #[.pointer (some ⟨i.mo, 0, none⟩), .pointer (some ⟨E, 0, none⟩)] w fun r w' => r = .returned (.tuple #[]) /\ ∃ O', LockP w0 i E d B N F ⟨x.m, x.s.code x.m pend⟩ z w' O' := by
 obtain ⟨c1, c2⟩ := h.col
 refine (put_end h.one h.enc (by omega) (by omega) ht).mono ?_
 rintro r w' ⟨rfl, O', hs, hw, he⟩
 obtain ⟨v, hv, hF⟩ := h.var
 exact ⟨rfl, O', h.run.step hs (by simp; omega), h.col, h.most, hw, he, h.doc.step hs (by simp; omega), ⟨v, hv.step hs (by simp; omega), hF.step hs (by simp; omega)⟩, h.ok, h.inv⟩
end
end Go.Proofs.YtfpoabeihpfeiaaGreat.Dc
end
