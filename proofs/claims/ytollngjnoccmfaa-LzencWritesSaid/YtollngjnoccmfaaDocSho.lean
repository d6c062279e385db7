/-
  The document's model of layer 10: a packet is put: sho.
-/
import Derived.Test.YtollngjnoccmfaaDocPutBase
import Derived.Deep.RegionHeld3
set_option linter.unusedVariables false
set_option linter.unusedSimpArgs false
namespace Go.Proofs.Ytollngjnoccmfaa.Dc
open Go.RowKit Go.Maps
open Rc Mo
open Pk (Rp Pt)
section
variable {w : World} {O : Paint} {d B N cd ce : Nat} {m : Ms} {Q : Qs} {v : Value} {e : Enc}
set_option maxRecDepth 100000 in
set_option maxHeartbeats 16000000 in
theorem dput_sho (h : DocAt w O cd d B N m Q) (he : EncV w O ce v e) (hne : cd ≠ ce) (ht : e.turns ≤ 500000) (hp : m.pb ≤ 4) (hl : m.l.length ≤ 1000000000) (hst : m.st < 12) (hN : N ≤ 700000000) (p : Pt) (hk : p.k = 4) (hd : p.d = 0) (hn : p.n = 0) (hrp : m.r.pos) (dd nn : Nat) (r' : Rp) (hy : p.fit (m.l.length : Int) m.r = some ((dd : Int), (nn : Int), r')) (hd1 : 1 ≤ dd) (hd2 : dd ≤ m.l.length) (hn2 : nn ≤ 273) :
    Calls Try.prog 48 #[.pointer (some ⟨d, 0, none⟩), .agg #[v, .int .u64 (e.size : Int)], .agg #[.int .i64 p.k, .int .i64 p.d, .int .i64 p.n, .int .u8 (p.b : Int)]] w (DocTo w O cd ce d B (N + 100) { m with l := Wnd.copied m.l dd nn, st := (St.nxt (m.st : Int) 4).toNat, r := r' } ((⟨e, Q⟩ : Es).sho m)) := by
  obtain ⟨f, hH⟩ := Held2.start h he hne p
  have HH := Lib.hid hH
  have hh := here_lt m hp
  have HT : Hid ((⟨e, Q⟩ : Es).e.turns ≤ 500000) := Lib.hid ht
  have HBK : Hid (∀ W, Calls Try.prog 47 #[.agg #[.int .i64 p.k, .int .i64 p.d, .int .i64 p.n, .int .u8 (p.b : Int)], .int .i64 (m.l.length : Int), .agg #[.int .i64 m.r.a, .int .i64 m.r.b, .int .i64 m.r.c, .int .i64 m.r.d]] W fun x w' => x = .returned (.tuple #[.int .i64 (dd : Int), .int .i64 (nn : Int), .agg #[.int .i64 r'.a, .int .i64 r'.b, .int .i64 r'.c, .int .i64 r'.d], .bool true]) ∧ Below W.heap.size W w') := Lib.hid (fun W => by
    refine (Pk.back_fit p (m.l.length : Int) m.r W (by omega)).mono ?_
    rintro x w' ⟨d1, n1, s1, ⟨rfl, hb⟩, hf⟩
    have e := hf _ hy
    simp only [Prod.mk.injEq] at e
    obtain ⟨rfl, rfl, rfl⟩ := e
    rw [hy]
    exact ⟨rfl, hb⟩)
  have HE : Hid ((⟨e, Q⟩ : Es).sho m = ((((⟨e, Q⟩ : Es).one 1 m.st m.here 1).one 2 m.st 0 1).one 3 m.st 0 0).one 4 m.st m.here 0) := Lib.hid rfl
  rw [HE.out]
  clear HE hy
  have HK := Lib.hid (And.intro hk (And.intro hd hn))
  clear h he hH ht hk hd hn
  generalize hs0 : (⟨e, Q⟩ : Es) = s0 at *
  clear hs0
  obtain ⟨Pl, hPl⟩ : ∃ Pl, Pl = m.here := ⟨_, rfl⟩
  rw [← hPl] at hh ⊢
  have HPL : Hid (m.here = Pl) := Lib.hid hPl.symm
  clear hPl
  go_enter Try.func48, Try.ntmps48
  go_upto_region 1 with (fail)
  generalize ((w.alloc (.cells #[v, .int .u64 (e.size : Int)] 100)).alloc (.cells #[.int .i64 p.k, .int .i64 p.d, .int .i64 p.n, .int .u8 (p.b : Int)] 102)).alloc (.cells #[.slice none 0 0, .int .u64 0] 100) = W1 at *
  generalize Step.paint O w f = O1 at *
  generalize w.heap.size = X at *
  have c4 := (ten HH.out.one.doc.blk.1).2.2.2.2.1
  obtain ⟨b0, b1, b2, b3⟩ := HH.out.pcells
  obtain ⟨hk, hd, hn⟩ := HK.out
  obtain ⟨g, cap, rfl⟩ := HH.out.one.enc.form
  have HT2 : Hid ((s0.one 1 m.st Pl 1).e.turns ≤ 500003) := Lib.hid (by have := s0.one_turns 1 m.st Pl 1; have := HT.out; omega)
  obtain ⟨s1, hse1⟩ : ∃ s', s' = (s0.one 1 m.st Pl 1) := ⟨_, rfl⟩
  rw [← hse1] at HT2
  have HSE1 := Lib.hid hse1
  clear hse1
  obtain ⟨c0, c1, f0, f1⟩ := HH.out.one.cells
  go_upto_region 8 with (fail)
  go_cut [] from 50 to 56 (fun wc => ∃ v2 O2, Held2 w O f cd ce d B (N + 1) X (X + 1) (X + 1 + 1) m s1 p wc O2 v2)
  case first =>
    as_aux_lemma =>
    clear hk hd hn
    obtain ⟨c0, c1, f0, f1⟩ := HH.out.one.cells
    have c4 := (ten HH.out.one.doc.blk.1).2.2.2.2.1
    have HND : Hid (∀ k, Held2 w O f cd ce d B (N) X (X + 1) (X + 1 + 1) m s0 p (W1.drewN k) O1 (.slice (some ⟨g, 0, none⟩) (s0.e.turns + 4) cap)) := Lib.hid (fun k => HH.out.idle ((Step.refl [] W1 O1).drewN k))
    have HB : Hid (∀ k, Calls Try.prog 95 #[.pointer (some ⟨d, 0, none⟩), .agg #[.slice (some ⟨g, 0, none⟩) (s0.e.turns + 4) cap, .int .u64 (s0.e.size : Int)], .agg #[.int .i64 1, .int .i64 (m.st : Int), .int .i64 (Pl : Int), .int .i64 0], .int .i64 1] (W1.drewN k) (DocTo (W1.drewN k) O1 cd ce d B (N + 1) m s1)) := Lib.hid (fun k => by rw [HSE1.out]; exact (show Calls Try.prog 95 #[.pointer (some ⟨d, 0, none⟩), .agg #[.slice (some ⟨g, 0, none⟩) (s0.e.turns + 4) cap, .int .u64 (s0.e.size : Int)], .agg #[.int .i64 1, .int .i64 (m.st : Int), .int .i64 (Pl : Int), .int .i64 0], .int .i64 1] (W1.drewN k) (DocTo (W1.drewN k) O1 cd ce d B (N + 1) m (s0.one 1 m.st Pl 1)) from dbit_any (HND.out k).one.doc (HND.out k).one.enc (HND.out k).one.n3 (by have := HT.out; omega) (a := 1) (b := m.st) (c := Pl) (x := 1) (by omega) (by omega) (by omega) (by omega) (by omega)))
    have HPC : Hid (∀ W, (∃ k, W = W1.drewN k) → Calls Try.prog 96 #[.pointer (some ⟨d, 0, none⟩)] W fun x w' => x = .returned (.int .i64 (Pl : Int)) ∧ ∃ k, w' = W1.drewN k) := Lib.hid (fun W hW => by
      obtain ⟨k, rfl⟩ := hW
      have := dplace_any (HND.out k).one.doc hp hl
      rw [HPL.out] at this
      refine this.mono ?_
      rintro x w' ⟨rfl, k', rfl⟩
      exact ⟨rfl, k + k', by simp [World.drewN, Nat.add_assoc]⟩)
    refine Tail.region_head (fun W => (W.cell? ⟨X, 0, none⟩ = some (.slice (some ⟨g, 0, none⟩) (s0.e.turns + 4) cap) ∧ W.cell? ⟨X, 1, none⟩ = some (.int .u64 (s0.e.size : Int))) ∧ W.cell? ⟨d, 4, none⟩ = some (.int .i64 (m.st : Int))) 6 2 #[true, true, true, true, true, true, false, false] (by kernel_rfl) ⟨by kernel_rfl, by decide, by kernel_rfl, by kernel_rfl, by kernel_rfl⟩ (by kernel_rfl) ⟨⟨c0, c1⟩, c4⟩ (fun ok hHeld => ?_)
    refine Tail.Lst.mk [0, 1, 2, 3] ?_
    iterate 4 (refine Tail.Lst.takeT ok rfl (v := ?_) (Or.inl ⟨by rfl, ?_⟩) ?_; rotate_left; (next => intro w hSw; (try dsimp only at hSw); go_simp; (try with_reducible rfl)); simp only [Act.put, List.getElem_toArray, List.getElem_cons_succ, List.getElem_cons_zero, List.setIfInBounds_toArray, List.set])
    refine Tail.Lst.nil ?_
    refine Tail.head_ready (rs := [4]) (by kernel_rfl) (by simp) (by kernel_rfl) ?_
    refine Tail.AllHead.cons rfl (fun K hK => ?_) Tail.AllHead.nil
    go_simp
    refine (HPC.out _ ⟨1, rfl⟩).mono ?_
    rintro z wl ⟨rfl, kk, rfl⟩
    refine hK.out _ _ ⟨⟨(HND.out kk).one.cells.1, (HND.out kk).one.cells.2.1⟩, (ten (HND.out kk).one.doc.blk.1).2.2.2.2.1⟩ (fun hHeld => ?_)
    clear hK K
    try simp only [Act.put, List.setIfInBounds_toArray, List.set]
    refine Tail.tk ok (i := 5) (v := Value.agg #[.int .i64 1, .int .i64 (m.st : Int), .int .i64 (Pl : Int), .int .i64 0]) rfl (by kernel_rfl) (fun _ _ _ h => h) (Or.inl ⟨by rfl, ?ht1_5⟩) hHeld ?rt1_5
    case ht1_5 => (intro w hSw; go_simp; (try with_reducible rfl))
    try simp only [Act.put, List.setIfInBounds_toArray, List.set]
    refine Tail.head_done rfl ?_
    refine wpAny_ready (rs := [6]) (by kernel_rfl) (by simp) ?_
    refine AllReady.cons rfl (fun K hK => ?_) AllReady.nil
    go_simp
    refine (HB.out kk).mono ?_
    rintro z w8 ⟨v8, O8, rfl, hs8, hd8, he8⟩
    obtain ⟨g8, cap8, rfl⟩ := he8.form
    obtain ⟨x0, x1, b0, b1⟩ := (HND.out kk).one.cells2 hs8
    refine hK _ _ ?_
    clear hK K
    try simp only [Act.put, List.setIfInBounds_toArray, List.set]
    refine wpAny_ready (rs := [7]) (by kernel_rfl) (by simp) ?_
    refine AllReady.cons rfl (fun K hK => ?_) AllReady.nil
    go_simp
    refine hK _ _ ?_
    clear hK K
    try simp only [Act.put, List.setIfInBounds_toArray, List.set]
    refine wpAny_done (by kernel_rfl) ?_ _
    have HN := Lib.hid ((HND.out kk).next hs8 hd8 he8)
    clear hs8 hd8 he8 x0 x1 b0 b1 c0 c1 f0 f1 c4 HB HND
    go_wp2_with fail
    go_meet
    exact ⟨_, _, HN.out⟩
  case rest =>
    clear c0 c1 f0 f1 HT HH
    obtain ⟨v2, O2, hH⟩ := hcut
    have HH := Lib.hid hH
    have HT := HT2
    clear hH HT2
    obtain ⟨W2, hWe⟩ : ∃ W', W' = wc := ⟨_, rfl⟩
    rw [← hWe] at HH ⊢
    clear hWe
    obtain ⟨g, cap, rfl⟩ := HH.out.one.enc.form
    have HT2 : Hid ((s1.one 2 m.st 0 1).e.turns ≤ 500006) := Lib.hid (by have := s1.one_turns 2 m.st 0 1; have := HT.out; omega)
    obtain ⟨s2, hse2⟩ : ∃ s', s' = (s1.one 2 m.st 0 1) := ⟨_, rfl⟩
    rw [← hse2] at HT2
    have HSE2 := Lib.hid hse2
    clear hse2
    obtain ⟨c0, c1, f0, f1⟩ := HH.out.one.cells
    obtain ⟨b0, b1, b2, b3⟩ := HH.out.pcells
    have HB : Hid (Calls Try.prog 95 #[.pointer (some ⟨d, 0, none⟩), .agg #[.slice (some ⟨g, 0, none⟩) (s1.e.turns + 4) cap, .int .u64 (s1.e.size : Int)], .agg #[.int .i64 2, .int .i64 (m.st : Int), .int .i64 0, .int .i64 0], .int .i64 1] W2 (DocTo W2 O2 cd ce d B (N + 1 + 1) m s2)) := Lib.hid (by rw [HSE2.out]; exact (show Calls Try.prog 95 #[.pointer (some ⟨d, 0, none⟩), .agg #[.slice (some ⟨g, 0, none⟩) (s1.e.turns + 4) cap, .int .u64 (s1.e.size : Int)], .agg #[.int .i64 2, .int .i64 (m.st : Int), .int .i64 0, .int .i64 0], .int .i64 1] W2 (DocTo W2 O2 cd ce d B (N + 1 + 1) m (s1.one 2 m.st 0 1)) from dbit_any HH.out.one.doc HH.out.one.enc HH.out.one.n3 (by have := HT.out; omega) (a := 2) (b := m.st) (c := 0) (x := 1) (by omega) (by omega) (by omega) (by omega) (by omega)))
    go_wp2_with fail
    refine HB.out.mono ?_
    rintro z w5 ⟨v5, O5, rfl, hs5, hd5, he5⟩
    obtain ⟨g5, cap5, rfl⟩ := he5.form
    have HN5 := Lib.hid (HH.out.next hs5 hd5 he5)
    clear c0 c1 f0 f1
    obtain ⟨c0, c1, f0, f1⟩ := HH.out.one.cells2 hs5
    clear hs5 hd5 he5 HB HT HH
    clear b0 b1 b2 b3
    go_upto_region 22 with (fail)
    generalize (w5.setCell ⟨X, 0, none⟩ (.slice (some ⟨g5, 0, none⟩) (s2.e.turns + 4) cap5)).setCell ⟨X, 1, none⟩ (.int .u64 (s2.e.size : Int)) = W3 at *
    clear c0 c1 f0 f1
    have HH := HN5
    have HT := HT2
    clear HN5 HT2
    obtain ⟨v2, hv2⟩ : ∃ v2 : Value, v2 = (.slice (some ⟨g5, 0, none⟩) (s2.e.turns + 4) cap5) := ⟨_, rfl⟩
    rw [← hv2] at HH
    clear hv2
    obtain ⟨O2, hO2⟩ : ∃ O2, O2 = O5 := ⟨_, rfl⟩
    rw [← hO2] at HH
    clear hO2
    obtain ⟨g, cap, rfl⟩ := HH.out.one.enc.form
    have HT2 : Hid ((s2.one 3 m.st 0 0).e.turns ≤ 500009) := Lib.hid (by have := s2.one_turns 3 m.st 0 0; have := HT.out; omega)
    obtain ⟨s3, hse3⟩ : ∃ s', s' = (s2.one 3 m.st 0 0) := ⟨_, rfl⟩
    rw [← hse3] at HT2
    have HSE3 := Lib.hid hse3
    clear hse3
    obtain ⟨c0, c1, f0, f1⟩ := HH.out.one.cells
    obtain ⟨b0, b1, b2, b3⟩ := HH.out.pcells
    have HB : Hid (Calls Try.prog 95 #[.pointer (some ⟨d, 0, none⟩), .agg #[.slice (some ⟨g, 0, none⟩) (s2.e.turns + 4) cap, .int .u64 (s2.e.size : Int)], .agg #[.int .i64 3, .int .i64 (m.st : Int), .int .i64 0, .int .i64 0], .int .i64 0] W3 (DocTo W3 O2 cd ce d B (N + 2 + 1) m s3)) := Lib.hid (by rw [HSE3.out]; exact (show Calls Try.prog 95 #[.pointer (some ⟨d, 0, none⟩), .agg #[.slice (some ⟨g, 0, none⟩) (s2.e.turns + 4) cap, .int .u64 (s2.e.size : Int)], .agg #[.int .i64 3, .int .i64 (m.st : Int), .int .i64 0, .int .i64 0], .int .i64 0] W3 (DocTo W3 O2 cd ce d B (N + 2 + 1) m (s2.one 3 m.st 0 0)) from dbit_any HH.out.one.doc HH.out.one.enc HH.out.one.n3 (by have := HT.out; omega) (a := 3) (b := m.st) (c := 0) (x := 0) (by omega) (by omega) (by omega) (by omega) (by omega)))
    go_wp2_with fail
    refine HB.out.mono ?_
    rintro z w5 ⟨v5, O5, rfl, hs5, hd5, he5⟩
    obtain ⟨g5, cap5, rfl⟩ := he5.form
    have HN5 := Lib.hid (HH.out.next hs5 hd5 he5)
    clear c0 c1 f0 f1
    obtain ⟨c0, c1, f0, f1⟩ := HH.out.one.cells2 hs5
    clear hs5 hd5 he5 HB HT HH
    clear b0 b1 b2 b3
    go_upto_region 23 with (fail)
    generalize (w5.setCell ⟨X, 0, none⟩ (.slice (some ⟨g5, 0, none⟩) (s3.e.turns + 4) cap5)).setCell ⟨X, 1, none⟩ (.int .u64 (s3.e.size : Int)) = W4 at *
    clear c0 c1 f0 f1
    have HH := HN5
    have HT := HT2
    clear HN5 HT2
    obtain ⟨v2, hv2⟩ : ∃ v2 : Value, v2 = (.slice (some ⟨g5, 0, none⟩) (s3.e.turns + 4) cap5) := ⟨_, rfl⟩
    rw [← hv2] at HH
    clear hv2
    obtain ⟨O2, hO2⟩ : ∃ O2, O2 = O5 := ⟨_, rfl⟩
    rw [← hO2] at HH
    clear hO2
    obtain ⟨g, cap, rfl⟩ := HH.out.one.enc.form
    have HT2 : Hid ((s3.one 4 m.st Pl 0).e.turns ≤ 500012) := Lib.hid (by have := s3.one_turns 4 m.st Pl 0; have := HT.out; omega)
    obtain ⟨s4, hse4⟩ : ∃ s', s' = (s3.one 4 m.st Pl 0) := ⟨_, rfl⟩
    rw [← hse4] at HT2
    have HSE4 := Lib.hid hse4
    clear hse4
    obtain ⟨c0, c1, f0, f1⟩ := HH.out.one.cells
    obtain ⟨b0, b1, b2, b3⟩ := HH.out.pcells
    go_upto_region 24 with (fail)
    obtain ⟨c0, c1, f0, f1⟩ := HH.out.one.cells
    have c4 := (ten HH.out.one.doc.blk.1).2.2.2.2.1
    obtain ⟨b0, b1, b2, b3⟩ := HH.out.pcells
    have HND : Hid (∀ k, Held2 w O f cd ce d B (N + 3) X (X + 1) (X + 1 + 1) m s3 p (W4.drewN k) O2 (.slice (some ⟨g, 0, none⟩) (s3.e.turns + 4) cap)) := Lib.hid (fun k => HH.out.idle ((Step.refl [] W4 O2).drewN k))
    have HB : Hid (∀ k, Calls Try.prog 95 #[.pointer (some ⟨d, 0, none⟩), .agg #[.slice (some ⟨g, 0, none⟩) (s3.e.turns + 4) cap, .int .u64 (s3.e.size : Int)], .agg #[.int .i64 4, .int .i64 (m.st : Int), .int .i64 (Pl : Int), .int .i64 0], .int .i64 0] (W4.drewN k) (DocTo (W4.drewN k) O2 cd ce d B (N + 3 + 1) m s4)) := Lib.hid (fun k => by rw [HSE4.out]; exact (show Calls Try.prog 95 #[.pointer (some ⟨d, 0, none⟩), .agg #[.slice (some ⟨g, 0, none⟩) (s3.e.turns + 4) cap, .int .u64 (s3.e.size : Int)], .agg #[.int .i64 4, .int .i64 (m.st : Int), .int .i64 (Pl : Int), .int .i64 0], .int .i64 0] (W4.drewN k) (DocTo (W4.drewN k) O2 cd ce d B (N + 3 + 1) m (s3.one 4 m.st Pl 0)) from dbit_any (HND.out k).one.doc (HND.out k).one.enc (HND.out k).one.n3 (by have := HT.out; omega) (a := 4) (b := m.st) (c := Pl) (x := 0) (by omega) (by omega) (by omega) (by omega) (by omega)))
    have HPC : Hid (∀ W, (∃ k, W = W4.drewN k) → Calls Try.prog 96 #[.pointer (some ⟨d, 0, none⟩)] W fun x w' => x = .returned (.int .i64 (Pl : Int)) ∧ ∃ k, w' = W4.drewN k) := Lib.hid (fun W hW => by
      obtain ⟨k, rfl⟩ := hW
      have := dplace_any (HND.out k).one.doc hp hl
      rw [HPL.out] at this
      refine this.mono ?_
      rintro x w' ⟨rfl, k', rfl⟩
      exact ⟨rfl, k + k', by simp [World.drewN, Nat.add_assoc]⟩)
    refine Tail.region_head (fun W => (W.cell? ⟨X, 0, none⟩ = some (.slice (some ⟨g, 0, none⟩) (s3.e.turns + 4) cap) ∧ W.cell? ⟨X, 1, none⟩ = some (.int .u64 (s3.e.size : Int))) ∧ W.cell? ⟨d, 4, none⟩ = some (.int .i64 (m.st : Int))) 6 2 #[true, true, true, true, true, true, false, false] (by kernel_rfl) ⟨by kernel_rfl, by decide, by kernel_rfl, by kernel_rfl, by kernel_rfl⟩ (by kernel_rfl) ⟨⟨c0, c1⟩, c4⟩ (fun ok hHeld => ?_)
    refine Tail.Lst.mk [0, 1, 2, 3] ?_
    iterate 4 (refine Tail.Lst.takeT ok rfl (v := ?_) (Or.inl ⟨by rfl, ?_⟩) ?_; rotate_left; (next => intro w hSw; (try dsimp only at hSw); go_simp; (try with_reducible rfl)); simp only [Act.put, List.getElem_toArray, List.getElem_cons_succ, List.getElem_cons_zero, List.setIfInBounds_toArray, List.set])
    refine Tail.Lst.nil ?_
    refine Tail.head_ready (rs := [4]) (by kernel_rfl) (by simp) (by kernel_rfl) ?_
    refine Tail.AllHead.cons rfl (fun K hK => ?_) Tail.AllHead.nil
    go_simp
    refine (HPC.out _ ⟨1, rfl⟩).mono ?_
    rintro z wl ⟨rfl, kk, rfl⟩
    refine hK.out _ _ ⟨⟨(HND.out kk).one.cells.1, (HND.out kk).one.cells.2.1⟩, (ten (HND.out kk).one.doc.blk.1).2.2.2.2.1⟩ (fun hHeld => ?_)
    clear hK K
    try simp only [Act.put, List.setIfInBounds_toArray, List.set]
    refine Tail.tk ok (i := 5) (v := Value.agg #[.int .i64 4, .int .i64 (m.st : Int), .int .i64 (Pl : Int), .int .i64 0]) rfl (by kernel_rfl) (fun _ _ _ h => h) (Or.inl ⟨by rfl, ?ht4_5⟩) hHeld ?rt4_5
    case ht4_5 => (intro w hSw; go_simp; (try with_reducible rfl))
    try simp only [Act.put, List.setIfInBounds_toArray, List.set]
    refine Tail.head_done rfl ?_
    refine wpAny_ready (rs := [6]) (by kernel_rfl) (by simp) ?_
    refine AllReady.cons rfl (fun K hK => ?_) AllReady.nil
    go_simp
    refine (HB.out kk).mono ?_
    rintro z w8 ⟨v8, O8, rfl, hs8, hd8, he8⟩
    obtain ⟨g8, cap8, rfl⟩ := he8.form
    obtain ⟨x0, x1, b0, b1⟩ := (HND.out kk).one.cells2 hs8
    refine hK _ _ ?_
    clear hK K
    try simp only [Act.put, List.setIfInBounds_toArray, List.set]
    refine wpAny_ready (rs := [7]) (by kernel_rfl) (by simp) ?_
    refine AllReady.cons rfl (fun K hK => ?_) AllReady.nil
    go_simp
    refine hK _ _ ?_
    clear hK K
    try simp only [Act.put, List.setIfInBounds_toArray, List.set]
    clear b2 b3
    refine wpAny_done (by kernel_rfl) ?_ _
    have HN := Lib.hid ((HND.out kk).next hs8 hd8 he8)
    clear hs8 hd8 he8 x0 x1 b0 b1 c0 c1 f0 f1 c4 HB HND HT HH HPC
    generalize (w8.setCell ⟨X, 0, none⟩ (.slice (some ⟨g8, 0, none⟩) (s4.e.turns + 4) cap8)).setCell ⟨X, 1, none⟩ (.int .u64 (s4.e.size : Int)) = W5 at *
    have HH := HN
    have HT := HT2
    clear HN HT2
    obtain ⟨v2, hv2⟩ : ∃ v2 : Value, v2 = (.slice (some ⟨g8, 0, none⟩) (s4.e.turns + 4) cap8) := ⟨_, rfl⟩
    rw [← hv2] at HH
    clear hv2
    obtain ⟨O2, hO2⟩ : ∃ O2, O2 = O8 := ⟨_, rfl⟩
    rw [← hO2] at HH
    clear hO2
    have HKK := HK.out
    obtain ⟨c0, c1, c2, c3, c4, c5, c6, c7, c8, c9⟩ := ten HH.out.one.doc.blk.1
    obtain ⟨b0, b1, b2, b3⟩ := HH.out.pcells
    obtain ⟨tx, htx⟩ : ∃ tx : ByteArray, tx = ⟨m.l.toArray⟩ := ⟨_, rfl⟩
    rw [← htx] at c9
    have htz : (tx.size : Int) = (m.l.length : Int) := by rw [htx]; rfl
    have HTX := Lib.hid htx
    clear htx
    rw [← htz] at HBK
    have HTZ := Lib.hid htz
    clear htz HKK
    have HS : Hid (∀ W', Below W5.heap.size W5 W' → Below W5.heap.size W5 W' ∧ ((W'.cell? ⟨X + 1, 0, none⟩ = some (.int .i64 p.k) ∧ W'.cell? ⟨X + 1, 1, none⟩ = some (.int .i64 p.d) ∧ W'.cell? ⟨X + 1, 2, none⟩ = some (.int .i64 p.n) ∧ W'.cell? ⟨X + 1, 3, none⟩ = some (.int .u8 (p.b : Int))) ∧ (W'.cell? ⟨d, 5, none⟩ = some (.int .i64 m.r.a) ∧ W'.cell? ⟨d, 6, none⟩ = some (.int .i64 m.r.b) ∧ W'.cell? ⟨d, 7, none⟩ = some (.int .i64 m.r.c) ∧ W'.cell? ⟨d, 8, none⟩ = some (.int .i64 m.r.d) ∧ W'.cell? ⟨d, 9, none⟩ = some (.string tx)))) := Lib.hid (fun W' hW => by
      have hI := HH.out.idle (Step.of_below_same hW O2)
      obtain ⟨c0, c1, c2, c3, c4, c5, c6, c7, c8, c9⟩ := ten hI.one.doc.blk.1
      rw [← HTX.out] at c9
      exact ⟨hW, hI.pcells, c5, c6, c7, c8, c9⟩)
    go_upto_region 27 with (fail)
    go_cut [8, 9, 10, 11] from 158 to 172 (fun z8 z9 z10 z11 wc => ∃ (R : Nat) (O3 : Paint), z8 = .int .i64 (dd : Int) ∧ z9 = .int .i64 (nn : Int) ∧ z10 = .pointer (some ⟨R, 0, none⟩) ∧ z11 = .bool true ∧ Held2 w O f cd ce d B (N + 4) X (X + 1) (X + 1 + 1) m s4 p wc O3 v2 ∧ Blk wc O3 f R (.cells #[.int .i64 r'.a, .int .i64 r'.b, .int .i64 r'.c, .int .i64 r'.d] 103 (0, 0)) ∧ R ≠ d)
    case first =>
      as_aux_lemma =>
      clear hk hd hn
      obtain ⟨h0, ⟨b0, b1, b2, b3⟩, c5, c6, c7, c8, c9⟩ := HS.out W5 (Below.refl _ _)
      go_region_held3 (fun W' => Below W5.heap.size W5 W' ∧ ((W'.cell? ⟨X + 1, 0, none⟩ = some (.int .i64 p.k) ∧ W'.cell? ⟨X + 1, 1, none⟩ = some (.int .i64 p.d) ∧ W'.cell? ⟨X + 1, 2, none⟩ = some (.int .i64 p.n) ∧ W'.cell? ⟨X + 1, 3, none⟩ = some (.int .u8 (p.b : Int))) ∧ (W'.cell? ⟨d, 5, none⟩ = some (.int .i64 m.r.a) ∧ W'.cell? ⟨d, 6, none⟩ = some (.int .i64 m.r.b) ∧ W'.cell? ⟨d, 7, none⟩ = some (.int .i64 m.r.c) ∧ W'.cell? ⟨d, 8, none⟩ = some (.int .i64 m.r.d) ∧ W'.cell? ⟨d, 9, none⟩ = some (.string tx)))) ((refine HS.out _ ?_; repeat (first | assumption | exact Below.refl _ _ | refine Pk.bel_drew ?_ | refine Pk.bel_alloc _ ?_ | (refine Pk.bel_set _ (by first | exact Nat.le_refl _ | exact hz6) ?_) | (refine Pk.bel_new (by assumption) ?_)))) (first | (go_at_call 47; (with_reducible refine (HBK.out _).mono ?_); rintro z w6 ⟨rfl, hb6⟩; first | (have hzr := (hb6.block W5.heap.size (lt_of_heap (heap_alloc_new W5 (.cells #[.int .i64 0, .int .i64 0, .int .i64 0, .int .i64 0] 103)))).trans (heap_alloc_new W5 (.cells #[.int .i64 0, .int .i64 0, .int .i64 0, .int .i64 0] 103)); obtain ⟨⟨a0, a1, a2, a3⟩, ⟨e0, e1, e2, e3⟩, _⟩ := Pk.four hzr) | (have hz6 : W5.heap.size ≤ w6.heap.size := hb6.size; have hzr := heap_alloc_new w6 (.cells #[.int .i64 0, .int .i64 0, .int .i64 0, .int .i64 0] 103); obtain ⟨⟨a0, a1, a2, a3⟩, ⟨e0, e1, e2, e3⟩, _⟩ := Pk.four hzr)))
      have hdl := HH.out.one.doc.blk.lt
      skip
      all_goals first
        | (have hz6 : W5.heap.size ≤ w6.heap.size := by assumption
           have hbV := Pk.bel_alloc (.cells #[.int .i64 r'.a, .int .i64 r'.b, .int .i64 r'.c, .int .i64 r'.d] 103) (Pk.bel_new hb6 ((Below.refl W5.heap.size W5).drew))
           have HN := Lib.hid (HH.out.idle (Step.of_below hbV O2 f))
           have HB4 : Hid (Blk _ (Step.paint O2 W5 f) f w6.heap.size (.cells #[.int .i64 r'.a, .int .i64 r'.b, .int .i64 r'.c, .int .i64 r'.d] 103 (0, 0))) := Lib.hid ⟨heap_alloc_new w6 (.cells #[.int .i64 r'.a, .int .i64 r'.b, .int .i64 r'.c, .int .i64 r'.d] 103), Step.paint_new hz6⟩
           have HRD := Lib.hid (show w6.heap.size ≠ d by have := HH.out.one.doc.blk.lt; omega)
           clear hbV hzr a0 a1 a2 a3 e0 e1 e2 e3 hb6 HBK HS
           go_wp2_with fail
           go_meet
           exact ⟨_, _, rfl, rfl, rfl, rfl, HN.out, HB4.out, HRD.out⟩)
        | (have hb0 := Pk.bel_new hb6 (Below.drew (Pk.bel_alloc (.cells #[.int .i64 0, .int .i64 0, .int .i64 0, .int .i64 0] 103) (Below.refl W5.heap.size W5)))
           have hbV := Pk.bel_set (p := ⟨W5.heap.size, 3, none⟩) (.int .i64 r'.d) (Nat.le_refl _) (Pk.bel_set (p := ⟨W5.heap.size, 2, none⟩) (.int .i64 r'.c) (Nat.le_refl _) (Pk.bel_set (p := ⟨W5.heap.size, 1, none⟩) (.int .i64 r'.b) (Nat.le_refl _) (Pk.bel_set (p := ⟨W5.heap.size, 0, none⟩) (.int .i64 r'.a) (Nat.le_refl _) hb0)))
           have HN := Lib.hid (HH.out.idle (Step.of_below hbV O2 f))
           have h0 : Blk w6 (Step.paint O2 W5 f) f W5.heap.size (.cells #[.int .i64 0, .int .i64 0, .int .i64 0, .int .i64 0] 103 (0, 0)) := ⟨hzr, Step.paint_new (Nat.le_refl _)⟩
           have h1 := (((h0.setCell 0 (.int .i64 r'.a)).setCell 1 (.int .i64 r'.b)).setCell 2 (.int .i64 r'.c)).setCell 3 (.int .i64 r'.d)
           simp at h1
           have HB4 := Lib.hid h1
           have HRD := Lib.hid (show W5.heap.size ≠ d by have := HH.out.one.doc.blk.lt; omega)
           clear hbV hzr a0 a1 a2 a3 e0 e1 e2 e3 hb6 HBK HS h0 h1 hb0
           go_wp2_with fail
           go_meet
           exact ⟨_, _, rfl, rfl, rfl, rfl, HN.out, HB4.out, HRD.out⟩)
    case rest =>
      clear b0 b1 b2 b3 c0 c1 c2 c3 c4 c5 c6 c7 c8 c9 HH HS HBK
      obtain ⟨R, O3, rfl, rfl, rfl, rfl, hH, hBR, hRd⟩ := hcut
      have HH := Lib.hid hH
      have HBR := Lib.hid hBR
      have HRD := Lib.hid hRd
      clear hH hBR hRd
      obtain ⟨W20, hWe⟩ : ∃ W', W' = wc := ⟨_, rfl⟩
      rw [← hWe] at HH HBR ⊢
      clear hWe
      go_wp2_with fail
      go_loopw [12] (fun i wr => ∃ j : Nat, j ≤ nn ∧ i = .int .i64 (j : Int) ∧ Held2 w O f cd ce d B (N + 4) X (X + 1) (X + 1 + 1) { m with l := Wnd.copied m.l dd j } s4 p wr O3 v2 ∧ Blk wr O3 f R (.cells #[.int .i64 r'.a, .int .i64 r'.b, .int .i64 r'.c, .int .i64 r'.d] 103 (0, 0))) (fun i _ => nn - (intOf i).toNat)
      case atStart => exact ⟨0, by omega, rfl, HH.out, HBR.out⟩
      case round =>
        clear HH HBR
        obtain ⟨j, hj, rfl, hL, hBR⟩ := hrel
        have HL := Lib.hid hL
        have HBR := Lib.hid hBR
        clear hL hBR
        by_cases hlt : j < nn
        · skip
          have hcl := Wnd.copied_length m.l dd j
          have HGT := Lib.hid (grow_text m.l dd j hd1 hd2)
          have c9 := (ten HL.out.one.doc.blk.1).2.2.2.2.2.2.2.2.2
          have fz := HL.out.one.doc.blk.free 9
          have HN := Lib.hid (HL.out.setText (Wnd.copied m.l dd (j + 1)))
          obtain ⟨U, hU⟩ : ∃ U : ByteArray, U = ⟨(Wnd.copied m.l dd j).toArray⟩ := ⟨_, rfl⟩
          have hUs : (U.size : Int) = ((m.l.length + j : Nat) : Int) := by
            rw [hU, ← hcl]
            rfl
          have HGT2 := Lib.hid (HGT.out U hU)
          dsimp only at c9
          rw [← hU] at c9
          rw [← HGT2.out] at HN
          clear hU hcl HGT HGT2
          obtain ⟨q, hq⟩ : ∃ q : Nat, q = m.l.length + j - dd := ⟨_, rfl⟩
          have hw1 : IntKind.i64.wrap ((U.size : Int) - (dd : Int)) = (q : Int) := by rw [IntKind.wrap_i64]; omega
          have hw2 : IntKind.i64.wrap ((q : Int) + 1) = (q : Int) + 1 := by rw [IntKind.wrap_i64]; omega
          have hq1 : (q : Int) + 1 ≤ (U.size : Int) := by omega
          have hq0 : (0 : Int) ≤ (q : Int) := by omega
          have hq2 : (q : Int) ≤ (q : Int) + 1 := by omega
          have hq3 : (0 : Int) ≤ (q : Int) + 1 := by omega
          have hUB : (U.size : Int) ≤ 2000000000 := by omega
          have hUN : U.size ≤ 2000000000 := by omega
          have hU6 : U.size ≤ 9223372036854775806 := by omega
          have hUX : (U.extract q (q + 1)).size = 1 := by
            rw [ByteArray.size_extract]
            omega
          have hUY : ∀ a b, U.size + (U.extract a b).size ≤ 9223372036854775807 := by
            intro a b
            rw [ByteArray.size_extract]
            omega
          have hUZ : ∀ a b, U.size + (min b U.size - a) ≤ 9223372036854775807 := by intro a b; omega
          have HQ := Lib.hid (show U.size - dd = q by omega)
          rw [HQ.out] at HN
          clear hq hUs
          go_upto_region 31 with (fail)
          refine Tail.region_head (fun W => W.cell? ⟨d, 9, none⟩ = some (.string U)) 25 3 #[true, true, true, true, true, true, true, true, true, true, true, true, true, true, true, true, true, true, true, true, true, true, true, true, true, false, false, false] (by kernel_rfl) ⟨by kernel_rfl, by decide, by kernel_rfl, by kernel_rfl, by kernel_rfl⟩ (by kernel_rfl) c9 (fun ok hHeld => ?_)
          refine Tail.Lst.mk [0, 1, 2, 3, 4, 5, 6, 7, 8, 9, 10, 11, 12, 13, 14, 15, 16, 17, 18, 19, 20, 21, 22, 23] ?_
          iterate 24 (refine Tail.Lst.takeT ok rfl (v := ?_) (Or.inl ⟨by rfl, ?_⟩) ?_; rotate_left; (next => intro w hSw; (try dsimp only at hSw); go_simp; (try with_reducible rfl)); simp only [Act.put, List.getElem_toArray, List.getElem_cons_succ, List.getElem_cons_zero, List.setIfInBounds_toArray, List.set])
          refine Tail.Lst.nil ?_
          refine Tail.tk ok (i := 24) (v := Value.string (U ++ U.extract q (q + 1))) rfl (by kernel_rfl) (fun _ _ _ h => h) (Or.inl ⟨by rfl, ?hz24⟩) hHeld ?rz24
          case hz24 => (intro w hSw; go_simp; (try rw [run_string_add_sum _ _ _ (hUY _ _)]); (try with_reducible rfl))
          try simp only [Act.put, List.setIfInBounds_toArray, List.set]
          refine Tail.head_done rfl ?_
          refine wpAny_ready (rs := [25]) (by kernel_rfl) (by simp) ?_
          refine AllReady.cons rfl (fun K hK => ?_) AllReady.nil
          go_simp
          refine hK _ _ ?_
          clear hK K
          try simp only [Act.put, List.setIfInBounds_toArray, List.set]
          refine wpAny_ready (rs := [26]) (by kernel_rfl) (by simp) ?_
          refine AllReady.cons rfl (fun K hK => ?_) AllReady.nil
          go_simp
          refine hK _ _ ?_
          clear hK K
          try simp only [Act.put, List.setIfInBounds_toArray, List.set]
          refine wpAny_ready (rs := [27]) (by kernel_rfl) (by simp) ?_
          refine AllReady.cons rfl (fun K hK => ?_) AllReady.nil
          go_simp
          refine hK _ _ ?_
          clear hK K
          try simp only [Act.put, List.setIfInBounds_toArray, List.set]
          refine wpAny_done (by kernel_rfl) ?_ _
          have HN2 := Lib.hid (HN.out.idle ((Step.refl [] _ O3).drew))
          have HBR2 : Hid (Blk _ O3 f R (.cells #[.int .i64 r'.a, .int .i64 r'.b, .int .i64 r'.c, .int .i64 r'.d] 103 (0, 0))) := Lib.hid ((HBR.out.setCell_other (p := ⟨d, 9, none⟩) (Ne.symm HRD.out) (.string (U ++ U.extract q (q + 1)))).step ((Step.refl [] _ O3).drew) (by simp))
          clear HN HBR HL c9 fz hUY hUZ hUX hU6
          go_wp2_with fail
          go_roundw
          case rel => exact ⟨j + 1, by omega, by go_num, HN2.out, HBR2.out⟩
          case measure => simp [intOf]; omega
        · obtain rfl : j = nn := by omega
          skip
          obtain ⟨n0, n1⟩ := St.nxt_in (s := (m.st : Int)) (k := 4) (by omega) (by omega)
          have HNX := Lib.hid (St.ref_any (m.st : Int) 4 (by omega) (by omega))
          have HNV : Hid (St.nxt (m.st : Int) 4 = ((St.nxt (m.st : Int) 4).toNat : Int)) := Lib.hid (by omega)
          rw [HNV.out] at HNX
          clear n0 n1
          generalize (St.nxt (m.st : Int) 4).toNat = ns at *
          obtain ⟨⟨a0, a1, a2, a3⟩, _, _⟩ := Pk.four HBR.out.1
          obtain ⟨b0, b1, b2, b3⟩ := HL.out.pcells
          have HM := Lib.hid (((HL.out.setReps r').setSt ns).idle ((Step.refl [] _ O3).drew))
          have fz4 := HL.out.one.doc.blk.free 4
          have fz5 := HL.out.one.doc.blk.free 5
          have fz6 := HL.out.one.doc.blk.free 6
          have fz7 := HL.out.one.doc.blk.free 7
          have fz8 := HL.out.one.doc.blk.free 8
          obtain ⟨c0, c1, c2, c3, c4, c5, c6, c7, c8, c9⟩ := ten HL.out.one.doc.blk.1
          go_upto_region 32 with (fail)
          have HL5 := HL.out.setReps r'
          have HB5 := (((HBR.out.setCell_other (p := ⟨d, 5, none⟩) (Ne.symm HRD.out) (.int .i64 r'.a)).setCell_other (p := ⟨d, 6, none⟩) (Ne.symm HRD.out) (.int .i64 r'.b)).setCell_other (p := ⟨d, 7, none⟩) (Ne.symm HRD.out) (.int .i64 r'.c)).setCell_other (p := ⟨d, 8, none⟩) (Ne.symm HRD.out) (.int .i64 r'.d)
          have HS5 := Lib.hid (And.intro (Pk.four HB5.1).1 HL5.pcells.1)
          have gz4 := HL5.one.doc.blk.free 4
          have g4 := (ten HL5.one.doc.blk.1).2.2.2.2.1
          dsimp only at g4
          clear HL5 HB5
          refine Tail.region_head (fun W => (W.cell? ⟨R, 0, none⟩ = some (.int .i64 r'.a) ∧ W.cell? ⟨R, 1, none⟩ = some (.int .i64 r'.b) ∧ W.cell? ⟨R, 2, none⟩ = some (.int .i64 r'.c) ∧ W.cell? ⟨R, 3, none⟩ = some (.int .i64 r'.d)) ∧ W.cell? ⟨X + 1, 0, none⟩ = some (.int .i64 p.k)) 10 3 #[true, true, true, true, true, true, true, true, true, true, false, false, false] (by kernel_rfl) ⟨by kernel_rfl, by decide, by kernel_rfl, by kernel_rfl, by kernel_rfl⟩ (by kernel_rfl) ⟨⟨a0, a1, a2, a3⟩, b0⟩ (fun ok hHeld => ?_)
          refine Tail.Lst.mk [0, 1, 2, 3, 4, 5] ?_
          iterate 6 (refine Tail.Lst.takeT ok rfl (v := ?_) (Or.inl ⟨by rfl, ?_⟩) ?_; rotate_left; (next => intro w hSw; (try dsimp only at hSw); go_simp; (try with_reducible rfl)); simp only [Act.put, List.getElem_toArray, List.getElem_cons_succ, List.getElem_cons_zero, List.setIfInBounds_toArray, List.set])
          refine Tail.Lst.nil ?_
          refine Tail.head_ready (rs := [6]) (by kernel_rfl) (by simp) (by kernel_rfl) ?_
          refine Tail.AllHead.cons rfl (fun K hK => ?_) Tail.AllHead.nil
          go_simp
          refine (HNX.out _).mono ?_
          rintro z w6 ⟨rfl, rfl⟩
          refine hK.out _ _ (by first | assumption | exact hHeld) (fun hHeld => ?_)
          clear hK K
          try simp only [Act.put, List.setIfInBounds_toArray, List.set]
          refine Tail.Lst.mk [7, 8] ?_
          iterate 2 (refine Tail.Lst.takeT ok rfl (v := ?_) (Or.inl ⟨by rfl, ?_⟩) ?_; rotate_left; (next => intro w hSw; (try dsimp only at hSw); go_simp; (try with_reducible rfl)); simp only [Act.put, List.getElem_toArray, List.getElem_cons_succ, List.getElem_cons_zero, List.setIfInBounds_toArray, List.set])
          refine Tail.Lst.nil ?_
          refine Tail.head_ready (rs := [9]) (by kernel_rfl) (by simp) (by kernel_rfl) ?_
          refine Tail.AllHead.cons rfl (fun K hK => ?_) Tail.AllHead.nil
          go_simp
          refine hK.out _ _ HS5.out (fun hHeld => ?_)
          clear hK K
          try simp only [Act.put, List.setIfInBounds_toArray, List.set]
          refine Tail.head_done rfl ?_
          refine wpAny_ready (rs := [10]) (by kernel_rfl) (by simp) ?_
          refine AllReady.cons rfl (fun K hK => ?_) AllReady.nil
          go_simp
          refine hK _ _ ?_
          clear hK K
          try simp only [Act.put, List.setIfInBounds_toArray, List.set]
          refine wpAny_ready (rs := [11]) (by kernel_rfl) (by simp) ?_
          refine AllReady.cons rfl (fun K hK => ?_) AllReady.nil
          go_simp
          refine hK _ _ ?_
          clear hK K
          try simp only [Act.put, List.setIfInBounds_toArray, List.set]
          refine wpAny_ready (rs := [12]) (by kernel_rfl) (by simp) ?_
          refine AllReady.cons rfl (fun K hK => ?_) AllReady.nil
          go_simp
          refine hK _ _ ?_
          clear hK K
          try simp only [Act.put, List.setIfInBounds_toArray, List.set]
          refine wpAny_done (by kernel_rfl) ?_ _
          generalize (((((wr.setCell ⟨d, 5, none⟩ (.int .i64 r'.a)).setCell ⟨d, 6, none⟩ (.int .i64 r'.b)).setCell ⟨d, 7, none⟩ (.int .i64 r'.c)).setCell ⟨d, 8, none⟩ (.int .i64 r'.d)).setCell ⟨d, 4, none⟩ (.int .i64 (ns : Int))).drew = W30 at *
          clear HL HBR HS5 gz4 g4 a0 a1 a2 a3 b0 b1 b2 b3 fz4 fz5 fz6 fz7 fz8 c0 c1 c2 c3 c4 c5 c6 c7 c8 c9 HNX HNV
          obtain ⟨gz, capz, rfl⟩ := HM.out.one.enc.form
          obtain ⟨c0, c1, f0, f1⟩ := HM.out.one.cells
          obtain ⟨z0, z1, y0, y1⟩ := HM.out.one.cellsZ
          go_wp2_with fail
          obtain ⟨W, hW, r0, r1, hr⟩ := HM.out.one.done
          rw [hW]
          have HR := Lib.hid hr
          clear hW c0 c1 f0 f1 z0 z1 y0 y1 hr HM
          refine bodyPost_ret (v := .agg #[.slice (some ⟨gz, 0, none⟩) (s4.e.turns + 4) capz, .int .u64 (s4.e.size : Int)]) ?_ rfl ?_
          · simp [results, Try.results48, go_sem, r0, r1]
          · have HRR := HR.out.mono (show N + 4 ≤ N + 100 by omega)
            rw [HSE4.out, HSE3.out, HSE2.out, HSE1.out] at HRR ⊢
            exact HRR
end
end Go.Proofs.Ytollngjnoccmfaa.Dc
