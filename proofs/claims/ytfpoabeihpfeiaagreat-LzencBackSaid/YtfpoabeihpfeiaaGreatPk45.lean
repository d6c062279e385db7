/-
  The document's model of layer 10: a packet that copies is put: one head, its five ways, and once what stands behind them.
-/
import Derived.Test.YtfpoabeihpfeiaaGreatPk43
import Derived.Deep.RegionHeld3
import Derived.Deep.CutBlock
import Derived.Deep.DeepCutAuto
set_option maxRecDepth 100000
set_option maxHeartbeats 16000000
set_option linter.unusedVariables false
set_option linter.unusedSimpArgs false
open Go.Lib (hid)
namespace Go.Proofs.YtfpoabeihpfeiaaGreat.Dc
open Go.RowKit Go.Maps
open Rc Mo
open Pk (Rp Pt)
section
variable {w w0 : World} {O O0 : Paint} {f d B N N' cd ce X Y Z Pl T : Nat} {m : Ms} {Q : Qs} {v : Value} {e : Enc} {s s' : Es} {p : Pt}
theorem Held2.mono (h : Held2 w0 O0 f cd ce d B N X Y Z m s p w O v) (hN : N <= N') : Held2 w0 O0 f cd ce d B N' X Y Z m s p w O v :=
 ⟨{ h.one with doc := h.one.doc.mono hN }, h.pk, h.n5, h.n6⟩
def Nx (w0 : World) (O0 : Paint) (f cd ce d B N X Y Z : Nat) (m : Ms) (s' : Es) (p : Pt) (v : Value) (q T : Nat) (z : Ending) (w' : World) : Prop :=
 ∃ g cap O', z = .returned (.agg #[.slice (some ⟨g, 0, none⟩) (s'.e.turns + 4) cap, .int .u64 s'.e.size]) /\
  Held2 w0 O0 f cd ce d B N X Y Z m s' p ((w'.setCell ⟨X, 0, none⟩ (.slice (some ⟨g, 0, none⟩) (s'.e.turns + 4) cap)).setCell ⟨X, 1, none⟩ (.int .u64 s'.e.size)) O' (.slice (some ⟨g, 0, none⟩) (s'.e.turns + 4) cap) /\ s'.e.turns <= T /\
  w'.cell? ⟨X, 0, none⟩ = some v /\ w'.cell? ⟨X, 1, none⟩ = some (.int .u64 q) /\ w'.frozen? ⟨X, 0, none⟩ = false /\ w'.frozen? ⟨X, 1, none⟩ = false
theorem Held2.nx (h : Held2 w0 O0 f cd ce d B N X Y Z m s p w O v) (hT : s'.e.turns <= T) {z : Ending} {w' : World} (hz : DocTo w O cd ce d B N' m s' z w') : Nx w0 O0 f cd ce d B N' X Y Z m s' p v s.e.size T z w' := by
 obtain ⟨v', O', rfl, hs, hd, he⟩ := hz
 obtain ⟨c0, c1, f0, f1⟩ := h.one.cells2 hs
 have hn := h.next hs hd he
 obtain ⟨g, cap, rfl⟩ := he.form
 exact ⟨g, cap, O', rfl, hn, hT, c0, c1, f0, f1⟩
theorem Held2.bit (h : Held2 w0 O0 f cd ce d B N X Y Z m s p w O v) (ht : s.e.turns <= T) (hT : T <= 800000) (hN : N <= 900000000) (a b c x : Nat) (ha : a < 1000) (hb : b < 1000) (hc : c < 1000) (hx : x <= 1) :
  Calls Tryz.prog 35 #[.pointer (some ⟨d, 0, none⟩), .agg #[v, .int .u64 s.e.size], .agg #[.int .i64 a, .int .i64 b, .int .i64 c, .int .i64 0], .int .i64 x] w (Nx w0 O0 f cd ce d B (N + 1) X Y Z m (s.one a b c x) p v s.e.size (T + 3)) :=
 (dbit_any h.one.doc h.one.enc h.one.n3 (by omega) (by omega) (by omega) (by omega) hx (by omega)).mono fun z w' hz => h.nx (by have := s.one_turns a b c x; omega) hz
theorem Held2.len (h : Held2 w0 O0 f cd ce d B N X Y Z m s p w O v) (ht : s.e.turns <= T) (hT : T <= 700000) (hN : N <= 800000000) (hp : m.pb <= 4) (hl : m.l.length <= 1000000000) (hP : m.here = Pl) (u n : Nat) (hu : u <= 1) (hn : n <= 271) (c : Int) (hc : c = (n : Int) + 2) :
  Calls Tryz.prog 39 #[.pointer (some ⟨d, 0, none⟩), .agg #[v, .int .u64 s.e.size], .int .i64 u, .int .i64 c] w (Nx w0 O0 f cd ce d B (N + 10) X Y Z m (s.len u Pl n) p v s.e.size (T + 30)) :=
 hc ▸ (dlen_any h.one.doc h.one.enc h.one.n3 (by omega) hp hl hu hn hN).mono fun z w' hz => h.nx (by have := s.len_turns u Pl n; omega) (by rw [hP] at hz; exact hz)
theorem Held2.dist (h : Held2 w0 O0 f cd ce d B N X Y Z m s p w O v) (ht : s.e.turns <= T) (hT : T <= 700000) (hN : N <= 800000000) (n x : Nat) (hn : n <= 271) (hx : x < 4294967296) (c : Int) (hc : c = (n : Int) + 2) :
  Calls Tryz.prog 40 #[.pointer (some ⟨d, 0, none⟩), .agg #[v, .int .u64 s.e.size], .int .u64 x, .int .i64 c] w (Nx w0 O0 f cd ce d B (N + 40) X Y Z m (s.dist (cls n) x) p v s.e.size (T + 120)) :=
 hc ▸ (ddist_any h.one.doc h.one.enc h.one.n3 (by omega) hn hx hN).mono fun z w' hz => h.nx (by have := s.dist_turns (cls n) x hx; omega) hz
theorem Held2.at (h : Held2 w0 O0 f cd ce d B N X Y Z m s p w O v) (hp : m.pb <= 4) (hl : m.l.length <= 1000000000) (hP : m.here = Pl) (W : World) (hW : ∃ k, W = w.drewN k) :
  Calls Tryz.prog 36 #[.pointer (some ⟨d, 0, none⟩)] W fun x w' => x = .returned (.int .i64 Pl) /\ ∃ k, w' = w.drewN k := by
 obtain ⟨k, rfl⟩ := hW
 refine (h.one.place hp hl k).mono ?_
 rintro x w' ⟨rfl, k', rfl⟩
 exact ⟨by rw [hP], k + k', by simp [World.drewN, Nat.add_assoc]⟩
def Way (m : Ms) (p : Pt) (Pl : Nat) (s s9 : Es) : Prop :=
 (∃ n x : Nat, p.k = 2 /\ p.d = (x : Int) + 1 /\ p.n = (n : Int) + 2 /\ n <= 271 /\ x < 4294967296 /\ s9 = ((s.one 2 m.st 0 0).len 0 Pl n).dist (cls n) x) \/
 (p.k = 4 /\ s9 = ((s.one 2 m.st 0 1).one 3 m.st 0 0).one 4 m.st Pl 0) \/
 (∃ n : Nat, p.k = 3 /\ p.d = 0 /\ p.n = (n : Int) + 2 /\ n <= 271 /\ s9 = (((s.one 2 m.st 0 1).one 3 m.st 0 0).one 4 m.st Pl 1).len 1 Pl n) \/
 (∃ n : Nat, p.k = 3 /\ p.d = 1 /\ p.n = (n : Int) + 2 /\ n <= 271 /\ s9 = (((s.one 2 m.st 0 1).one 3 m.st 0 1).one 5 m.st 0 0).len 1 Pl n) \/
 ∃ n x : Nat, p.k = 3 /\ p.d = (x : Int) + 2 /\ p.n = (n : Int) + 2 /\ n <= 271 /\ x <= 1 /\ s9 = ((((s.one 2 m.st 0 1).one 3 m.st 0 1).one 5 m.st 0 1).one 6 m.st 0 x).len 1 Pl n
theorem Way.kind {m : Ms} {p : Pt} {Pl : Nat} {s s9 : Es} (h : Way m p Pl s s9) : 2 <= p.k /\ p.k <= 4 := by
 rcases h with ⟨n, x, h, _⟩ | ⟨h, _⟩ | ⟨n, h, _⟩ | ⟨n, h, _⟩ | ⟨n, x, h, _⟩ <;> omega
theorem dput_copy (h : DocAt w O cd d B N m Q) (he : EncV w O ce v e) (hne : cd ≠ ce) (ht : e.turns <= 500000) (hp : m.pb <= 4) (hl : m.l.length <= 1000000000) (hst : m.st < 12) (hN : N <= 700000000) (p : Pt) (s9 : Es) (hw : Way m p m.here ((⟨e, Q⟩ : Es).one 1 m.st m.here 1) s9) (dd nn : Nat) (r' : Rp) (hy : p.fit (m.l.length : Int) m.r = some ((dd : Int), (nn : Int), r')) (hd1 : 1 <= dd) (hd2 : dd <= m.l.length) (hnn : nn <= 273) :
  Calls Tryz.prog 16 #[.pointer (some ⟨d, 0, none⟩), .agg #[v, .int .u64 e.size], .agg #[.int .i64 p.k, .int .i64 p.d, .int .i64 p.n, .int .u8 p.b]] w (DocTo w O cd ce d B (N + 100) { m with l := Wnd.copied m.l dd nn, st := (St.nxt (m.st : Int) p.k).toNat, r := r' } s9) := by
 obtain ⟨f, hH⟩ := Held2.start h he hne p
 have HH := hid hH
 have hh := here_lt m hp
 obtain ⟨hk2, hk4⟩ := hw.kind
 have HT : Hid ((⟨e, Q⟩ : Es).e.turns <= 500000) := hid ht
 have HBK : Hid (∀ W, Calls Tryz.prog 15 #[.agg #[.int .i64 p.k, .int .i64 p.d, .int .i64 p.n, .int .u8 p.b], .int .i64 m.l.length, .agg #[.int .i64 m.r.a, .int .i64 m.r.b, .int .i64 m.r.c, .int .i64 m.r.d]] W fun x w' => x = .returned (.tuple #[.int .i64 dd, .int .i64 nn, .agg #[.int .i64 r'.a, .int .i64 r'.b, .int .i64 r'.c, .int .i64 r'.d], .bool true]) /\ Below W.heap.size W w') := hid (fun W => by
  refine (Pk.back_fit p (m.l.length : Int) m.r W (by omega)).mono ?_
  rintro x w' ⟨d1, n1, s1, ⟨rfl, hb⟩, hf⟩
  have e := hf _ hy
  simp only [Prod.mk.injEq] at e
  obtain ⟨rfl, rfl, rfl⟩ := e
  rw [hy]
  exact ⟨rfl, hb⟩)
 have HW := hid hw
 clear h he hH ht hw hy
 have hk1 : ¬ p.k = 1 := by omega
 generalize (⟨e, Q⟩ : Es) = s0 at *
 obtain ⟨Pl, hPl⟩ : ∃ Pl, Pl = m.here := ⟨_, rfl⟩
 rw [<- hPl] at hh HW
 have HP : Hid (m.here = Pl) := hid hPl.symm
 clear hPl
 go_enter Tryz.func16, Tryz.ntmps16
 go_upto_region 1 with (fail)
 generalize ((w.alloc (.cells #[v, .int .u64 e.size] 46)).alloc (.cells #[.int .i64 p.k, .int .i64 p.d, .int .i64 p.n, .int .u8 p.b] 48)).alloc (.cells #[.slice none 0 0, .int .u64 0] 46) = W1 at *
 generalize Step.paint O w f = O1 at *
 generalize w.heap.size = X at *
 obtain ⟨b0, b1, b2, b3⟩ := HH.out.pcells
 obtain ⟨g, cap, rfl⟩ := HH.out.one.enc.form
 have hkb : (p.k == 1) = false := by simp [hk1]
 have c4 := (ten HH.out.one.doc.blk.1).2.2.2.2.1
 obtain ⟨c0, c1, f0, f1⟩ := HH.out.one.cells
 have HND : Hid (∀ k, Held2 w O f cd ce d B (N) X (X + 1) (X + 1 + 1) m s0 p (W1.drewN k) O1 (.slice (some ⟨g, 0, none⟩) (s0.e.turns + 4) cap)) := hid (fun k => HH.out.idle ((Step.refl [] W1 O1).drewN k))
 have HPC := hid (HH.out.at hp hl HP.out)
 have HB := hid (fun k => (HND.out k).bit HT.out (by omega) (by omega) 1 m.st Pl 1 (by omega) (by omega) (by omega) (by omega))
 go_upto_region 8 with (fail)
 refine Tail.region_head (fun W => W.cell? ⟨X, 0, none⟩ = some (.slice (some ⟨g, 0, none⟩) (s0.e.turns + 4) cap) /\ W.cell? ⟨X, 1, none⟩ = some (.int .u64 s0.e.size)) 6 2 #[true, true, true, true, true, true, false, false] (by kernel_rfl) ⟨by kernel_rfl, by decide, by kernel_rfl, by kernel_rfl, by kernel_rfl⟩ (by kernel_rfl) ⟨c0, c1⟩ (fun ok hHeld => ?_)
 refine Tail.Lst.mk [0, 1, 2, 3] ?_
 iterate 4 (refine Tail.Lst.takeT ok rfl (v := ?_) (Or.inl ⟨by rfl, ?_⟩) ?_; rotate_left; (next => intro w hSw; (try dsimp only at hSw); go_simp; (try with_reducible rfl)); simp only [Act.put, List.getElem_toArray, List.getElem_cons_succ, List.getElem_cons_zero, List.setIfInBounds_toArray, List.set])
 refine Tail.Lst.nil ?_
 refine Tail.head_ready (rs := [4]) (by kernel_rfl) (by simp) (by kernel_rfl) ?_
 refine Tail.AllHead.cons rfl (fun K hK => ?_) Tail.AllHead.nil
 go_simp
 refine (HPC.out _ ⟨1, rfl⟩).mono ?_
 rintro z wl ⟨rfl, kk, rfl⟩
 refine hK.out _ _ ⟨(HND.out kk).one.cells.1, (HND.out kk).one.cells.2.1⟩ (fun hHeld => ?_)
 clear hK K
 try simp only [Act.put, List.setIfInBounds_toArray, List.set]
 refine Tail.tk ok (i := 5) (v := Value.agg #[.int .i64 1, .int .i64 m.st, .int .i64 Pl, .int .i64 0]) rfl (by kernel_rfl) (fun _ _ _ h => h) (Or.inl ⟨by rfl, ?hq8⟩) hHeld ?rq8
 case hq8 => (intro w hSw; go_simp; (try with_reducible rfl))
 try simp only [Act.put, List.setIfInBounds_toArray, List.set]
 refine Tail.head_done rfl ?_
 refine wpAny_ready (rs := [6]) (by kernel_rfl) (by simp) ?_
 refine AllReady.cons rfl (fun K hK => ?_) AllReady.nil
 go_simp
 refine (HB.out kk).mono ?_
 rintro z w8 ⟨g8, cap8, O8, rfl, hN8, ht8, x0, x1, y0, y1⟩
 refine hK _ _ ?_
 clear hK K
 try simp only [Act.put, List.setIfInBounds_toArray, List.set]
 refine wpAny_ready (rs := [7]) (by kernel_rfl) (by simp) ?_
 refine AllReady.cons rfl (fun K hK => ?_) AllReady.nil
 go_simp
 refine hK _ _ ?_
 clear hK K
 try simp only [Act.put, List.setIfInBounds_toArray, List.set]
 refine wpAny_done (by kernel_rfl) ?_ _
 clear c0 c1 f0 f1 x0 x1 y0 y1 HH HT HND HPC HB
 have HH := hid hN8
 have HT := hid ht8
 clear hN8 ht8
 generalize s0.one 1 m.st Pl 1 = s1 at *
 generalize (w8.setCell ⟨X, 0, none⟩ (.slice (some ⟨g8, 0, none⟩) (s1.e.turns + 4) cap8)).setCell ⟨X, 1, none⟩ (.int .u64 s1.e.size) = V0 at *
 clear b0 b1 b2 b3 c4
 obtain ⟨b0, b1, b2, b3⟩ := HH.out.pcells
 go_upto_block 0 with (fail)
 go_cut [] from 57 to 156 (fun wc => ∃ v2 O2, Held2 w O f cd ce d B (N + 90) X (X + 1) (X + 1 + 1) m s9 p wc O2 v2)
 case first =>
  rcases HW.out with ⟨n, x, hk, hd, hn, hnn, hx, hs⟩ | ⟨hk, hs⟩ | ⟨n, hk, hd, hn, hnn, hs⟩ | ⟨n, hk, hd, hn, hnn, hs⟩ | ⟨n, x, hk, hd, hn, hnn, hx, hs⟩
  all_goals
   have HS := hid hs
   clear hs HW HBK hkb hk1 hk2 hk4
  · as_aux_lemma =>
    have k2 : (p.k == 2) = true := by simp [hk]
    have hvw : IntKind.i64.wrap (p.d - 1) = (x : Int) := by rw [hd, IntKind.wrap_i64]; omega
    have hvu : IntKind.u64.wrap (x : Int) = (x : Int) := by rw [IntKind.wrap_u64]; omega
    have HN := hid hn
    clear hk hd hn
    obtain ⟨c0, c1, f0, f1⟩ := HH.out.one.cells
    obtain ⟨b0, b1, b2, b3⟩ := HH.out.pcells
    go_wp2_with fail
    refine (HH.out.bit HT.out (by omega) (by omega) 2 m.st 0 0 (by omega) (by omega) (by omega) (by omega)).mono ?_
    rintro z w5 ⟨g5, cap5, O5, rfl, hN5, ht5, x0, x1, y0, y1⟩
    clear c0 c1 f0 f1 HH HT
    generalize s1.one 2 m.st 0 0 = s2 at *
    have HH := hid hN5
    have HT := hid ht5
    clear hN5 ht5
    go_upto_region 18 with (fail)
    generalize (w5.setCell ⟨X, 0, none⟩ (.slice (some ⟨g5, 0, none⟩) (s2.e.turns + 4) cap5)).setCell ⟨X, 1, none⟩ (.int .u64 s2.e.size) = V1 at *
    clear x0 x1 y0 y1 b0 b1 b2 b3
    obtain ⟨c0, c1, f0, f1⟩ := HH.out.one.cells
    obtain ⟨b0, b1, b2, b3⟩ := HH.out.pcells
    go_wp2_with fail
    refine (HH.out.len HT.out (by omega) (by omega) hp hl HP.out 0 n (by omega) (by omega) p.n HN.out).mono ?_
    rintro z w5 ⟨g5, cap5, O5, rfl, hN5, ht5, x0, x1, y0, y1⟩
    clear c0 c1 f0 f1 HH HT
    generalize s2.len 0 Pl n = s3 at *
    have HH := hid hN5
    have HT := hid ht5
    clear hN5 ht5
    go_upto_region 19 with (fail)
    generalize (w5.setCell ⟨X, 0, none⟩ (.slice (some ⟨g5, 0, none⟩) (s3.e.turns + 4) cap5)).setCell ⟨X, 1, none⟩ (.int .u64 s3.e.size) = V2 at *
    clear x0 x1 y0 y1 b0 b1 b2 b3
    obtain ⟨c0, c1, f0, f1⟩ := HH.out.one.cells
    obtain ⟨b0, b1, b2, b3⟩ := HH.out.pcells
    go_wp2_with fail
    refine (HH.out.dist HT.out (by omega) (by omega) n x (by omega) (by omega) p.n HN.out).mono ?_
    rintro z w5 ⟨g5, cap5, O5, rfl, hN5, ht5, x0, x1, y0, y1⟩
    clear c0 c1 f0 f1 HH HT
    generalize s3.dist (cls n) x = s4 at *
    have HH := hid hN5
    have HT := hid ht5
    clear hN5 ht5
    go_wp2_with fail
    go_meet
    obtain rfl := HS.out
    exact ⟨_, _, HH.out.mono (by omega)⟩
  · as_aux_lemma =>
    have k2 : (p.k == 2) = false := by simp [hk]
    have k4 : (p.k == 4) = true := by simp [hk]
    clear hk
    obtain ⟨c0, c1, f0, f1⟩ := HH.out.one.cells
    obtain ⟨b0, b1, b2, b3⟩ := HH.out.pcells
    go_wp2_with fail
    refine (HH.out.bit HT.out (by omega) (by omega) 2 m.st 0 1 (by omega) (by omega) (by omega) (by omega)).mono ?_
    rintro z w5 ⟨g5, cap5, O5, rfl, hN5, ht5, x0, x1, y0, y1⟩
    clear c0 c1 f0 f1 HH HT
    generalize s1.one 2 m.st 0 1 = s2 at *
    have HH := hid hN5
    have HT := hid ht5
    clear hN5 ht5
    go_upto_region 22 with (fail)
    generalize (w5.setCell ⟨X, 0, none⟩ (.slice (some ⟨g5, 0, none⟩) (s2.e.turns + 4) cap5)).setCell ⟨X, 1, none⟩ (.int .u64 s2.e.size) = V1 at *
    clear x0 x1 y0 y1 b0 b1 b2 b3
    obtain ⟨c0, c1, f0, f1⟩ := HH.out.one.cells
    obtain ⟨b0, b1, b2, b3⟩ := HH.out.pcells
    go_wp2_with fail
    refine (HH.out.bit HT.out (by omega) (by omega) 3 m.st 0 0 (by omega) (by omega) (by omega) (by omega)).mono ?_
    rintro z w5 ⟨g5, cap5, O5, rfl, hN5, ht5, x0, x1, y0, y1⟩
    clear c0 c1 f0 f1 HH HT
    generalize s2.one 3 m.st 0 0 = s3 at *
    have HH := hid hN5
    have HT := hid ht5
    clear hN5 ht5
    go_upto_region 23 with (fail)
    generalize (w5.setCell ⟨X, 0, none⟩ (.slice (some ⟨g5, 0, none⟩) (s3.e.turns + 4) cap5)).setCell ⟨X, 1, none⟩ (.int .u64 s3.e.size) = V2 at *
    clear x0 x1 y0 y1 b0 b1 b2 b3
    obtain ⟨b0, b1, b2, b3⟩ := HH.out.pcells
    obtain ⟨c0, c1, f0, f1⟩ := HH.out.one.cells
    have HND : Hid (∀ k, Held2 w O f cd ce d B (N + 1 + 1 + 1) X (X + 1) (X + 1 + 1) m s3 p (V2.drewN k) O5 (.slice (some ⟨g5, 0, none⟩) (s3.e.turns + 4) cap5)) := hid (fun k => HH.out.idle ((Step.refl [] V2 O5).drewN k))
    have HPC := hid (HH.out.at hp hl HP.out)
    have HB := hid (fun k => (HND.out k).bit HT.out (by omega) (by omega) 4 m.st Pl 0 (by omega) (by omega) (by omega) (by omega))
    go_upto_region 24 with (fail)
    refine Tail.region_head (fun W => W.cell? ⟨X, 0, none⟩ = some (.slice (some ⟨g5, 0, none⟩) (s3.e.turns + 4) cap5) /\ W.cell? ⟨X, 1, none⟩ = some (.int .u64 s3.e.size)) 6 2 #[true, true, true, true, true, true, false, false] (by kernel_rfl) ⟨by kernel_rfl, by decide, by kernel_rfl, by kernel_rfl, by kernel_rfl⟩ (by kernel_rfl) ⟨c0, c1⟩ (fun ok hHeld => ?_)
    refine Tail.Lst.mk [0, 1, 2, 3] ?_
    iterate 4 (refine Tail.Lst.takeT ok rfl (v := ?_) (Or.inl ⟨by rfl, ?_⟩) ?_; rotate_left; (next => intro w hSw; (try dsimp only at hSw); go_simp; (try with_reducible rfl)); simp only [Act.put, List.getElem_toArray, List.getElem_cons_succ, List.getElem_cons_zero, List.setIfInBounds_toArray, List.set])
    refine Tail.Lst.nil ?_
    refine Tail.head_ready (rs := [4]) (by kernel_rfl) (by simp) (by kernel_rfl) ?_
    refine Tail.AllHead.cons rfl (fun K hK => ?_) Tail.AllHead.nil
    go_simp
    refine (HPC.out _ ⟨1, rfl⟩).mono ?_
    rintro z wl ⟨rfl, kk, rfl⟩
    refine hK.out _ _ ⟨(HND.out kk).one.cells.1, (HND.out kk).one.cells.2.1⟩ (fun hHeld => ?_)
    clear hK K
    try simp only [Act.put, List.setIfInBounds_toArray, List.set]
    refine Tail.tk ok (i := 5) (v := Value.agg #[.int .i64 4, .int .i64 m.st, .int .i64 Pl, .int .i64 0]) rfl (by kernel_rfl) (fun _ _ _ h => h) (Or.inl ⟨by rfl, ?hq24⟩) hHeld ?rq24
    case hq24 => (intro w hSw; go_simp; (try with_reducible rfl))
    try simp only [Act.put, List.setIfInBounds_toArray, List.set]
    refine Tail.head_done rfl ?_
    refine wpAny_ready (rs := [6]) (by kernel_rfl) (by simp) ?_
    refine AllReady.cons rfl (fun K hK => ?_) AllReady.nil
    go_simp
    refine (HB.out kk).mono ?_
    rintro z w8 ⟨g8, cap8, O8, rfl, hN8, ht8, x0, x1, y0, y1⟩
    refine hK _ _ ?_
    clear hK K
    try simp only [Act.put, List.setIfInBounds_toArray, List.set]
    refine wpAny_ready (rs := [7]) (by kernel_rfl) (by simp) ?_
    refine AllReady.cons rfl (fun K hK => ?_) AllReady.nil
    go_simp
    refine hK _ _ ?_
    clear hK K
    try simp only [Act.put, List.setIfInBounds_toArray, List.set]
    refine wpAny_done (by kernel_rfl) ?_ _
    clear c0 c1 f0 f1 x0 x1 y0 y1 HH HT HND HPC HB
    have HH := hid hN8
    have HT := hid ht8
    clear hN8 ht8
    generalize s3.one 4 m.st Pl 0 = s4 at *
    go_wp2_with fail
    go_meet
    obtain rfl := HS.out
    exact ⟨_, _, HH.out.mono (by omega)⟩
  · as_aux_lemma =>
    have k2 : (p.k == 2) = false := by simp [hk]
    have k4 : (p.k == 4) = false := by simp [hk]
    have d0 : (p.d == 0) = true := by simp [hd]
    have HN := hid hn
    clear hk hd hn
    obtain ⟨c0, c1, f0, f1⟩ := HH.out.one.cells
    obtain ⟨b0, b1, b2, b3⟩ := HH.out.pcells
    go_wp2_with fail
    refine (HH.out.bit HT.out (by omega) (by omega) 2 m.st 0 1 (by omega) (by omega) (by omega) (by omega)).mono ?_
    rintro z w5 ⟨g5, cap5, O5, rfl, hN5, ht5, x0, x1, y0, y1⟩
    clear c0 c1 f0 f1 HH HT
    generalize s1.one 2 m.st 0 1 = s2 at *
    have HH := hid hN5
    have HT := hid ht5
    clear hN5 ht5
    go_upto_region 22 with (fail)
    generalize (w5.setCell ⟨X, 0, none⟩ (.slice (some ⟨g5, 0, none⟩) (s2.e.turns + 4) cap5)).setCell ⟨X, 1, none⟩ (.int .u64 s2.e.size) = V1 at *
    clear x0 x1 y0 y1 b0 b1 b2 b3
    obtain ⟨c0, c1, f0, f1⟩ := HH.out.one.cells
    obtain ⟨b0, b1, b2, b3⟩ := HH.out.pcells
    go_wp2_with fail
    refine (HH.out.bit HT.out (by omega) (by omega) 3 m.st 0 0 (by omega) (by omega) (by omega) (by omega)).mono ?_
    rintro z w5 ⟨g5, cap5, O5, rfl, hN5, ht5, x0, x1, y0, y1⟩
    clear c0 c1 f0 f1 HH HT
    generalize s2.one 3 m.st 0 0 = s3 at *
    have HH := hid hN5
    have HT := hid ht5
    clear hN5 ht5
    go_upto_region 23 with (fail)
    generalize (w5.setCell ⟨X, 0, none⟩ (.slice (some ⟨g5, 0, none⟩) (s3.e.turns + 4) cap5)).setCell ⟨X, 1, none⟩ (.int .u64 s3.e.size) = V2 at *
    clear x0 x1 y0 y1 b0 b1 b2 b3
    obtain ⟨b0, b1, b2, b3⟩ := HH.out.pcells
    obtain ⟨c0, c1, f0, f1⟩ := HH.out.one.cells
    have HND : Hid (∀ k, Held2 w O f cd ce d B (N + 1 + 1 + 1) X (X + 1) (X + 1 + 1) m s3 p (V2.drewN k) O5 (.slice (some ⟨g5, 0, none⟩) (s3.e.turns + 4) cap5)) := hid (fun k => HH.out.idle ((Step.refl [] V2 O5).drewN k))
    have HPC := hid (HH.out.at hp hl HP.out)
    have HB := hid (fun k => (HND.out k).bit HT.out (by omega) (by omega) 4 m.st Pl 1 (by omega) (by omega) (by omega) (by omega))
    go_upto_region 25 with (fail)
    refine Tail.region_head (fun W => W.cell? ⟨X, 0, none⟩ = some (.slice (some ⟨g5, 0, none⟩) (s3.e.turns + 4) cap5) /\ W.cell? ⟨X, 1, none⟩ = some (.int .u64 s3.e.size)) 6 2 #[true, true, true, true, true, true, false, false] (by kernel_rfl) ⟨by kernel_rfl, by decide, by kernel_rfl, by kernel_rfl, by kernel_rfl⟩ (by kernel_rfl) ⟨c0, c1⟩ (fun ok hHeld => ?_)
    refine Tail.Lst.mk [0, 1, 2, 3] ?_
    iterate 4 (refine Tail.Lst.takeT ok rfl (v := ?_) (Or.inl ⟨by rfl, ?_⟩) ?_; rotate_left; (next => intro w hSw; (try dsimp only at hSw); go_simp; (try with_reducible rfl)); simp only [Act.put, List.getElem_toArray, List.getElem_cons_succ, List.getElem_cons_zero, List.setIfInBounds_toArray, List.set])
    refine Tail.Lst.nil ?_
    refine Tail.head_ready (rs := [4]) (by kernel_rfl) (by simp) (by kernel_rfl) ?_
    refine Tail.AllHead.cons rfl (fun K hK => ?_) Tail.AllHead.nil
    go_simp
    refine (HPC.out _ ⟨1, rfl⟩).mono ?_
    rintro z wl ⟨rfl, kk, rfl⟩
    refine hK.out _ _ ⟨(HND.out kk).one.cells.1, (HND.out kk).one.cells.2.1⟩ (fun hHeld => ?_)
    clear hK K
    try simp only [Act.put, List.setIfInBounds_toArray, List.set]
    refine Tail.tk ok (i := 5) (v := Value.agg #[.int .i64 4, .int .i64 m.st, .int .i64 Pl, .int .i64 0]) rfl (by kernel_rfl) (fun _ _ _ h => h) (Or.inl ⟨by rfl, ?hq25⟩) hHeld ?rq25
    case hq25 => (intro w hSw; go_simp; (try with_reducible rfl))
    try simp only [Act.put, List.setIfInBounds_toArray, List.set]
    refine Tail.head_done rfl ?_
    refine wpAny_ready (rs := [6]) (by kernel_rfl) (by simp) ?_
    refine AllReady.cons rfl (fun K hK => ?_) AllReady.nil
    go_simp
    refine (HB.out kk).mono ?_
    rintro z w8 ⟨g8, cap8, O8, rfl, hN8, ht8, x0, x1, y0, y1⟩
    refine hK _ _ ?_
    clear hK K
    try simp only [Act.put, List.setIfInBounds_toArray, List.set]
    refine wpAny_ready (rs := [7]) (by kernel_rfl) (by simp) ?_
    refine AllReady.cons rfl (fun K hK => ?_) AllReady.nil
    go_simp
    refine hK _ _ ?_
    clear hK K
    try simp only [Act.put, List.setIfInBounds_toArray, List.set]
    refine wpAny_done (by kernel_rfl) ?_ _
    clear c0 c1 f0 f1 x0 x1 y0 y1 HH HT HND HPC HB
    have HH := hid hN8
    have HT := hid ht8
    clear hN8 ht8
    generalize s3.one 4 m.st Pl 1 = s4 at *
    generalize (w8.setCell ⟨X, 0, none⟩ (.slice (some ⟨g8, 0, none⟩) (s4.e.turns + 4) cap8)).setCell ⟨X, 1, none⟩ (.int .u64 s4.e.size) = V3 at *
    clear b0 b1 b2 b3
    obtain ⟨c0, c1, f0, f1⟩ := HH.out.one.cells
    obtain ⟨b0, b1, b2, b3⟩ := HH.out.pcells
    go_wp2_with fail
    refine (HH.out.len HT.out (by omega) (by omega) hp hl HP.out 1 n (by omega) (by omega) p.n HN.out).mono ?_
    rintro z w5 ⟨g5, cap5, O5, rfl, hN5, ht5, x0, x1, y0, y1⟩
    clear c0 c1 f0 f1 HH HT
    generalize s4.len 1 Pl n = s5 at *
    have HH := hid hN5
    have HT := hid ht5
    clear hN5 ht5
    go_wp2_with fail
    go_meet
    obtain rfl := HS.out
    exact ⟨_, _, HH.out.mono (by omega)⟩
  · as_aux_lemma =>
    have k2 : (p.k == 2) = false := by simp [hk]
    have k4 : (p.k == 4) = false := by simp [hk]
    have d0 : (p.d == 0) = false := by simp; omega
    have d1 : (p.d == 1) = true := by simp [hd]
    have HN := hid hn
    clear hk hd hn
    obtain ⟨c0, c1, f0, f1⟩ := HH.out.one.cells
    obtain ⟨b0, b1, b2, b3⟩ := HH.out.pcells
    go_wp2_with fail
    refine (HH.out.bit HT.out (by omega) (by omega) 2 m.st 0 1 (by omega) (by omega) (by omega) (by omega)).mono ?_
    rintro z w5 ⟨g5, cap5, O5, rfl, hN5, ht5, x0, x1, y0, y1⟩
    clear c0 c1 f0 f1 HH HT
    generalize s1.one 2 m.st 0 1 = s2 at *
    have HH := hid hN5
    have HT := hid ht5
    clear hN5 ht5
    go_upto_region 10 with (fail)
    generalize (w5.setCell ⟨X, 0, none⟩ (.slice (some ⟨g5, 0, none⟩) (s2.e.turns + 4) cap5)).setCell ⟨X, 1, none⟩ (.int .u64 s2.e.size) = V1 at *
    clear x0 x1 y0 y1 b0 b1 b2 b3
    obtain ⟨c0, c1, f0, f1⟩ := HH.out.one.cells
    obtain ⟨b0, b1, b2, b3⟩ := HH.out.pcells
    go_wp2_with fail
    refine (HH.out.bit HT.out (by omega) (by omega) 3 m.st 0 1 (by omega) (by omega) (by omega) (by omega)).mono ?_
    rintro z w5 ⟨g5, cap5, O5, rfl, hN5, ht5, x0, x1, y0, y1⟩
    clear c0 c1 f0 f1 HH HT
    generalize s2.one 3 m.st 0 1 = s3 at *
    have HH := hid hN5
    have HT := hid ht5
    clear hN5 ht5
    go_upto_region 11 with (fail)
    generalize (w5.setCell ⟨X, 0, none⟩ (.slice (some ⟨g5, 0, none⟩) (s3.e.turns + 4) cap5)).setCell ⟨X, 1, none⟩ (.int .u64 s3.e.size) = V2 at *
    clear x0 x1 y0 y1 b0 b1 b2 b3
    obtain ⟨c0, c1, f0, f1⟩ := HH.out.one.cells
    obtain ⟨b0, b1, b2, b3⟩ := HH.out.pcells
    go_wp2_with fail
    refine (HH.out.bit HT.out (by omega) (by omega) 5 m.st 0 0 (by omega) (by omega) (by omega) (by omega)).mono ?_
    rintro z w5 ⟨g5, cap5, O5, rfl, hN5, ht5, x0, x1, y0, y1⟩
    clear c0 c1 f0 f1 HH HT
    generalize s3.one 5 m.st 0 0 = s4 at *
    have HH := hid hN5
    have HT := hid ht5
    clear hN5 ht5
    go_upto_region 15 with (fail)
    generalize (w5.setCell ⟨X, 0, none⟩ (.slice (some ⟨g5, 0, none⟩) (s4.e.turns + 4) cap5)).setCell ⟨X, 1, none⟩ (.int .u64 s4.e.size) = V3 at *
    clear x0 x1 y0 y1 b0 b1 b2 b3
    obtain ⟨c0, c1, f0, f1⟩ := HH.out.one.cells
    obtain ⟨b0, b1, b2, b3⟩ := HH.out.pcells
    go_wp2_with fail
    refine (HH.out.len HT.out (by omega) (by omega) hp hl HP.out 1 n (by omega) (by omega) p.n HN.out).mono ?_
    rintro z w5 ⟨g5, cap5, O5, rfl, hN5, ht5, x0, x1, y0, y1⟩
    clear c0 c1 f0 f1 HH HT
    generalize s4.len 1 Pl n = s5 at *
    have HH := hid hN5
    have HT := hid ht5
    clear hN5 ht5
    go_wp2_with fail
    go_meet
    obtain rfl := HS.out
    exact ⟨_, _, HH.out.mono (by omega)⟩
  · as_aux_lemma =>
    have k2 : (p.k == 2) = false := by simp [hk]
    have k4 : (p.k == 4) = false := by simp [hk]
    have d0 : (p.d == 0) = false := by simp; omega
    have d1 : (p.d == 1) = false := by simp; omega
    have hx2 : IntKind.i64.wrap (p.d - 2) = (x : Int) := by rw [hd, IntKind.wrap_i64]; omega
    have hx3 : wrap64 (p.d - 2) = (x : Int) := by rw [hd]; unfold wrap64; omega
    have HN := hid hn
    clear hk hd hn
    obtain ⟨c0, c1, f0, f1⟩ := HH.out.one.cells
    obtain ⟨b0, b1, b2, b3⟩ := HH.out.pcells
    go_wp2_with fail
    refine (HH.out.bit HT.out (by omega) (by omega) 2 m.st 0 1 (by omega) (by omega) (by omega) (by omega)).mono ?_
    rintro z w5 ⟨g5, cap5, O5, rfl, hN5, ht5, x0, x1, y0, y1⟩
    clear c0 c1 f0 f1 HH HT
    generalize s1.one 2 m.st 0 1 = s2 at *
    have HH := hid hN5
    have HT := hid ht5
    clear hN5 ht5
    go_upto_region 10 with (fail)
    generalize (w5.setCell ⟨X, 0, none⟩ (.slice (some ⟨g5, 0, none⟩) (s2.e.turns + 4) cap5)).setCell ⟨X, 1, none⟩ (.int .u64 s2.e.size) = V1 at *
    clear x0 x1 y0 y1 b0 b1 b2 b3
    obtain ⟨c0, c1, f0, f1⟩ := HH.out.one.cells
    obtain ⟨b0, b1, b2, b3⟩ := HH.out.pcells
    go_wp2_with fail
    refine (HH.out.bit HT.out (by omega) (by omega) 3 m.st 0 1 (by omega) (by omega) (by omega) (by omega)).mono ?_
    rintro z w5 ⟨g5, cap5, O5, rfl, hN5, ht5, x0, x1, y0, y1⟩
    clear c0 c1 f0 f1 HH HT
    generalize s2.one 3 m.st 0 1 = s3 at *
    have HH := hid hN5
    have HT := hid ht5
    clear hN5 ht5
    go_upto_region 11 with (fail)
    generalize (w5.setCell ⟨X, 0, none⟩ (.slice (some ⟨g5, 0, none⟩) (s3.e.turns + 4) cap5)).setCell ⟨X, 1, none⟩ (.int .u64 s3.e.size) = V2 at *
    clear x0 x1 y0 y1 b0 b1 b2 b3
    obtain ⟨c0, c1, f0, f1⟩ := HH.out.one.cells
    obtain ⟨b0, b1, b2, b3⟩ := HH.out.pcells
    go_wp2_with fail
    refine (HH.out.bit HT.out (by omega) (by omega) 5 m.st 0 1 (by omega) (by omega) (by omega) (by omega)).mono ?_
    rintro z w5 ⟨g5, cap5, O5, rfl, hN5, ht5, x0, x1, y0, y1⟩
    clear c0 c1 f0 f1 HH HT
    generalize s3.one 5 m.st 0 1 = s4 at *
    have HH := hid hN5
    have HT := hid ht5
    clear hN5 ht5
    go_upto_region 14 with (fail)
    generalize (w5.setCell ⟨X, 0, none⟩ (.slice (some ⟨g5, 0, none⟩) (s4.e.turns + 4) cap5)).setCell ⟨X, 1, none⟩ (.int .u64 s4.e.size) = V3 at *
    clear x0 x1 y0 y1 b0 b1 b2 b3
    obtain ⟨c0, c1, f0, f1⟩ := HH.out.one.cells
    obtain ⟨b0, b1, b2, b3⟩ := HH.out.pcells
    go_wp2_with fail
    refine (HH.out.bit HT.out (by omega) (by omega) 6 m.st 0 x (by omega) (by omega) (by omega) (by omega)).mono ?_
    rintro z w5 ⟨g5, cap5, O5, rfl, hN5, ht5, x0, x1, y0, y1⟩
    clear c0 c1 f0 f1 HH HT
    generalize s4.one 6 m.st 0 x = s5 at *
    have HH := hid hN5
    have HT := hid ht5
    clear hN5 ht5
    go_upto_region 15 with (fail)
    generalize (w5.setCell ⟨X, 0, none⟩ (.slice (some ⟨g5, 0, none⟩) (s5.e.turns + 4) cap5)).setCell ⟨X, 1, none⟩ (.int .u64 s5.e.size) = V4 at *
    clear x0 x1 y0 y1 b0 b1 b2 b3
    obtain ⟨c0, c1, f0, f1⟩ := HH.out.one.cells
    obtain ⟨b0, b1, b2, b3⟩ := HH.out.pcells
    go_wp2_with fail
    refine (HH.out.len HT.out (by omega) (by omega) hp hl HP.out 1 n (by omega) (by omega) p.n HN.out).mono ?_
    rintro z w5 ⟨g5, cap5, O5, rfl, hN5, ht5, x0, x1, y0, y1⟩
    clear c0 c1 f0 f1 HH HT
    generalize s5.len 1 Pl n = s6 at *
    have HH := hid hN5
    have HT := hid ht5
    clear hN5 ht5
    go_wp2_with fail
    go_meet
    obtain rfl := HS.out
    exact ⟨_, _, HH.out.mono (by omega)⟩
 case rest =>
  clear HT HH HW b0 b1 b2 b3
  obtain ⟨v2, O2, hH⟩ := hcut
  have HH := hid hH
  clear hH
  obtain ⟨W9, hWe⟩ : ∃ W', W' = wc := ⟨_, rfl⟩
  rw [<- hWe] at HH ⊢
  clear hWe
  obtain ⟨c0, c1, c2, c3, c4, c5, c6, c7, c8, c9⟩ := ten HH.out.one.doc.blk.1
  obtain ⟨b0, b1, b2, b3⟩ := HH.out.pcells
  obtain ⟨tx, htx⟩ : ∃ tx : ByteArray, tx = ⟨m.l.toArray⟩ := ⟨_, rfl⟩
  rw [<- htx] at c9
  have htz : (tx.size : Int) = (m.l.length : Int) := by rw [htx]; rfl
  have HTX := hid htx
  clear htx
  rw [<- htz] at HBK
  have HTZ := hid htz
  clear htz
  have HS : Hid (∀ W', Below W9.heap.size W9 W' -> Below W9.heap.size W9 W' /\ ((W'.cell? ⟨X + 1, 0, none⟩ = some (.int .i64 p.k) /\ W'.cell? ⟨X + 1, 1, none⟩ = some (.int .i64 p.d) /\ W'.cell? ⟨X + 1, 2, none⟩ = some (.int .i64 p.n) /\ W'.cell? ⟨X + 1, 3, none⟩ = some (.int .u8 p.b)) /\ (W'.cell? ⟨d, 5, none⟩ = some (.int .i64 m.r.a) /\ W'.cell? ⟨d, 6, none⟩ = some (.int .i64 m.r.b) /\ W'.cell? ⟨d, 7, none⟩ = some (.int .i64 m.r.c) /\ W'.cell? ⟨d, 8, none⟩ = some (.int .i64 m.r.d) /\ W'.cell? ⟨d, 9, none⟩ = some (.string tx)))) := hid (fun W' hW => by
   have hI := HH.out.idle (Step.of_below_same hW O2)
   obtain ⟨c0, c1, c2, c3, c4, c5, c6, c7, c8, c9⟩ := ten hI.one.doc.blk.1
   rw [<- HTX.out] at c9
   exact ⟨hW, hI.pcells, c5, c6, c7, c8, c9⟩)
  go_upto_region 27 with (fail)
  go_cut [8, 9, 10, 11] from 158 to 172 (fun z8 z9 z10 z11 wc => ∃ (R : Nat) (O3 : Paint), z8 = .int .i64 dd /\ z9 = .int .i64 nn /\ z10 = .pointer (some ⟨R, 0, none⟩) /\ z11 = .bool true /\ Held2 w O f cd ce d B (N + 90) X (X + 1) (X + 1 + 1) m s9 p wc O3 v2 /\ Blk wc O3 f R (.cells #[.int .i64 r'.a, .int .i64 r'.b, .int .i64 r'.c, .int .i64 r'.d] 50 (0, 0)) /\ R ≠ d)
  case first =>
   as_aux_lemma =>
   obtain ⟨h0, ⟨b0, b1, b2, b3⟩, c5, c6, c7, c8, c9⟩ := HS.out W9 (Below.refl _ _)
   go_region_held3 (fun W' => Below W9.heap.size W9 W' /\ ((W'.cell? ⟨X + 1, 0, none⟩ = some (.int .i64 p.k) /\ W'.cell? ⟨X + 1, 1, none⟩ = some (.int .i64 p.d) /\ W'.cell? ⟨X + 1, 2, none⟩ = some (.int .i64 p.n) /\ W'.cell? ⟨X + 1, 3, none⟩ = some (.int .u8 p.b)) /\ (W'.cell? ⟨d, 5, none⟩ = some (.int .i64 m.r.a) /\ W'.cell? ⟨d, 6, none⟩ = some (.int .i64 m.r.b) /\ W'.cell? ⟨d, 7, none⟩ = some (.int .i64 m.r.c) /\ W'.cell? ⟨d, 8, none⟩ = some (.int .i64 m.r.d) /\ W'.cell? ⟨d, 9, none⟩ = some (.string tx)))) ((refine HS.out _ ?_; repeat (first | assumption | exact Below.refl _ _ | refine Pk.bel_drew ?_ | refine Pk.bel_alloc _ ?_ | (refine Pk.bel_set _ (by first | exact Nat.le_refl _ | exact hz6) ?_) | (refine Pk.bel_new (by assumption) ?_)))) (first | (go_at_call 15; (with_reducible refine (HBK.out _).mono ?_); rintro z w6 ⟨rfl, hb6⟩; first | (have hzr := (hb6.block W9.heap.size (lt_of_heap (heap_alloc_new W9 (.cells #[.int .i64 0, .int .i64 0, .int .i64 0, .int .i64 0] 50)))).trans (heap_alloc_new W9 (.cells #[.int .i64 0, .int .i64 0, .int .i64 0, .int .i64 0] 50)); obtain ⟨⟨a0, a1, a2, a3⟩, ⟨e0, e1, e2, e3⟩, _⟩ := Pk.four hzr) | (have hz6 : W9.heap.size <= w6.heap.size := hb6.size; have hzr := heap_alloc_new w6 (.cells #[.int .i64 0, .int .i64 0, .int .i64 0, .int .i64 0] 50); obtain ⟨⟨a0, a1, a2, a3⟩, ⟨e0, e1, e2, e3⟩, _⟩ := Pk.four hzr)))
   have hdl := HH.out.one.doc.blk.lt
   skip
   all_goals first
    | (have hz6 : W9.heap.size <= w6.heap.size := by assumption
       have hbV := Pk.bel_alloc (.cells #[.int .i64 r'.a, .int .i64 r'.b, .int .i64 r'.c, .int .i64 r'.d] 50) (Pk.bel_new hb6 ((Below.refl W9.heap.size W9).drew))
       have HN := hid (HH.out.idle (Step.of_below hbV O2 f))
       have HB4 : Hid (Blk _ (Step.paint O2 W9 f) f w6.heap.size (.cells #[.int .i64 r'.a, .int .i64 r'.b, .int .i64 r'.c, .int .i64 r'.d] 50 (0, 0))) := hid ⟨heap_alloc_new w6 (.cells #[.int .i64 r'.a, .int .i64 r'.b, .int .i64 r'.c, .int .i64 r'.d] 50), Step.paint_new hz6⟩
       have HRD := hid (show w6.heap.size ≠ d by have := HH.out.one.doc.blk.lt; omega)
       clear hbV hzr a0 a1 a2 a3 e0 e1 e2 e3 hb6 HBK HS
       go_wp2_with fail
       go_meet
       exact ⟨_, _, rfl, rfl, rfl, rfl, HN.out, HB4.out, HRD.out⟩)
    | (have hb0 := Pk.bel_new hb6 (Below.drew (Pk.bel_alloc (.cells #[.int .i64 0, .int .i64 0, .int .i64 0, .int .i64 0] 50) (Below.refl W9.heap.size W9)))
       have hbV := Pk.bel_set (p := ⟨W9.heap.size, 3, none⟩) (.int .i64 r'.d) (Nat.le_refl _) (Pk.bel_set (p := ⟨W9.heap.size, 2, none⟩) (.int .i64 r'.c) (Nat.le_refl _) (Pk.bel_set (p := ⟨W9.heap.size, 1, none⟩) (.int .i64 r'.b) (Nat.le_refl _) (Pk.bel_set (p := ⟨W9.heap.size, 0, none⟩) (.int .i64 r'.a) (Nat.le_refl _) hb0)))
       have HN := hid (HH.out.idle (Step.of_below hbV O2 f))
       have h0 : Blk w6 (Step.paint O2 W9 f) f W9.heap.size (.cells #[.int .i64 0, .int .i64 0, .int .i64 0, .int .i64 0] 50 (0, 0)) := ⟨hzr, Step.paint_new (Nat.le_refl _)⟩
       have h1 := (((h0.setCell 0 (.int .i64 r'.a)).setCell 1 (.int .i64 r'.b)).setCell 2 (.int .i64 r'.c)).setCell 3 (.int .i64 r'.d)
       simp at h1
       have HB4 := hid h1
       have HRD := hid (show W9.heap.size ≠ d by have := HH.out.one.doc.blk.lt; omega)
       clear hbV hzr a0 a1 a2 a3 e0 e1 e2 e3 hb6 HBK HS h0 h1 hb0
       go_wp2_with fail
       go_meet
       exact ⟨_, _, rfl, rfl, rfl, rfl, HN.out, HB4.out, HRD.out⟩)
  case rest =>
   clear b0 b1 b2 b3 c0 c1 c2 c3 c4 c5 c6 c7 c8 c9 HH HS HBK
   obtain ⟨R, O3, rfl, rfl, rfl, rfl, hH, hBR, hRd⟩ := hcut
   have HH := hid hH
   have HBR := hid hBR
   have HRD := hid hRd
   clear hH hBR hRd
   obtain ⟨W20, hWe⟩ : ∃ W', W' = wc := ⟨_, rfl⟩
   rw [<- hWe] at HH HBR ⊢
   clear hWe
   go_wp2_with fail
   go_loopw [12] (fun i wr => ∃ j : Nat, j <= nn /\ i = .int .i64 j /\ Held2 w O f cd ce d B (N + 90) X (X + 1) (X + 1 + 1) { m with l := Wnd.copied m.l dd j } s9 p wr O3 v2 /\ Blk wr O3 f R (.cells #[.int .i64 r'.a, .int .i64 r'.b, .int .i64 r'.c, .int .i64 r'.d] 50 (0, 0))) (fun i _ => nn - (intOf i).toNat)
   case atStart => exact ⟨0, by omega, rfl, HH.out, HBR.out⟩
   case round =>
    clear HH HBR
    obtain ⟨j, hj, rfl, hL, hBR⟩ := hrel
    have HL := hid hL
    have HBR := hid hBR
    clear hL hBR
    by_cases hlt : j < nn
    · skip
      have hcl := Wnd.copied_length m.l dd j
      have HGT := hid (grow_text m.l dd j hd1 hd2)
      have c9 := (ten HL.out.one.doc.blk.1).2.2.2.2.2.2.2.2.2
      have fz := HL.out.one.doc.blk.free 9
      have HN := hid (HL.out.setText (Wnd.copied m.l dd (j + 1)))
      obtain ⟨U, hU⟩ : ∃ U : ByteArray, U = ⟨(Wnd.copied m.l dd j).toArray⟩ := ⟨_, rfl⟩
      have hUs : (U.size : Int) = ((m.l.length + j : Nat) : Int) := by
       rw [hU, <- hcl]
       rfl
      have HGT2 := hid (HGT.out U hU)
      dsimp only at c9
      rw [<- hU] at c9
      rw [<- HGT2.out] at HN
      clear hU hcl HGT HGT2
      obtain ⟨q, hq⟩ : ∃ q : Nat, q = m.l.length + j - dd := ⟨_, rfl⟩
      have hw1 : IntKind.i64.wrap ((U.size : Int) - (dd : Int)) = (q : Int) := by rw [IntKind.wrap_i64]; omega
      have hw2 : IntKind.i64.wrap ((q : Int) + 1) = (q : Int) + 1 := by rw [IntKind.wrap_i64]; omega
      have hq1 : (q : Int) + 1 <= (U.size : Int) := by omega
      have hq0 : (0 : Int) <= (q : Int) := by omega
      have hq2 : (q : Int) <= (q : Int) + 1 := by omega
      have hq3 : (0 : Int) <= (q : Int) + 1 := by omega
      have hUB : (U.size : Int) <= 2000000000 := by omega
      have hUN : U.size <= 2000000000 := by omega
      have hU6 : U.size <= 9223372036854775806 := by omega
      have hUX : (U.extract q (q + 1)).size = 1 := by
       rw [ByteArray.size_extract]
       omega
      have hUY : ∀ a b, U.size + (U.extract a b).size <= 9223372036854775807 := by
       intro a b
       rw [ByteArray.size_extract]
       omega
      have hUZ : ∀ a b, U.size + (min b U.size - a) <= 9223372036854775807 := by intro a b; omega
      have HQ := hid (show U.size - dd = q by omega)
      rw [HQ.out] at HN
      clear hq hUs
      go_upto_region 31 with (fail)
      refine Tail.region_head (fun W => W.cell? ⟨d, 9, none⟩ = some (.string U)) 25 3 #[true, true, true, true, true, true, true, true, true, true, true, true, true, true, true, true, true, true, true, true, true, true, true, true, true, false, false, false] (by kernel_rfl) ⟨by kernel_rfl, by decide, by kernel_rfl, by kernel_rfl, by kernel_rfl⟩ (by kernel_rfl) c9 (fun ok hHeld => ?_)
      refine Tail.Lst.mk [0, 1, 2, 3, 4, 5, 6, 7, 8, 9, 10, 11, 12, 13, 14, 15, 16, 17, 18, 19, 20, 21, 22, 23] ?_
      iterate 24 (refine Tail.Lst.takeT ok rfl (v := ?_) (Or.inl ⟨by rfl, ?_⟩) ?_; rotate_left; (next => intro w hSw; (try dsimp only at hSw); go_simp; (try with_reducible rfl)); simp only [Act.put, List.getElem_toArray, List.getElem_cons_succ, List.getElem_cons_zero, List.setIfInBounds_toArray, List.set])
      refine Tail.Lst.nil ?_
      refine Tail.tk ok (i := 24) (v := Value.string (U ++ U.extract q (q + 1))) rfl (by kernel_rfl) (fun _ _ _ h => h) (Or.inl ⟨by rfl, ?hz24⟩) hHeld ?rz24
      case hz24 => (intro w hSw; go_simp; (try rw [run_string_add_sum _ _ _ (hUY _ _)]); (try with_reducible rfl))
      try simp only [Act.put, List.setIfInBounds_toArray, List.set]
      refine Tail.head_done rfl ?_
      refine wpAny_ready (rs := [25]) (by kernel_rfl) (by simp) ?_
      refine AllReady.cons rfl (fun K hK => ?_) AllReady.nil
      go_simp
      refine hK _ _ ?_
      clear hK K
      try simp only [Act.put, List.setIfInBounds_toArray, List.set]
      refine wpAny_ready (rs := [26]) (by kernel_rfl) (by simp) ?_
      refine AllReady.cons rfl (fun K hK => ?_) AllReady.nil
      go_simp
      refine hK _ _ ?_
      clear hK K
      try simp only [Act.put, List.setIfInBounds_toArray, List.set]
      refine wpAny_ready (rs := [27]) (by kernel_rfl) (by simp) ?_
      refine AllReady.cons rfl (fun K hK => ?_) AllReady.nil
      go_simp
      refine hK _ _ ?_
      clear hK K
      try simp only [Act.put, List.setIfInBounds_toArray, List.set]
      refine wpAny_done (by kernel_rfl) ?_ _
      have HN2 := hid (HN.out.idle ((Step.refl [] _ O3).drew))
      have HBR2 : Hid (Blk _ O3 f R (.cells #[.int .i64 r'.a, .int .i64 r'.b, .int .i64 r'.c, .int .i64 r'.d] 50 (0, 0))) := hid ((HBR.out.setCell_other (p := ⟨d, 9, none⟩) (Ne.symm HRD.out) (.string (U ++ U.extract q (q + 1)))).step ((Step.refl [] _ O3).drew) (by simp))
      clear HN HBR HL c9 fz hUY hUZ hUX hU6
      go_wp2_with fail
      go_roundw
      case rel => exact ⟨j + 1, by omega, by go_num, HN2.out, HBR2.out⟩
      case measure => simp [intOf]; omega
    · obtain rfl : j = nn := by omega
      skip
      obtain ⟨n0, n1⟩ := St.nxt_in (s := (m.st : Int)) (k := p.k) (by omega) (by omega)
      have HNX := hid (St.ref_any (m.st : Int) p.k (by omega) (by omega))
      have HNV : Hid (St.nxt (m.st : Int) p.k = ((St.nxt (m.st : Int) p.k).toNat : Int)) := hid (by omega)
      rw [HNV.out] at HNX
      clear n0 n1
      generalize (St.nxt (m.st : Int) p.k).toNat = ns at *
      obtain ⟨⟨a0, a1, a2, a3⟩, _, _⟩ := Pk.four HBR.out.1
      obtain ⟨b0, b1, b2, b3⟩ := HL.out.pcells
      have HM := hid (((HL.out.setReps r').setSt ns).idle ((Step.refl [] _ O3).drew))
      have fz4 := HL.out.one.doc.blk.free 4
      have fz5 := HL.out.one.doc.blk.free 5
      have fz6 := HL.out.one.doc.blk.free 6
      have fz7 := HL.out.one.doc.blk.free 7
      have fz8 := HL.out.one.doc.blk.free 8
      obtain ⟨c0, c1, c2, c3, c4, c5, c6, c7, c8, c9⟩ := ten HL.out.one.doc.blk.1
      go_upto_region 32 with (fail)
      have HL5 := HL.out.setReps r'
      have HB5 := (((HBR.out.setCell_other (p := ⟨d, 5, none⟩) (Ne.symm HRD.out) (.int .i64 r'.a)).setCell_other (p := ⟨d, 6, none⟩) (Ne.symm HRD.out) (.int .i64 r'.b)).setCell_other (p := ⟨d, 7, none⟩) (Ne.symm HRD.out) (.int .i64 r'.c)).setCell_other (p := ⟨d, 8, none⟩) (Ne.symm HRD.out) (.int .i64 r'.d)
      have HS5 := hid (And.intro (Pk.four HB5.1).1 HL5.pcells.1)
      have gz4 := HL5.one.doc.blk.free 4
      have g4 := (ten HL5.one.doc.blk.1).2.2.2.2.1
      dsimp only at g4
      clear HL5 HB5
      refine Tail.region_head (fun W => (W.cell? ⟨R, 0, none⟩ = some (.int .i64 r'.a) /\ W.cell? ⟨R, 1, none⟩ = some (.int .i64 r'.b) /\ W.cell? ⟨R, 2, none⟩ = some (.int .i64 r'.c) /\ W.cell? ⟨R, 3, none⟩ = some (.int .i64 r'.d)) /\ W.cell? ⟨X + 1, 0, none⟩ = some (.int .i64 p.k)) 10 3 #[true, true, true, true, true, true, true, true, true, true, false, false, false] (by kernel_rfl) ⟨by kernel_rfl, by decide, by kernel_rfl, by kernel_rfl, by kernel_rfl⟩ (by kernel_rfl) ⟨⟨a0, a1, a2, a3⟩, b0⟩ (fun ok hHeld => ?_)
      refine Tail.Lst.mk [0, 1, 2, 3, 4, 5] ?_
      iterate 6 (refine Tail.Lst.takeT ok rfl (v := ?_) (Or.inl ⟨by rfl, ?_⟩) ?_; rotate_left; (next => intro w hSw; (try dsimp only at hSw); go_simp; (try with_reducible rfl)); simp only [Act.put, List.getElem_toArray, List.getElem_cons_succ, List.getElem_cons_zero, List.setIfInBounds_toArray, List.set])
      refine Tail.Lst.nil ?_
      refine Tail.head_ready (rs := [6]) (by kernel_rfl) (by simp) (by kernel_rfl) ?_
      refine Tail.AllHead.cons rfl (fun K hK => ?_) Tail.AllHead.nil
      go_simp
      refine (HNX.out _).mono ?_
      rintro z w6 ⟨rfl, rfl⟩
      refine hK.out _ _ (by first | assumption | exact hHeld) (fun hHeld => ?_)
      clear hK K
      try simp only [Act.put, List.setIfInBounds_toArray, List.set]
      refine Tail.Lst.mk [7, 8] ?_
      iterate 2 (refine Tail.Lst.takeT ok rfl (v := ?_) (Or.inl ⟨by rfl, ?_⟩) ?_; rotate_left; (next => intro w hSw; (try dsimp only at hSw); go_simp; (try with_reducible rfl)); simp only [Act.put, List.getElem_toArray, List.getElem_cons_succ, List.getElem_cons_zero, List.setIfInBounds_toArray, List.set])
      refine Tail.Lst.nil ?_
      refine Tail.head_ready (rs := [9]) (by kernel_rfl) (by simp) (by kernel_rfl) ?_
      refine Tail.AllHead.cons rfl (fun K hK => ?_) Tail.AllHead.nil
      go_simp
      refine hK.out _ _ HS5.out (fun hHeld => ?_)
      clear hK K
      try simp only [Act.put, List.setIfInBounds_toArray, List.set]
      refine Tail.head_done rfl ?_
      refine wpAny_ready (rs := [10]) (by kernel_rfl) (by simp) ?_
      refine AllReady.cons rfl (fun K hK => ?_) AllReady.nil
      go_simp
      refine hK _ _ ?_
      clear hK K
      try simp only [Act.put, List.setIfInBounds_toArray, List.set]
      refine wpAny_ready (rs := [11]) (by kernel_rfl) (by simp) ?_
      refine AllReady.cons rfl (fun K hK => ?_) AllReady.nil
      go_simp
      refine hK _ _ ?_
      clear hK K
      try simp only [Act.put, List.setIfInBounds_toArray, List.set]
      refine wpAny_ready (rs := [12]) (by kernel_rfl) (by simp) ?_
      refine AllReady.cons rfl (fun K hK => ?_) AllReady.nil
      go_simp
      refine hK _ _ ?_
      clear hK K
      try simp only [Act.put, List.setIfInBounds_toArray, List.set]
      refine wpAny_done (by kernel_rfl) ?_ _
      generalize (((((wr.setCell ⟨d, 5, none⟩ (.int .i64 r'.a)).setCell ⟨d, 6, none⟩ (.int .i64 r'.b)).setCell ⟨d, 7, none⟩ (.int .i64 r'.c)).setCell ⟨d, 8, none⟩ (.int .i64 r'.d)).setCell ⟨d, 4, none⟩ (.int .i64 ns)).drew = W30 at *
      clear HL HBR HS5 gz4 g4 a0 a1 a2 a3 b0 b1 b2 b3 fz4 fz5 fz6 fz7 fz8 c0 c1 c2 c3 c4 c5 c6 c7 c8 c9 HNX HNV
      obtain ⟨gz, capz, rfl⟩ := HM.out.one.enc.form
      obtain ⟨c0, c1, f0, f1⟩ := HM.out.one.cells
      obtain ⟨z0, z1, y0, y1⟩ := HM.out.one.cellsZ
      go_wp2_with fail
      obtain ⟨W, hW, r0, r1, hr⟩ := HM.out.one.done
      rw [hW]
      have HR := hid hr
      clear hW c0 c1 f0 f1 z0 z1 y0 y1 hr HM
      refine bodyPost_ret (v := .agg #[.slice (some ⟨gz, 0, none⟩) (s9.e.turns + 4) capz, .int .u64 s9.e.size]) ?_ rfl ?_
      · simp [results, Tryz.results16, go_sem, r0, r1]
      · have HRR := HR.out.mono (show N + 90 <= N + 100 by omega)
        skip
        exact HRR
end
end Go.Proofs.YtfpoabeihpfeiaaGreat.Dc
