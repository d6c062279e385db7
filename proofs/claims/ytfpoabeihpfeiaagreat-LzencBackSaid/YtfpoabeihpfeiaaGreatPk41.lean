/-
  The document's model of layer 10: the place as it counts; a length.
  The document's model of layer 10: a distance.
  The document's model of layer 10: a distance whose bits are direct but for the last four.
-/
import Derived.Test.YtfpoabeihpfeiaaGreatPk27
import Derived.Test.YtfpoabeihpfeiaaGreatPk40
import Derived.Deep.RegionHeld3
set_option maxRecDepth 100000
set_option maxHeartbeats 16000000
set_option linter.unusedVariables false
set_option linter.unusedSimpArgs false
open Go.Lib (hid)
section
namespace Go.Proofs.YtfpoabeihpfeiaaGreat.Dc
open Go.RowKit Go.Maps
open Rc Mo
open Pk (Rp)
section
variable {w : World} {O : Paint} {d B N cd ce : Nat} {m : Ms} {Q : Qs} {v : Value} {e : Enc}
theorem size_text (l : List UInt8) : ((⟨l.toArray⟩ : ByteArray).size : Int) = (l.length : Int) := rfl
theorem here_lt (m : Ms) (hp : m.pb <= 4) : m.here < 16 := by
 have h1 : 2 ^ m.pb <= 2 ^ 4 := Nat.pow_le_pow_right (by omega) hp
 have h2 : m.here < 2 ^ m.pb := Nat.mod_lt _ (Nat.two_pow_pos _)
 omega
theorem dplace_any (h : DocAt w O cd d B N m Q) (hp : m.pb <= 4) (hl : m.l.length <= 1000000000) :
  Calls Tryz.prog 36 #[.pointer (some ⟨d, 0, none⟩)] w fun x w' => x = .returned (.int .i64 m.here) /\ ∃ n, w' = w.drewN n := by
 have hT : Hid (Int.tmod (m.l.length : Int) ((2 ^ m.pb : Nat) : Int) = (m.here : Int)) := hid (by
  rw [Int.tmod_eq_emod_of_nonneg (by omega)]; exact (Int.natCast_emod _ _).symm)
 have hq : 0 < 2 ^ m.pb := Nat.two_pow_pos m.pb
 have HPW := hid (fun W => power_any m.pb (by omega) W)
 have hh := here_lt m hp
 obtain ⟨c0, c1, c2, c3, c4, c5, c6, c7, c8, c9⟩ := ten h.blk.1
 have hz := size_text m.l
 clear h
 have hT2 := hT.out
 clear hT
 generalize (⟨m.l.toArray⟩ : ByteArray) = tx at *
 generalize 2 ^ m.pb = q at *
 have hqi : (q : Int) ≠ 0 := by omega
 rw [<- hz] at hT2
 have hzb : (tx.size : Int) <= 1000000000 := by omega
 generalize m.here = P at *
 clear hz
 go_enter Tryz.func36, Tryz.ntmps36
 go_upto_region 1 with (fail)
 go_quiet ((go_at_call 58; exact Calls.quiet_of_same (still (HPW.out _))))
 go_wp2_with fail
 go_ret
 exact ⟨rfl, _, rfl⟩
theorem Held1.place {w0 : World} {O0 : Paint} {f X Z : Nat} {s : Es} (h : Held1 w0 O0 f cd ce d B N X Z m s w O v) (hp : m.pb <= 4) (hl : m.l.length <= 1000000000) (n : Nat) :
  Calls Tryz.prog 36 #[.pointer (some ⟨d, 0, none⟩)] (w.drewN n) fun x w' => x = .returned (.int .i64 m.here) /\ ∃ k, w' = (w.drewN n).drewN k := dplace_any (h.doc.drewN n) hp hl
theorem DocTo.mono {w0 w' : World} {O0 : Paint} {cd ce d B N N' : Nat} {m : Ms} {s : Es} {x : Ending} (h : DocTo w0 O0 cd ce d B N m s x w') (hN : N <= N') : DocTo w0 O0 cd ce d B N' m s x w' := by
 obtain ⟨v', O', h1, h2, h3, h4⟩ := h
 exact ⟨v', O', h1, h2, h3.mono hN, h4⟩
theorem l210 (u P : Nat) (hu : u <= 1) : 2 ^ 3 <= tlen (210 + u) P := by
 have : u = 0 \/ u = 1 := by omega
 rcases this with rfl | rfl <;> exact Nat.le_of_ble_eq_true rfl
theorem l220 (u P : Nat) (hu : u <= 1) : 2 ^ 3 <= tlen (220 + u) P := by
 have : u = 0 \/ u = 1 := by omega
 rcases this with rfl | rfl <;> exact Nat.le_of_ble_eq_true rfl
theorem l230 (u : Nat) (hu : u <= 1) : 2 ^ 8 <= tlen (230 + u) 0 := by
 have : u = 0 \/ u = 1 := by omega
 rcases this with rfl | rfl <;> exact Nat.le_of_ble_eq_true rfl
theorem turns_one {s : Es} {T : Nat} (h : s.e.turns <= T) (a b c v : Nat) : (s.one a b c v).e.turns <= T + 3 := by have := s.one_turns a b c v; omega
theorem dlen_near (h : DocAt w O cd d B N m Q) (he : EncV w O ce v e) (hne : cd ≠ ce) (ht : e.turns <= 700000) (hp : m.pb <= 4) (hl : m.l.length <= 1000000000) {u n : Nat} (hu : u <= 1) (hn : n <= 271) (hN : N <= 800000000) (h8 : n < 8) :
  Calls Tryz.prog 39 #[.pointer (some ⟨d, 0, none⟩), .agg #[v, .int .u64 e.size], .int .i64 u, .int .i64 ((n : Int) + 2)] w (DocTo w O cd ce d B (N + 10) m ((⟨e, Q⟩ : Es).len u m.here n)) := by
 have HLE : Hid ((⟨e, Q⟩ : Es).len u m.here n = ((⟨e, Q⟩ : Es).one (200 + u) 0 0 0).num (210 + u) m.here 3 n) := hid (by unfold Es.len; rw [if_pos h8])
 obtain ⟨f, hH⟩ := Held1.start h he hne
 have HH := hid hH
 have hh := here_lt m hp
 have HPL : Hid (∀ (w0 wr : World) (O0 O' : Paint) (f X Z : Nat) (N' : Nat) (s : Es) (v' : Value), Held1 w0 O0 f cd ce d B N' X Z m s wr O' v' -> ∀ W, (∃ k, W = wr.drewN k) -> Calls Tryz.prog 36 #[.pointer (some ⟨d, 0, none⟩)] W fun x w' => x = .returned (.int .i64 m.here) /\ ∃ k, w' = wr.drewN k) := hid (fun w0 wr O0 O' f X Z N' s v' hL W hW => by
  obtain ⟨k, rfl⟩ := hW
  refine (hL.place hp hl k).mono ?_
  rintro x w' ⟨rfl, k', rfl⟩
  exact ⟨rfl, k + k', by simp [World.drewN, Nat.add_assoc]⟩)
 have hw0 : IntKind.i64.wrap ((n : Int) + 2 - 2) = (n : Int) := by rw [IntKind.wrap_i64]; omega
 have hw1 : IntKind.i64.wrap (200 + (u : Int)) = ((200 + u : Nat) : Int) := by rw [IntKind.wrap_i64]; omega
 have hw2 : IntKind.i64.wrap (210 + (u : Int)) = ((210 + u : Nat) : Int) := by rw [IntKind.wrap_i64]; omega
 have hw3 : IntKind.i64.wrap (220 + (u : Int)) = ((220 + u : Nat) : Int) := by rw [IntKind.wrap_i64]; omega
 have hw4 : IntKind.i64.wrap (230 + (u : Int)) = ((230 + u : Nat) : Int) := by rw [IntKind.wrap_i64]; omega
 have hw5 : IntKind.i64.wrap ((n : Int) - 8) = (n : Int) - 8 := by rw [IntKind.wrap_i64]; omega
 have hw6 : IntKind.i64.wrap ((n : Int) - 16) = (n : Int) - 16 := by rw [IntKind.wrap_i64]; omega
 have HT0 : Hid ((⟨e, Q⟩ : Es).e.turns <= 700000) := hid ht
 rw [HLE.out]
 clear h he hH HLE
 generalize hs0 : (⟨e, Q⟩ : Es) = s0 at *
 clear hs0
 generalize m.here = Pl at *
 go_enter Tryz.func39, Tryz.ntmps39
 go_upto_region 2 with (fail)
 generalize (w.alloc (.cells #[v, .int .u64 e.size] 46)).alloc (.cells #[.slice none 0 0, .int .u64 0] 46) = W1 at *
 generalize Step.paint O w f = O1 at *
 generalize w.heap.size = X at *
 have hd : decide ((n : Int) < 8) = true := by rw [decide_eq_true_eq]; omega
 obtain ⟨g, cap, rfl⟩ := HH.out.enc.form
 obtain ⟨c0, c1, f0, f1⟩ := HH.out.cells
 have HTN : Hid ((s0.one (200 + u) 0 0 0).e.turns <= 700003) := hid (turns_one HT0.out _ _ _ _)
 have HB := hid (show Calls Tryz.prog 35 #[.pointer (some ⟨d, 0, none⟩), .agg #[.slice (some ⟨g, 0, none⟩) (s0.e.turns + 4) cap, .int .u64 s0.e.size], .agg #[.int .i64 ((200 + u : Nat) : Int), .int .i64 0, .int .i64 0, .int .i64 0], .int .i64 0] W1 (DocTo W1 O1 cd ce d B (N + 1) m (s0.one (200 + u) 0 0 0)) from dbit_any HH.out.doc HH.out.enc HH.out.n3 (by have := HT0.out; omega) (a := 200 + u) (b := 0) (c := 0) (x := 0) (by omega) (by omega) (by omega) (by omega) (by omega))
 go_wp2_with fail
 refine HB.out.mono ?_
 rintro z w5 ⟨v5, O5, rfl, hs5, hd5, he5⟩
 obtain ⟨g5, cap5, rfl⟩ := he5.form
 have HN5 := hid (HH.out.next hs5 hd5 he5)
 clear c0 c1 f0 f1
 obtain ⟨c0, c1, f0, f1⟩ := HH.out.cells2 hs5
 clear hs5 hd5 he5 HH HB HT0
 generalize s0.one (200 + u) 0 0 0 = s1 at *
 go_upto_region 4 with (fail)
 generalize (w5.setCell ⟨X, 0, none⟩ (.slice (some ⟨g5, 0, none⟩) (s1.e.turns + 4) cap5)).setCell ⟨X, 1, none⟩ (.int .u64 s1.e.size) = W6 at *
 clear c0 c1 f0 f1
 obtain ⟨c0, c1, f0, f1⟩ := HN5.out.cells
 obtain ⟨z0, z1, y0, y1⟩ := HN5.out.cellsZ
 have HND : Hid (∀ k, Held1 w O f cd ce d B (N + 1) X (X + 1) m s1 (W6.drewN k) O5 (.slice (some ⟨g5, 0, none⟩) (s1.e.turns + 4) cap5)) := hid (fun k => HN5.out.idle ((Step.refl [] W6 O5).drewN k))
 have HPC := hid (HPL.out _ _ _ _ _ _ _ _ _ _ HN5.out)
 have HTR : Hid (∀ k, Calls Tryz.prog 59 #[.pointer (some ⟨d, 0, none⟩), .agg #[.slice (some ⟨g5, 0, none⟩) (s1.e.turns + 4) cap5, .int .u64 s1.e.size], .int .i64 (210 + (u : Int)), .int .i64 Pl, .int .i64 3, .int .i64 n, .bool false] (W6.drewN k) (DocTo (W6.drewN k) O5 cd ce d B (N + 1 + 3) m (s1.num (210 + u) Pl 3 n))) := hid (fun k =>
  dtree_any (HND.out k).doc (HND.out k).enc (HND.out k).n3 (by have := HTN.out; omega) (a := 210 + u) (b := Pl) (n := 3) (x := n) (len := tlen (210 + u) Pl) false (l210 u Pl hu) (by omega) (by omega) (by omega) (by omega) (by omega))
 clear HPL HTN
 go_region_held3 (fun W => W.cell? ⟨X, 0, none⟩ = some (.slice (some ⟨g5, 0, none⟩) (s1.e.turns + 4) cap5) /\ W.cell? ⟨X, 1, none⟩ = some (.int .u64 s1.e.size)) (first | exact ⟨c0, c1⟩ | exact ⟨T0.out, T1.out⟩ | go_keep) (first | (go_at_call 36; (with_reducible refine (HPC.out _ (by first | exact ⟨1, rfl⟩ | exact ⟨_, rfl⟩)).mono ?_); rintro z wl ⟨rfl, kk, rfl⟩; have T0 := hid (HND.out kk).cells.1; have T1 := hid (HND.out kk).cells.2.1) | (go_at_call 59; (with_reducible refine (HTR.out _).mono ?_); rintro z w8 ⟨v8, O8, rfl, hs8, hd8, he8⟩; obtain ⟨g8, cap8, rfl⟩ := he8.form; have T0 := hid ((HND.out kk).cells2 hs8).1; have T1 := hid ((HND.out kk).cells2 hs8).2.1; obtain ⟨x0, x1, b0, b1⟩ := (HND.out kk).cellsZ2 hs8))
 all_goals
  go_wp2_with fail
  obtain ⟨W, hW, r0, r1, hr⟩ := (HND.out kk).ret hs8 hd8 he8
  rw [hW]
  have HR := hid hr
  clear hW HND hs8 hd8 he8 c0 c1 f0 f1 z0 z1 y0 y1 x0 x1 b0 b1 T0 T1 hr
  refine bodyPost_ret (v := .agg #[.slice (some ⟨g8, 0, none⟩) ((s1.num (210 + u) Pl 3 n).e.turns + 4) cap8, .int .u64 ((s1.num (210 + u) Pl 3 n).e.size : Int)]) ?_ rfl (HR.out.mono (by omega))
  simp [results, Tryz.results39, go_sem, r0, r1]
theorem dlen_mid (h : DocAt w O cd d B N m Q) (he : EncV w O ce v e) (hne : cd ≠ ce) (ht : e.turns <= 700000) (hp : m.pb <= 4) (hl : m.l.length <= 1000000000) {u n : Nat} (hu : u <= 1) (hn : n <= 271) (hN : N <= 800000000) (h8 : ¬ n < 8) (h16 : n < 16) :
  Calls Tryz.prog 39 #[.pointer (some ⟨d, 0, none⟩), .agg #[v, .int .u64 e.size], .int .i64 u, .int .i64 ((n : Int) + 2)] w (DocTo w O cd ce d B (N + 10) m ((⟨e, Q⟩ : Es).len u m.here n)) := by
 have HLE : Hid ((⟨e, Q⟩ : Es).len u m.here n = (((⟨e, Q⟩ : Es).one (200 + u) 0 0 1).one (200 + u) 1 0 0).num (220 + u) m.here 3 (n - 8)) := hid (by unfold Es.len; rw [if_neg h8, if_pos h16])
 obtain ⟨f, hH⟩ := Held1.start h he hne
 have HH := hid hH
 have hh := here_lt m hp
 have HPL : Hid (∀ (w0 wr : World) (O0 O' : Paint) (f X Z : Nat) (N' : Nat) (s : Es) (v' : Value), Held1 w0 O0 f cd ce d B N' X Z m s wr O' v' -> ∀ W, (∃ k, W = wr.drewN k) -> Calls Tryz.prog 36 #[.pointer (some ⟨d, 0, none⟩)] W fun x w' => x = .returned (.int .i64 m.here) /\ ∃ k, w' = wr.drewN k) := hid (fun w0 wr O0 O' f X Z N' s v' hL W hW => by
  obtain ⟨k, rfl⟩ := hW
  refine (hL.place hp hl k).mono ?_
  rintro x w' ⟨rfl, k', rfl⟩
  exact ⟨rfl, k + k', by simp [World.drewN, Nat.add_assoc]⟩)
 have hw0 : IntKind.i64.wrap ((n : Int) + 2 - 2) = (n : Int) := by rw [IntKind.wrap_i64]; omega
 have hw1 : IntKind.i64.wrap (200 + (u : Int)) = ((200 + u : Nat) : Int) := by rw [IntKind.wrap_i64]; omega
 have hw2 : IntKind.i64.wrap (210 + (u : Int)) = ((210 + u : Nat) : Int) := by rw [IntKind.wrap_i64]; omega
 have hw3 : IntKind.i64.wrap (220 + (u : Int)) = ((220 + u : Nat) : Int) := by rw [IntKind.wrap_i64]; omega
 have hw4 : IntKind.i64.wrap (230 + (u : Int)) = ((230 + u : Nat) : Int) := by rw [IntKind.wrap_i64]; omega
 have hw5 : IntKind.i64.wrap ((n : Int) - 8) = (n : Int) - 8 := by rw [IntKind.wrap_i64]; omega
 have hw6 : IntKind.i64.wrap ((n : Int) - 16) = (n : Int) - 16 := by rw [IntKind.wrap_i64]; omega
 have HT0 : Hid ((⟨e, Q⟩ : Es).e.turns <= 700000) := hid ht
 rw [HLE.out]
 clear h he hH HLE
 generalize hs0 : (⟨e, Q⟩ : Es) = s0 at *
 clear hs0
 generalize m.here = Pl at *
 go_enter Tryz.func39, Tryz.ntmps39
 go_upto_region 2 with (fail)
 generalize (w.alloc (.cells #[v, .int .u64 e.size] 46)).alloc (.cells #[.slice none 0 0, .int .u64 0] 46) = W1 at *
 generalize Step.paint O w f = O1 at *
 generalize w.heap.size = X at *
 have hd : decide ((n : Int) < 8) = false := by rw [decide_eq_false_iff_not]; omega
 have hd2 : decide ((n : Int) < 16) = true := by rw [decide_eq_true_eq]; omega
 obtain ⟨g, cap, rfl⟩ := HH.out.enc.form
 obtain ⟨c0, c1, f0, f1⟩ := HH.out.cells
 have HTN : Hid ((s0.one (200 + u) 0 0 1).e.turns <= 700003) := hid (turns_one HT0.out _ _ _ _)
 have HB := hid (show Calls Tryz.prog 35 #[.pointer (some ⟨d, 0, none⟩), .agg #[.slice (some ⟨g, 0, none⟩) (s0.e.turns + 4) cap, .int .u64 s0.e.size], .agg #[.int .i64 ((200 + u : Nat) : Int), .int .i64 0, .int .i64 0, .int .i64 0], .int .i64 1] W1 (DocTo W1 O1 cd ce d B (N + 1) m (s0.one (200 + u) 0 0 1)) from dbit_any HH.out.doc HH.out.enc HH.out.n3 (by have := HT0.out; omega) (a := 200 + u) (b := 0) (c := 0) (x := 1) (by omega) (by omega) (by omega) (by omega) (by omega))
 go_wp2_with fail
 refine HB.out.mono ?_
 rintro z w5 ⟨v5, O5, rfl, hs5, hd5, he5⟩
 obtain ⟨g5, cap5, rfl⟩ := he5.form
 have HN5 := hid (HH.out.next hs5 hd5 he5)
 clear c0 c1 f0 f1
 obtain ⟨c0, c1, f0, f1⟩ := HH.out.cells2 hs5
 clear hs5 hd5 he5 HH HB HT0
 generalize s0.one (200 + u) 0 0 1 = s1 at *
 go_upto_region 6 with (fail)
 generalize (w5.setCell ⟨X, 0, none⟩ (.slice (some ⟨g5, 0, none⟩) (s1.e.turns + 4) cap5)).setCell ⟨X, 1, none⟩ (.int .u64 s1.e.size) = W5 at *
 clear c0 c1 f0 f1
 obtain ⟨c0, c1, f0, f1⟩ := HN5.out.cells
 have HTM : Hid ((s1.one (200 + u) 1 0 0).e.turns <= 700006) := hid (turns_one HTN.out _ _ _ _)
 have HB := hid (show Calls Tryz.prog 35 #[.pointer (some ⟨d, 0, none⟩), .agg #[.slice (some ⟨g5, 0, none⟩) (s1.e.turns + 4) cap5, .int .u64 s1.e.size], .agg #[.int .i64 ((200 + u : Nat) : Int), .int .i64 1, .int .i64 0, .int .i64 0], .int .i64 0] W5 (DocTo W5 O5 cd ce d B (N + 1 + 1) m (s1.one (200 + u) 1 0 0)) from dbit_any HN5.out.doc HN5.out.enc HN5.out.n3 (by have := HTN.out; omega) (a := 200 + u) (b := 1) (c := 0) (x := 0) (by omega) (by omega) (by omega) (by omega) (by omega))
 go_wp2_with fail
 refine HB.out.mono ?_
 rintro z w7 ⟨v7, O7, rfl, hs7, hd7, he7⟩
 obtain ⟨g7, cap7, rfl⟩ := he7.form
 have HN7 := hid (HN5.out.next hs7 hd7 he7)
 clear c0 c1 f0 f1
 obtain ⟨c0, c1, f0, f1⟩ := HN5.out.cells2 hs7
 clear hs7 hd7 he7 HB HN5 HTN
 generalize s1.one (200 + u) 1 0 0 = s2 at *
 go_upto_region 8 with (fail)
 generalize (w7.setCell ⟨X, 0, none⟩ (.slice (some ⟨g7, 0, none⟩) (s2.e.turns + 4) cap7)).setCell ⟨X, 1, none⟩ (.int .u64 s2.e.size) = W6 at *
 clear c0 c1 f0 f1
 obtain ⟨c0, c1, f0, f1⟩ := HN7.out.cells
 obtain ⟨z0, z1, y0, y1⟩ := HN7.out.cellsZ
 have HND : Hid (∀ k, Held1 w O f cd ce d B (N + 1 + 1) X (X + 1) m s2 (W6.drewN k) O7 (.slice (some ⟨g7, 0, none⟩) (s2.e.turns + 4) cap7)) := hid (fun k => HN7.out.idle ((Step.refl [] W6 O7).drewN k))
 have HPC := hid (HPL.out _ _ _ _ _ _ _ _ _ _ HN7.out)
 have hx8 : ((n - 8 : Nat) : Int) = (n : Int) - 8 := by omega
 have HTR : Hid (∀ k, Calls Tryz.prog 59 #[.pointer (some ⟨d, 0, none⟩), .agg #[.slice (some ⟨g7, 0, none⟩) (s2.e.turns + 4) cap7, .int .u64 s2.e.size], .int .i64 (220 + (u : Int)), .int .i64 Pl, .int .i64 3, .int .i64 ((n : Int) - 8), .bool false] (W6.drewN k) (DocTo (W6.drewN k) O7 cd ce d B (N + 1 + 1 + 3) m (s2.num (220 + u) Pl 3 (n - 8)))) := hid (fun k =>
  hx8 ▸ dtree_any (HND.out k).doc (HND.out k).enc (HND.out k).n3 (by have := HTM.out; omega) (a := 220 + u) (b := Pl) (n := 3) (x := n - 8) (len := tlen (220 + u) Pl) false (l220 u Pl hu) (by omega) (by omega) (by omega) (by omega) (by omega))
 clear HPL HTM
 go_region_held3 (fun W => W.cell? ⟨X, 0, none⟩ = some (.slice (some ⟨g7, 0, none⟩) (s2.e.turns + 4) cap7) /\ W.cell? ⟨X, 1, none⟩ = some (.int .u64 s2.e.size)) (first | exact ⟨c0, c1⟩ | exact ⟨T0.out, T1.out⟩ | go_keep) (first | (go_at_call 36; (with_reducible refine (HPC.out _ (by first | exact ⟨1, rfl⟩ | exact ⟨_, rfl⟩)).mono ?_); rintro z wl ⟨rfl, kk, rfl⟩; have T0 := hid (HND.out kk).cells.1; have T1 := hid (HND.out kk).cells.2.1) | (go_at_call 59; (with_reducible refine (HTR.out _).mono ?_); rintro z w8 ⟨v8, O8, rfl, hs8, hd8, he8⟩; obtain ⟨g8, cap8, rfl⟩ := he8.form; have T0 := hid ((HND.out kk).cells2 hs8).1; have T1 := hid ((HND.out kk).cells2 hs8).2.1; obtain ⟨x0, x1, b0, b1⟩ := (HND.out kk).cellsZ2 hs8))
 all_goals
  go_wp2_with fail
  obtain ⟨W, hW, r0, r1, hr⟩ := (HND.out kk).ret hs8 hd8 he8
  rw [hW]
  have HR := hid hr
  clear hW HND hs8 hd8 he8 c0 c1 f0 f1 z0 z1 y0 y1 x0 x1 b0 b1 T0 T1 hr
  refine bodyPost_ret (v := .agg #[.slice (some ⟨g8, 0, none⟩) ((s2.num (220 + u) Pl 3 (n - 8)).e.turns + 4) cap8, .int .u64 ((s2.num (220 + u) Pl 3 (n - 8)).e.size : Int)]) ?_ rfl (HR.out.mono (by omega))
  simp [results, Tryz.results39, go_sem, r0, r1]
theorem dlen_far (h : DocAt w O cd d B N m Q) (he : EncV w O ce v e) (hne : cd ≠ ce) (ht : e.turns <= 700000) (hp : m.pb <= 4) (hl : m.l.length <= 1000000000) {u n : Nat} (hu : u <= 1) (hn : n <= 271) (hN : N <= 800000000) (h8 : ¬ n < 8) (h16 : ¬ n < 16) :
  Calls Tryz.prog 39 #[.pointer (some ⟨d, 0, none⟩), .agg #[v, .int .u64 e.size], .int .i64 u, .int .i64 ((n : Int) + 2)] w (DocTo w O cd ce d B (N + 10) m ((⟨e, Q⟩ : Es).len u m.here n)) := by
 have HLE : Hid ((⟨e, Q⟩ : Es).len u m.here n = (((⟨e, Q⟩ : Es).one (200 + u) 0 0 1).one (200 + u) 1 0 1).num (230 + u) 0 8 (n - 16)) := hid (by unfold Es.len; rw [if_neg h8, if_neg h16])
 obtain ⟨f, hH⟩ := Held1.start h he hne
 have HH := hid hH
 have hh := here_lt m hp
 have HPL : Hid (∀ (w0 wr : World) (O0 O' : Paint) (f X Z : Nat) (N' : Nat) (s : Es) (v' : Value), Held1 w0 O0 f cd ce d B N' X Z m s wr O' v' -> ∀ W, (∃ k, W = wr.drewN k) -> Calls Tryz.prog 36 #[.pointer (some ⟨d, 0, none⟩)] W fun x w' => x = .returned (.int .i64 m.here) /\ ∃ k, w' = wr.drewN k) := hid (fun w0 wr O0 O' f X Z N' s v' hL W hW => by
  obtain ⟨k, rfl⟩ := hW
  refine (hL.place hp hl k).mono ?_
  rintro x w' ⟨rfl, k', rfl⟩
  exact ⟨rfl, k + k', by simp [World.drewN, Nat.add_assoc]⟩)
 have hw0 : IntKind.i64.wrap ((n : Int) + 2 - 2) = (n : Int) := by rw [IntKind.wrap_i64]; omega
 have hw1 : IntKind.i64.wrap (200 + (u : Int)) = ((200 + u : Nat) : Int) := by rw [IntKind.wrap_i64]; omega
 have hw2 : IntKind.i64.wrap (210 + (u : Int)) = ((210 + u : Nat) : Int) := by rw [IntKind.wrap_i64]; omega
 have hw3 : IntKind.i64.wrap (220 + (u : Int)) = ((220 + u : Nat) : Int) := by rw [IntKind.wrap_i64]; omega
 have hw4 : IntKind.i64.wrap (230 + (u : Int)) = ((230 + u : Nat) : Int) := by rw [IntKind.wrap_i64]; omega
 have hw5 : IntKind.i64.wrap ((n : Int) - 8) = (n : Int) - 8 := by rw [IntKind.wrap_i64]; omega
 have hw6 : IntKind.i64.wrap ((n : Int) - 16) = (n : Int) - 16 := by rw [IntKind.wrap_i64]; omega
 have HT0 : Hid ((⟨e, Q⟩ : Es).e.turns <= 700000) := hid ht
 rw [HLE.out]
 clear h he hH HLE
 generalize hs0 : (⟨e, Q⟩ : Es) = s0 at *
 clear hs0
 generalize m.here = Pl at *
 go_enter Tryz.func39, Tryz.ntmps39
 go_upto_region 2 with (fail)
 generalize (w.alloc (.cells #[v, .int .u64 e.size] 46)).alloc (.cells #[.slice none 0 0, .int .u64 0] 46) = W1 at *
 generalize Step.paint O w f = O1 at *
 generalize w.heap.size = X at *
 have hd : decide ((n : Int) < 8) = false := by rw [decide_eq_false_iff_not]; omega
 have hd2 : decide ((n : Int) < 16) = false := by rw [decide_eq_false_iff_not]; omega
 obtain ⟨g, cap, rfl⟩ := HH.out.enc.form
 obtain ⟨c0, c1, f0, f1⟩ := HH.out.cells
 have HTN : Hid ((s0.one (200 + u) 0 0 1).e.turns <= 700003) := hid (turns_one HT0.out _ _ _ _)
 have HB := hid (show Calls Tryz.prog 35 #[.pointer (some ⟨d, 0, none⟩), .agg #[.slice (some ⟨g, 0, none⟩) (s0.e.turns + 4) cap, .int .u64 s0.e.size], .agg #[.int .i64 ((200 + u : Nat) : Int), .int .i64 0, .int .i64 0, .int .i64 0], .int .i64 1] W1 (DocTo W1 O1 cd ce d B (N + 1) m (s0.one (200 + u) 0 0 1)) from dbit_any HH.out.doc HH.out.enc HH.out.n3 (by have := HT0.out; omega) (a := 200 + u) (b := 0) (c := 0) (x := 1) (by omega) (by omega) (by omega) (by omega) (by omega))
 go_wp2_with fail
 refine HB.out.mono ?_
 rintro z w5 ⟨v5, O5, rfl, hs5, hd5, he5⟩
 obtain ⟨g5, cap5, rfl⟩ := he5.form
 have HN5 := hid (HH.out.next hs5 hd5 he5)
 clear c0 c1 f0 f1
 obtain ⟨c0, c1, f0, f1⟩ := HH.out.cells2 hs5
 clear hs5 hd5 he5 HH HB HT0
 generalize s0.one (200 + u) 0 0 1 = s1 at *
 go_upto_region 6 with (fail)
 generalize (w5.setCell ⟨X, 0, none⟩ (.slice (some ⟨g5, 0, none⟩) (s1.e.turns + 4) cap5)).setCell ⟨X, 1, none⟩ (.int .u64 s1.e.size) = W5 at *
 clear c0 c1 f0 f1
 obtain ⟨c0, c1, f0, f1⟩ := HN5.out.cells
 have HTM : Hid ((s1.one (200 + u) 1 0 1).e.turns <= 700006) := hid (turns_one HTN.out _ _ _ _)
 have HB := hid (show Calls Tryz.prog 35 #[.pointer (some ⟨d, 0, none⟩), .agg #[.slice (some ⟨g5, 0, none⟩) (s1.e.turns + 4) cap5, .int .u64 s1.e.size], .agg #[.int .i64 ((200 + u : Nat) : Int), .int .i64 1, .int .i64 0, .int .i64 0], .int .i64 1] W5 (DocTo W5 O5 cd ce d B (N + 1 + 1) m (s1.one (200 + u) 1 0 1)) from dbit_any HN5.out.doc HN5.out.enc HN5.out.n3 (by have := HTN.out; omega) (a := 200 + u) (b := 1) (c := 0) (x := 1) (by omega) (by omega) (by omega) (by omega) (by omega))
 go_wp2_with fail
 refine HB.out.mono ?_
 rintro z w7 ⟨v7, O7, rfl, hs7, hd7, he7⟩
 obtain ⟨g7, cap7, rfl⟩ := he7.form
 have HN7 := hid (HN5.out.next hs7 hd7 he7)
 clear c0 c1 f0 f1
 obtain ⟨c0, c1, f0, f1⟩ := HN5.out.cells2 hs7
 clear hs7 hd7 he7 HB HN5 HTN
 generalize s1.one (200 + u) 1 0 1 = s2 at *
 go_upto_region 10 with (fail)
 generalize (w7.setCell ⟨X, 0, none⟩ (.slice (some ⟨g7, 0, none⟩) (s2.e.turns + 4) cap7)).setCell ⟨X, 1, none⟩ (.int .u64 s2.e.size) = W6 at *
 clear c0 c1 f0 f1
 obtain ⟨c0, c1, f0, f1⟩ := HN7.out.cells
 obtain ⟨z0, z1, y0, y1⟩ := HN7.out.cellsZ
 have HND : Hid (∀ k, Held1 w O f cd ce d B (N + 1 + 1) X (X + 1) m s2 (W6.drewN k) O7 (.slice (some ⟨g7, 0, none⟩) (s2.e.turns + 4) cap7)) := hid (fun k => HN7.out.idle ((Step.refl [] W6 O7).drewN k))
 have HPC := hid (HPL.out _ _ _ _ _ _ _ _ _ _ HN7.out)
 have hx8 : ((n - 16 : Nat) : Int) = (n : Int) - 16 := by omega
 have HTR : Hid (∀ k, Calls Tryz.prog 59 #[.pointer (some ⟨d, 0, none⟩), .agg #[.slice (some ⟨g7, 0, none⟩) (s2.e.turns + 4) cap7, .int .u64 s2.e.size], .int .i64 (230 + (u : Int)), .int .i64 0, .int .i64 8, .int .i64 ((n : Int) - 16), .bool false] (W6.drewN k) (DocTo (W6.drewN k) O7 cd ce d B (N + 1 + 1 + 8) m (s2.num (230 + u) 0 8 (n - 16)))) := hid (fun k =>
  hx8 ▸ dtree_any (HND.out k).doc (HND.out k).enc (HND.out k).n3 (by have := HTM.out; omega) (a := 230 + u) (b := 0) (n := 8) (x := n - 16) (len := tlen (230 + u) 0) false (l230 u hu) (by omega) (by omega) (by omega) (by omega) (by omega))
 clear HPL HTM
 go_wp2_with fail
 refine (HTR.out 0).mono ?_
 rintro z w8 ⟨v8, O8, rfl, hs8, hd8, he8⟩
 obtain ⟨g8, cap8, rfl⟩ := he8.form
 obtain ⟨x0, x1, b0, b1⟩ := (HND.out 0).cellsZ2 hs8
 obtain ⟨kk, hkk⟩ : ∃ kk : Nat, kk = 0 := ⟨0, rfl⟩
 rw [<- hkk] at hs8
 have T0 := trivial
 have T1 := trivial
 clear hkk
 all_goals
  go_wp2_with fail
  obtain ⟨W, hW, r0, r1, hr⟩ := (HND.out kk).ret hs8 hd8 he8
  rw [hW]
  have HR := hid hr
  clear hW HND hs8 hd8 he8 c0 c1 f0 f1 z0 z1 y0 y1 x0 x1 b0 b1 T0 T1 hr
  refine bodyPost_ret (v := .agg #[.slice (some ⟨g8, 0, none⟩) ((s2.num (230 + u) 0 8 (n - 16)).e.turns + 4) cap8, .int .u64 ((s2.num (230 + u) 0 8 (n - 16)).e.size : Int)]) ?_ rfl (HR.out.mono (by omega))
  simp [results, Tryz.results39, go_sem, r0, r1]
theorem dlen_any (h : DocAt w O cd d B N m Q) (he : EncV w O ce v e) (hne : cd ≠ ce) (ht : e.turns <= 700000) (hp : m.pb <= 4) (hl : m.l.length <= 1000000000) {u n : Nat} (hu : u <= 1) (hn : n <= 271) (hN : N <= 800000000) :
  Calls Tryz.prog 39 #[.pointer (some ⟨d, 0, none⟩), .agg #[v, .int .u64 e.size], .int .i64 u, .int .i64 ((n : Int) + 2)] w (DocTo w O cd ce d B (N + 10) m ((⟨e, Q⟩ : Es).len u m.here n)) := by
 by_cases h8 : n < 8
 · exact dlen_near h he hne ht hp hl hu hn hN h8
 · by_cases h16 : n < 16
   · exact dlen_mid h he hne ht hp hl hu hn hN h8 h16
   · exact dlen_far h he hne ht hp hl hu hn hN h8 h16
end
end Go.Proofs.YtfpoabeihpfeiaaGreat.Dc
end
section
namespace Go.Proofs.YtfpoabeihpfeiaaGreat.Dc
open Go.RowKit Go.Maps
open Rc Mo
open Pk (Rp)
theorem bk_none (s : Es) (a b v : Nat) : s.bk a b 0 v = s := by
 unfold Es.bk Es.tr
 show Es.mk s.e (qset s.q a b (tl s.q a b (tlen a b))) = s
 rw [qset_tl]
section
variable {w : World} {O : Paint} {d B N cd ce : Nat} {m : Ms} {Q : Qs} {v : Value} {e : Enc}
def Dist1 (w0 : World) (O0 : Paint) (f cd ce d B N X : Nat) (m : Ms) (s : Es) (g cap : Nat) (wr : World) (O' : Paint) : Prop := Held1 w0 O0 f cd ce d B N X (X + 1) m s wr O' (.slice (some ⟨g, 0, none⟩) (s.e.turns + 4) cap)
theorem ddist_near (h : DocAt w O cd d B N m Q) (he : EncV w O ce v e) (hne : cd ≠ ce) (ht : e.turns <= 700000) {n x : Nat} (hn : n <= 271) (hx : x < 4294967296) (hN : N <= 800000000) (hs : St.slot x < 14) :
  Calls Tryz.prog 40 #[.pointer (some ⟨d, 0, none⟩), .agg #[v, .int .u64 e.size], .int .u64 x, .int .i64 ((n : Int) + 2)] w (DocTo w O cd ce d B (N + 40) m ((⟨e, Q⟩ : Es).dist (cls n) x)) := by
 have HLE : Hid ((⟨e, Q⟩ : Es).dist (cls n) x = ((⟨e, Q⟩ : Es).num 300 (cls n) 6 (St.slot x)).bk 310 (St.slot x) (St.more (St.slot x)) (x - St.base (St.slot x))) := hid (by unfold Es.dist; rw [if_pos hs])
 obtain ⟨f, hH⟩ := Held1.start h he hne
 have HH := hid hH
 have hw0 : IntKind.i64.wrap ((n : Int) + 2 - 2) = (n : Int) := by rw [IntKind.wrap_i64]; omega
 have hcl : cls n = if 3 < n then 3 else n := by unfold cls; split <;> omega
 have HT0 : Hid ((⟨e, Q⟩ : Es).e.turns <= 700000) := hid ht
 have hbs := St.base_slot x
 have hsl := St.slot_lt hx
 have hmo := (more_le (St.slot x) hsl).2.2 hs
 have HSL := hid (fun W => St.refslot_any x hx W)
 have HBA := hid (fun W => St.refbase_any (St.slot x) hsl W)
 rw [HLE.out]
 clear h he hH HLE
 generalize hs0 : (⟨e, Q⟩ : Es) = s0 at *
 clear hs0
 have hc3 : cls n <= 3 := by unfold cls; omega
 generalize cls n = cl at *
 generalize St.slot x = sl at *
 have HL3 : Hid (2 ^ St.more sl <= tlen 310 sl) := hid (by rw [show tlen 310 sl = 2 ^ St.more sl from rfl]; omega)
 have HL0 : Hid (2 ^ 6 <= tlen 300 cl) := hid (by rw [show tlen 300 cl = 64 from rfl]; omega)
 have hb64 : St.base sl <= 96 := base_small sl hs
 generalize hMO : St.more sl = mo at *
 generalize St.base sl = ba at *
 have hr : x - ba < 64 := by
  have : 2 ^ mo <= 2 ^ 5 := Nat.pow_le_pow_right (by omega) hmo
  omega
 have hwr : IntKind.u64.wrap ((x : Int) - (ba : Int)) = ((x - ba : Nat) : Int) := by
  rw [IntKind.wrap_u64]; omega
 have hwc : IntKind.i64.wrap ((x - ba : Nat) : Int) = ((x - ba : Nat) : Int) := by rw [IntKind.wrap_i64]; omega
 generalize hxr : x - ba = xr at *
 go_enter Tryz.func40, Tryz.ntmps40
 go_upto_region 2 with (fail)
 generalize (w.alloc (.cells #[v, .int .u64 e.size] 46)).alloc (.cells #[.slice none 0 0, .int .u64 0] 46) = W1 at *
 generalize Step.paint O w f = O1 at *
 generalize w.heap.size = X at *
 obtain ⟨g, cap, rfl⟩ := HH.out.enc.form
 obtain ⟨c0, c1, f0, f1⟩ := HH.out.cells
 have HND : Hid (∀ k, Held1 w O f cd ce d B N X (X + 1) m s0 (W1.drewN k) O1 (.slice (some ⟨g, 0, none⟩) (s0.e.turns + 4) cap)) := hid (fun k => HH.out.idle ((Step.refl [] W1 O1).drewN k))
 have HT1 : Hid ((s0.num 300 cl 6 sl).e.turns <= 700018) := hid (by have := s0.tr_turns false 300 cl (tlen 300 cl) 6 sl; have := HT0.out; show (s0.tr false 300 cl (tlen 300 cl) 6 sl).e.turns <= _; omega)
 have HTR : Hid (∀ k, Calls Tryz.prog 59 #[.pointer (some ⟨d, 0, none⟩), .agg #[.slice (some ⟨g, 0, none⟩) (s0.e.turns + 4) cap, .int .u64 s0.e.size], .int .i64 300, .int .i64 cl, .int .i64 6, .int .i64 sl, .bool false] (W1.drewN k) (DocTo (W1.drewN k) O1 cd ce d B (N + 6) m (s0.num 300 cl 6 sl))) := hid (fun k =>
  dtree_any (HND.out k).doc (HND.out k).enc (HND.out k).n3 (by have := HT0.out; omega) (a := 300) (b := cl) (n := 6) (x := sl) (len := tlen 300 cl) false HL0.out (by omega) (by omega) (by omega) (by omega) (by omega))
 clear HT0 HL0 HH
 by_cases h3 : 3 < n
 case' pos =>
  have hcc : cl = 3 := by rw [hcl, if_pos h3]
  have hd : decide ((3 : Int) < (n : Int)) = true := by rw [decide_eq_true_eq]; omega
 case' neg =>
  have hcc : cl = n := by rw [hcl, if_neg h3]
  have hd : decide ((3 : Int) < (n : Int)) = false := by rw [decide_eq_false_iff_not]; omega
 all_goals
  subst hcc
  clear hcl
  go_wp2_with fail
  refine (HSL.out _).mono ?_
  rintro z w4 ⟨rfl, k4, rfl⟩
  obtain ⟨c0, c1, f0, f1⟩ := (HND.out k4).cells
  go_wp2_with fail
  refine (HTR.out k4).mono ?_
  rintro z w5 ⟨v5, O5, rfl, hs5, hd5, he5⟩
  obtain ⟨g5, cap5, rfl⟩ := he5.form
  have HN5 := hid ((HND.out k4).next hs5 hd5 he5)
  clear c0 c1 f0 f1
  obtain ⟨c0, c1, f0, f1⟩ := (HND.out k4).cells2 hs5
  clear hs5 hd5 he5 HTR HND
  generalize s0.num 300 _ 6 sl = s1 at *
  go_upto_region 6 with (fail)
  generalize (w5.setCell ⟨X, 0, none⟩ (.slice (some ⟨g5, 0, none⟩) (s1.e.turns + 4) cap5)).setCell ⟨X, 1, none⟩ (.int .u64 s1.e.size) = W6 at *
  clear c0 c1 f0 f1
  have HND := hid (fun k => HN5.out.idle ((Step.refl [] W6 O5).drewN k))
  go_wp2_with fail
  refine (HBA.out _).mono ?_
  rintro z w7 ⟨rfl, k7, rfl⟩
  obtain ⟨c0, c1, f0, f1⟩ := (HND.out k7).cells
  obtain ⟨z0, z1, y0, y1⟩ := (HND.out k7).cellsZ
  by_cases h4 : sl < 4
  · have hm0 : mo = 0 := by rw [<- hMO]; unfold St.more; rw [if_pos h4]
    subst hm0
    have HBK := hid (bk_none s1 310 sl xr)
    as_aux_lemma =>
    have hd4 : decide ((sl : Int) < 4) = true := by rw [decide_eq_true_eq]; omega
    go_wp2_with fail
    obtain ⟨W, hW, r0, r1, hr⟩ := (HND.out k7).done
    rw [hW]
    have HR := hid hr
    clear hW HND c0 c1 f0 f1 z0 z1 y0 y1 hr HN5
    refine bodyPost_ret (v := .agg #[.slice (some ⟨g5, 0, none⟩) (s1.e.turns + 4) cap5, .int .u64 s1.e.size]) ?_ rfl (by rw [HBK.out]; exact HR.out.mono (by omega))
    simp [results, Tryz.results40, go_sem, r0, r1]
  · have HT2 : Hid (Calls Tryz.prog 59 #[.pointer (some ⟨d, 0, none⟩), .agg #[.slice (some ⟨g5, 0, none⟩) (s1.e.turns + 4) cap5, .int .u64 s1.e.size], .int .i64 310, .int .i64 sl, .int .i64 mo, .int .i64 xr, .bool true] (W6.drewN k7) (DocTo (W6.drewN k7) O5 cd ce d B (N + 6 + mo) m (s1.bk 310 sl mo xr))) := hid (
     dtree_any (HND.out k7).doc (HND.out k7).enc (HND.out k7).n3 (by have := HT1.out; omega) (a := 310) (b := sl) (n := mo) (x := xr) (len := tlen 310 sl) true HL3.out (by omega) (by omega) (by omega) (by omega) (by omega))
    as_aux_lemma =>
    have hd4 : decide ((sl : Int) < 4) = false := by rw [decide_eq_false_iff_not]; omega
    have hd14 : decide ((sl : Int) < 14) = true := by rw [decide_eq_true_eq]; omega
    go_wp2_with fail
    refine HT2.out.mono ?_
    rintro z w8 ⟨v8, O8, rfl, hs8, hd8, he8⟩
    obtain ⟨g8, cap8, rfl⟩ := he8.form
    obtain ⟨x0, x1, b0, b1⟩ := (HND.out k7).cellsZ2 hs8
    clear z0 z1 y0 y1 c0 c1 f0 f1
    go_wp2_with fail
    obtain ⟨W, hW, r0, r1, hr⟩ := (HND.out k7).ret hs8 hd8 he8
    rw [hW]
    have HR := hid hr
    clear hW HND hs8 hd8 he8 x0 x1 b0 b1 hr HN5 HT2
    refine bodyPost_ret (v := .agg #[.slice (some ⟨g8, 0, none⟩) ((s1.bk 310 sl mo xr).e.turns + 4) cap8, .int .u64 ((s1.bk 310 sl mo xr).e.size : Int)]) ?_ rfl (HR.out.mono (by omega))
    simp [results, Tryz.results40, go_sem, r0, r1]
end
end Go.Proofs.YtfpoabeihpfeiaaGreat.Dc
end
section
namespace Go.Proofs.YtfpoabeihpfeiaaGreat.Dc
open Go.RowKit Go.Maps
open Rc Mo
open Pk (Rp)
theorem ddirect_any {w : World} {O : Paint} {ce : Nat} {v : Value} {e : Enc} (h : EncV w O ce v e) (ht : e.turns <= 999990) (b : Nat) (hb : b <= 1) :
  Calls Tryz.prog 62 #[.agg #[v, .int .u64 e.size], .int .i64 b] w fun x w' => ∃ v' O', x = .returned (.agg #[v', .int .u64 ((e.direct b).size : Int)]) /\ Step [] w O w' O' /\ EncV w' O' ce v' (e.direct b) := by
 have key : Calls Tryz.prog 62 #[.agg #[v, .int .u64 e.size], .int .i64 b] w (Gives w v (e.direct b)) := by
  have : b = 0 \/ b = 1 := by omega
  rcases this with h0 | h1
  · exact direct0_any h.row h.fine ht b h0
  · exact direct1_any h.row h.fine ht b h1
 refine key.mono ?_
 rintro x w' ⟨v', rfl, hrow, hb', hm⟩
 exact ⟨v', Step.paint O w ce, rfl, Step.of_below hb' O ce, h.new hrow (fine_direct h.fine b) hm⟩
theorem bit_high {x i : Nat} (hi : 4 <= i) : x / 2 ^ i % 2 = bitAt (x / 16) (i - 4) := by
 unfold bitAt
 rw [Nat.div_div_eq_div_mul, show 16 * 2 ^ (i - 4) = 2 ^ i from by rw [show (16 : Nat) = 2 ^ 4 from rfl, <- Nat.pow_add]; congr 1; omega]
section
variable {w : World} {O : Paint} {d B N cd ce : Nat} {m : Ms} {Q : Qs} {v : Value} {e : Enc}
theorem ddist_far (h : DocAt w O cd d B N m Q) (he : EncV w O ce v e) (hne : cd ≠ ce) (ht : e.turns <= 700000) {n x : Nat} (hn : n <= 271) (hx : x < 4294967296) (hN : N <= 800000000) (hs : 14 <= St.slot x) :
  Calls Tryz.prog 40 #[.pointer (some ⟨d, 0, none⟩), .agg #[v, .int .u64 e.size], .int .u64 x, .int .i64 ((n : Int) + 2)] w (DocTo w O cd ce d B (N + 40) m ((⟨e, Q⟩ : Es).dist (cls n) x)) := by
 have HLE : Hid ((⟨e, Q⟩ : Es).dist (cls n) x = ((⟨e, Q⟩ : Es).num 300 (cls n) 6 (St.slot x)).far (x - St.base (St.slot x)) (St.more (St.slot x))) := hid (by unfold Es.dist; rw [if_neg (by omega)])
 obtain ⟨f, hH⟩ := Held1.start h he hne
 have HH := hid hH
 have hw0 : IntKind.i64.wrap ((n : Int) + 2 - 2) = (n : Int) := by rw [IntKind.wrap_i64]; omega
 have hcl : cls n = if 3 < n then 3 else n := by unfold cls; split <;> omega
 have HT0 : Hid ((⟨e, Q⟩ : Es).e.turns <= 700000) := hid ht
 have hbs := St.base_slot x
 have hsl := St.slot_lt hx
 have hmo6 := (more_le (St.slot x) hsl).2.1 hs
 have hmo := (more_le (St.slot x) hsl).1
 have HSL := hid (fun W => St.refslot_any x hx W)
 have HBA := hid (fun W => St.refbase_any (St.slot x) hsl W)
 rw [HLE.out]
 clear h he hH HLE
 generalize hs0 : (⟨e, Q⟩ : Es) = s0 at *
 clear hs0
 have hc3 : cls n <= 3 := by unfold cls; omega
 generalize cls n = cl at *
 generalize St.slot x = sl at *
 have HL0 : Hid (2 ^ 6 <= tlen 300 cl) := hid (by rw [show tlen 300 cl = 64 from rfl]; omega)
 generalize hMO : St.more sl = mo at *
 generalize St.base sl = ba at *
 have hr : x - ba < 1073741824 := by
  have : 2 ^ mo <= 2 ^ 30 := Nat.pow_le_pow_right (by omega) hmo
  omega
 have hwr : IntKind.u64.wrap ((x : Int) - (ba : Int)) = ((x - ba : Nat) : Int) := by
  rw [IntKind.wrap_u64]; omega
 have hwc : IntKind.i64.wrap ((x - ba : Nat) : Int) = ((x - ba : Nat) : Int) := by rw [IntKind.wrap_i64]; omega
 generalize hxr : x - ba = xr at *
 go_enter Tryz.func40, Tryz.ntmps40
 go_upto_region 2 with (fail)
 generalize (w.alloc (.cells #[v, .int .u64 e.size] 46)).alloc (.cells #[.slice none 0 0, .int .u64 0] 46) = W1 at *
 generalize Step.paint O w f = O1 at *
 generalize w.heap.size = X at *
 obtain ⟨g, cap, rfl⟩ := HH.out.enc.form
 obtain ⟨c0, c1, f0, f1⟩ := HH.out.cells
 have HND : Hid (∀ k, Held1 w O f cd ce d B N X (X + 1) m s0 (W1.drewN k) O1 (.slice (some ⟨g, 0, none⟩) (s0.e.turns + 4) cap)) := hid (fun k => HH.out.idle ((Step.refl [] W1 O1).drewN k))
 have HT1 : Hid ((s0.num 300 cl 6 sl).e.turns <= 700018) := hid (by have := s0.tr_turns false 300 cl (tlen 300 cl) 6 sl; have := HT0.out; show (s0.tr false 300 cl (tlen 300 cl) 6 sl).e.turns <= _; omega)
 have HTR : Hid (∀ k, Calls Tryz.prog 59 #[.pointer (some ⟨d, 0, none⟩), .agg #[.slice (some ⟨g, 0, none⟩) (s0.e.turns + 4) cap, .int .u64 s0.e.size], .int .i64 300, .int .i64 cl, .int .i64 6, .int .i64 sl, .bool false] (W1.drewN k) (DocTo (W1.drewN k) O1 cd ce d B (N + 6) m (s0.num 300 cl 6 sl))) := hid (fun k =>
  dtree_any (HND.out k).doc (HND.out k).enc (HND.out k).n3 (by have := HT0.out; omega) (a := 300) (b := cl) (n := 6) (x := sl) (len := tlen 300 cl) false HL0.out (by omega) (by omega) (by omega) (by omega) (by omega))
 clear HT0 HL0 HH
 by_cases h3 : 3 < n
 case pos =>
  have hcc : cl = 3 := by rw [hcl, if_pos h3]
  have hd : decide ((3 : Int) < (n : Int)) = true := by rw [decide_eq_true_eq]; omega
  subst hcc
  clear hcl
  go_wp2_with fail
  refine (HSL.out _).mono ?_
  rintro z w4 ⟨rfl, k4, rfl⟩
  obtain ⟨c0, c1, f0, f1⟩ := (HND.out k4).cells
  go_wp2_with fail
  refine (HTR.out k4).mono ?_
  rintro z w5 ⟨v5, O5, rfl, hs5, hd5, he5⟩
  obtain ⟨g5, cap5, rfl⟩ := he5.form
  have HN5 := hid ((HND.out k4).next hs5 hd5 he5)
  clear c0 c1 f0 f1
  obtain ⟨c0, c1, f0, f1⟩ := (HND.out k4).cells2 hs5
  clear hs5 hd5 he5 HTR HND
  generalize s0.num 300 _ 6 sl = s1 at *
  go_upto_region 6 with (fail)
  generalize (w5.setCell ⟨X, 0, none⟩ (.slice (some ⟨g5, 0, none⟩) (s1.e.turns + 4) cap5)).setCell ⟨X, 1, none⟩ (.int .u64 s1.e.size) = W6 at *
  clear c0 c1 f0 f1
  have HND := hid (fun k => HN5.out.idle ((Step.refl [] W6 O5).drewN k))
  go_wp2_with fail
  refine (HBA.out _).mono ?_
  rintro z w7 ⟨rfl, k7, rfl⟩
  obtain ⟨c0, c1, f0, f1⟩ := (HND.out k7).cells
  obtain ⟨z0, z1, y0, y1⟩ := (HND.out k7).cellsZ
  have hd4 : decide ((sl : Int) < 4) = false := by rw [decide_eq_false_iff_not]; omega
  have hd14 : decide ((sl : Int) < 14) = false := by rw [decide_eq_false_iff_not]; omega
  have hwm : IntKind.i64.wrap ((mo : Int) - 1) = (mo : Int) - 1 := by rw [IntKind.wrap_i64]; omega
  have HF : Hid (s1.far xr mo = (⟨directN (xr / 16) (mo - 4) s1.e (mo - 4), s1.q⟩ : Es).bk 320 0 4 (xr % 16)) := hid rfl
  have HL0' : Hid (Held1 w O f cd ce d B (N + 6) X (X + 1) m (⟨directN (xr / 16) (mo - 4) s1.e 0, s1.q⟩ : Es) (W6.drewN k7) O5 (.slice (some ⟨g5, 0, none⟩) (s1.e.turns + 4) cap5)) := hid (HND.out k7)
  have hk4 : ∃ M, mo = M + 4 := ⟨mo - 4, by omega⟩
  obtain ⟨M, rfl⟩ := hk4
  rw [show M + 4 - 4 = M from by omega] at HF HL0'
  clear c0 c1 f0 f1 z0 z1 y0 y1 HND HN5
  as_aux_lemma =>
  go_wp2_with fail
  go_loopw [14] (fun i wr => ∃ (j : Nat) (v' : Value) (O' : Paint), j <= M /\ i = .int .i64 ((M : Int) + 3 - (j : Int)) /\ Held1 w O f cd ce d B (N + 6) X (X + 1) m (⟨directN (xr / 16) M s1.e j, s1.q⟩ : Es) wr O' v') (fun i _ => (intOf i).toNat)
  case atStart => exact ⟨0, _, _, by omega, by simp; omega, HL0'.out⟩
  case round =>
   clear HL0'
   obtain ⟨j, v', O', hj, rfl, hL⟩ := hrel
   by_cases hjm : j < M
   · obtain ⟨I, hI⟩ : ∃ I : Nat, I = M + 3 - j := ⟨_, rfl⟩
     have hIi : (M : Int) + 3 - (j : Int) = (I : Int) := by omega
     have HII := hid hIi
     rw [hIi]
     have hd : decide (4 <= (I : Int)) = true := by rw [decide_eq_true_eq]; omega
     have hwi : IntKind.i64.wrap ((I : Int) - 1) = (I : Int) - 1 := by rw [IntKind.wrap_i64]; omega
     have HNX : Hid (directN (xr / 16) M s1.e (j + 1) = (directN (xr / 16) M s1.e j).direct (bitAt (xr / 16) (I - 4))) := hid (by
      show (directN (xr / 16) M s1.e j).direct (bitAt (xr / 16) (M - 1 - j)) = _
      rw [show I - 4 = M - 1 - j from by omega])
     have htu := directN_turns s1.e (xr / 16) M j
     have hLd := hL.idle ((Step.refl [] wr O').drew)
     have HT1o := HT1.out
     have hq : 0 < 2 ^ I := Nat.two_pow_pos I
     have HPW := hid (fun W => power_any I (by omega) W)
     obtain ⟨bt, hbt⟩ : ∃ bt, bt = bitAt (xr / 16) (I - 4) := ⟨_, rfl⟩
     have hbl : bt <= 1 := by rw [hbt]; exact bitAt_le _ _
     obtain ⟨y, hy⟩ : ∃ y, y = xr / 2 ^ I := ⟨_, rfl⟩
     have hyx : y <= xr := by rw [hy]; exact Nat.div_le_self _ _
     have hyb : bt = y % 2 := by rw [hbt, hy, bit_high (by omega)]
     have e1 := quo_pow (x := xr) hq
     rw [<- hy] at e1
     have e2 := rem_two y
     rw [<- hyb] at e2
     have hqi : ((2 ^ I : Nat) : Int) ≠ 0 := by omega
     have hq0 : 2 ^ I ≠ 0 := by omega
     have hwy : IntKind.i64.wrap (y : Int) = (y : Int) := by rw [IntKind.wrap_i64]; omega
     have hwb : IntKind.i64.wrap (bt : Int) = (bt : Int) := by rw [IntKind.wrap_i64]; omega
     have e3 : (y : Int) % 2 = (bt : Int) := by rw [hyb]; omega
     rw [<- hbt] at HNX
     have HDI := hid (ddirect_any hLd.enc (show (directN (xr / 16) M s1.e j).turns <= 999990 by omega) bt hbl)
     obtain ⟨g9, cap9, rfl⟩ := hL.enc.form
     have HLD := hid hLd
     have HNX2 : Hid (∃ ej, ej = directN (xr / 16) M s1.e j) := hid ⟨_, rfl⟩
     obtain ⟨ej, hej⟩ := HNX2.out
     have hes : (⟨directN (xr / 16) M s1.e j, s1.q⟩ : Es) = ⟨ej, s1.q⟩ := by rw [hej]
     rw [hes] at HLD HDI
     rw [<- hej] at HNX
     obtain ⟨c0, c1, f0, f1⟩ := HLD.out.cells
     simp only at HDI c0 c1
     clear hL hLd hy hyb hbt htu hes HNX2
     rw [<- hej] at *
     clear hej
     generalize 2 ^ I = q at *
     have HI0 := hid hI
     have hI4 : 4 <= I := by omega
     clear hI hIi
     go_upto_region 15 with (fail)
     refine Tail.region_head (fun W => W.cell? ⟨X, 0, none⟩ = some (.slice (some ⟨g9, 0, none⟩) (ej.turns + 4) cap9) /\ W.cell? ⟨X, 1, none⟩ = some (.int .u64 ej.size)) 6 2 #[true, true, true, true, true, true, false, false] (by kernel_rfl) ⟨by kernel_rfl, by decide, by kernel_rfl, by kernel_rfl, by kernel_rfl⟩ (by kernel_rfl) ⟨c0, c1⟩ (fun ok hHeld => ?_)
     refine Tail.Lst.mk [0, 1, 2] ?_
     iterate 3 (refine Tail.Lst.takeT ok rfl (v := ?_) (Or.inl ⟨by rfl, ?_⟩) ?_; rotate_left; (next => intro w hSw; (try dsimp only at hSw); go_simp; (try with_reducible rfl)); simp only [Act.put, List.getElem_toArray, List.getElem_cons_succ, List.getElem_cons_zero, List.setIfInBounds_toArray, List.set])
     refine Tail.Lst.nil ?_
     refine Tail.head_ready (rs := [3]) (by kernel_rfl) (by simp) (by kernel_rfl) ?_
     refine Tail.AllHead.cons rfl (fun K hK => ?_) Tail.AllHead.nil
     go_simp
     refine (HPW.out _).mono ?_
     rintro z w4 ⟨rfl, rfl⟩
     refine hK.out _ _ ⟨c0, c1⟩ (fun hHeld => ?_)
     clear hK K
     try simp only [Act.put]
     try simp only [List.setIfInBounds_toArray]
     try simp only [List.set]
     refine Tail.head_take ok (i := 4) (v := Value.int .i64 y) rfl rfl (by kernel_rfl) (by kernel_rfl) (by kernel_rfl) (fun _ _ _ h => h) (Or.inl ⟨by rfl, ?ath4⟩) (by assumption) ?atr4
     case ath4 => (intro w hSw; (try dsimp only at hSw); go_simp; (try rw [e1]); (try simp [hq0, hwy]); (try with_reducible rfl))
     try simp only [Act.put]
     try simp only [List.setIfInBounds_toArray]
     try simp only [List.set]
     refine Tail.head_take ok (i := 5) (v := Value.int .i64 bt) rfl rfl (by kernel_rfl) (by kernel_rfl) (by kernel_rfl) (fun _ _ _ h => h) (Or.inl ⟨by rfl, ?ath5⟩) (by assumption) ?atr5
     case ath5 => (intro w hSw; (try dsimp only at hSw); go_simp; (try rw [e2]); (try simp [hwb, e3]); (try with_reducible rfl))
     try simp only [Act.put]
     try simp only [List.setIfInBounds_toArray]
     try simp only [List.set]
     refine Tail.head_done rfl ?_
     refine wpAny_ready (rs := [6]) (by kernel_rfl) (by simp) ?_
     refine AllReady.cons rfl (fun K hK => ?_) AllReady.nil
     go_simp
     refine HDI.out.mono ?_
     rintro z w5 ⟨v5, O5', rfl, hs5, he5⟩
     obtain ⟨g5', cap5', rfl⟩ := he5.form
     obtain ⟨b0, b1, b2, b3⟩ := HLD.out.cells2 hs5.nil
     refine hK _ _ ?_
     clear hK K
     try simp only [Act.put]
     try simp only [List.setIfInBounds_toArray]
     try simp only [List.set]
     refine wpAny_ready (rs := [7]) (by kernel_rfl) (by simp) ?_
     refine AllReady.cons rfl (fun K hK => ?_) AllReady.nil
     go_simp
     refine hK _ _ ?_
     clear hK K
     try simp only [Act.put]
     try simp only [List.setIfInBounds_toArray]
     try simp only [List.set]
     refine wpAny_done (by kernel_rfl) ?_ _
     have HN := hid (HLD.out.next (s' := ⟨ej.direct bt, s1.q⟩) hs5.nil (HLD.out.doc.step hs5 (by simp)) he5)
     clear hs5 he5 b0 b1 b2 b3 c0 c1 HDI HPW
     go_wp2_with fail
     go_roundw
     case rel => exact ⟨j + 1, _, _, by omega, by have h1 := HII.out; go_num, by rw [HNX.out]; exact HN.out⟩
     case measure => simp [intOf]; omega
   · obtain rfl : j = M := by omega
     rw [show (j : Int) + 3 - (j : Int) = 3 from by omega]
     obtain ⟨g9, cap9, rfl⟩ := hL.enc.form
     have htu := directN_turns s1.e (xr / 16) j j
     have HT1o := HT1.out
     have hx16 : Int.tmod (xr : Int) 16 = ((xr % 16 : Nat) : Int) := by rw [Int.tmod_eq_emod_of_nonneg (by omega)]; omega
     have hw16 : IntKind.i64.wrap ((xr % 16 : Nat) : Int) = ((xr % 16 : Nat) : Int) := by rw [IntKind.wrap_i64]; omega
     have HT2 : Hid (Calls Tryz.prog 59 #[.pointer (some ⟨d, 0, none⟩), .agg #[.slice (some ⟨g9, 0, none⟩) ((directN (xr / 16) j s1.e j).turns + 4) cap9, .int .u64 ((directN (xr / 16) j s1.e j).size : Int)], .int .i64 320, .int .i64 0, .int .i64 4, .int .i64 ((xr % 16 : Nat) : Int), .bool true] wr (DocTo wr O' cd ce d B (N + 6 + 4) m ((⟨directN (xr / 16) j s1.e j, s1.q⟩ : Es).bk 320 0 4 (xr % 16)))) := hid (
      dtree_any hL.doc hL.enc hL.n3 (show (directN (xr / 16) j s1.e j).turns <= 800000 by omega) (a := 320) (b := 0) (n := 4) (x := xr % 16) (len := tlen 320 0) true (by rw [show tlen 320 0 = 16 from rfl]; omega) (by omega) (by omega) (by omega) (by omega) (by omega))
     have HLD := hid hL
     rw [<- HF.out] at HT2
     obtain ⟨c0, c1, f0, f1⟩ := HLD.out.cells
     obtain ⟨z0, z1, y0, y1⟩ := HLD.out.cellsZ
     simp only at c0 c1
     clear hL htu HF
     generalize s1.far xr (j + 4) = sf at *
     generalize directN (xr / 16) j s1.e j = ej at *
     generalize xr % 16 = x16 at *
     go_wp2_with fail
     refine HT2.out.mono ?_
     rintro z w8 ⟨v8, O8, rfl, hs8, hd8, he8⟩
     obtain ⟨g8, cap8, rfl⟩ := he8.form
     obtain ⟨x0, x1, b0, b1⟩ := HLD.out.cellsZ2 hs8
     clear z0 z1 y0 y1 c0 c1 f0 f1
     go_wp2_with fail
     obtain ⟨W, hW, r0, r1, hr⟩ := HLD.out.ret hs8 hd8 he8
     rw [hW]
     have HR := hid hr
     clear hW HLD hs8 hd8 he8 x0 x1 b0 b1 hr HT2
     refine bodyPost_ret (v := .agg #[.slice (some ⟨g8, 0, none⟩) (sf.e.turns + 4) cap8, .int .u64 sf.e.size]) ?_ rfl (HR.out.mono (by omega))
     simp [results, Tryz.results40, go_sem, r0, r1]
 case neg =>
  have hcc : cl = n := by rw [hcl, if_neg h3]
  have hd : decide ((3 : Int) < (n : Int)) = false := by rw [decide_eq_false_iff_not]; omega
  subst hcc
  clear hcl
  go_wp2_with fail
  refine (HSL.out _).mono ?_
  rintro z w4 ⟨rfl, k4, rfl⟩
  obtain ⟨c0, c1, f0, f1⟩ := (HND.out k4).cells
  go_wp2_with fail
  refine (HTR.out k4).mono ?_
  rintro z w5 ⟨v5, O5, rfl, hs5, hd5, he5⟩
  obtain ⟨g5, cap5, rfl⟩ := he5.form
  have HN5 := hid ((HND.out k4).next hs5 hd5 he5)
  clear c0 c1 f0 f1
  obtain ⟨c0, c1, f0, f1⟩ := (HND.out k4).cells2 hs5
  clear hs5 hd5 he5 HTR HND
  generalize s0.num 300 _ 6 sl = s1 at *
  go_upto_region 6 with (fail)
  generalize (w5.setCell ⟨X, 0, none⟩ (.slice (some ⟨g5, 0, none⟩) (s1.e.turns + 4) cap5)).setCell ⟨X, 1, none⟩ (.int .u64 s1.e.size) = W6 at *
  clear c0 c1 f0 f1
  have HND := hid (fun k => HN5.out.idle ((Step.refl [] W6 O5).drewN k))
  go_wp2_with fail
  refine (HBA.out _).mono ?_
  rintro z w7 ⟨rfl, k7, rfl⟩
  obtain ⟨c0, c1, f0, f1⟩ := (HND.out k7).cells
  obtain ⟨z0, z1, y0, y1⟩ := (HND.out k7).cellsZ
  have hd4 : decide ((sl : Int) < 4) = false := by rw [decide_eq_false_iff_not]; omega
  have hd14 : decide ((sl : Int) < 14) = false := by rw [decide_eq_false_iff_not]; omega
  have hwm : IntKind.i64.wrap ((mo : Int) - 1) = (mo : Int) - 1 := by rw [IntKind.wrap_i64]; omega
  have HF : Hid (s1.far xr mo = (⟨directN (xr / 16) (mo - 4) s1.e (mo - 4), s1.q⟩ : Es).bk 320 0 4 (xr % 16)) := hid rfl
  have HL0' : Hid (Held1 w O f cd ce d B (N + 6) X (X + 1) m (⟨directN (xr / 16) (mo - 4) s1.e 0, s1.q⟩ : Es) (W6.drewN k7) O5 (.slice (some ⟨g5, 0, none⟩) (s1.e.turns + 4) cap5)) := hid (HND.out k7)
  have hk4 : ∃ M, mo = M + 4 := ⟨mo - 4, by omega⟩
  obtain ⟨M, rfl⟩ := hk4
  rw [show M + 4 - 4 = M from by omega] at HF HL0'
  clear c0 c1 f0 f1 z0 z1 y0 y1 HND HN5
  as_aux_lemma =>
  go_wp2_with fail
  go_loopw [14] (fun i wr => ∃ (j : Nat) (v' : Value) (O' : Paint), j <= M /\ i = .int .i64 ((M : Int) + 3 - (j : Int)) /\ Held1 w O f cd ce d B (N + 6) X (X + 1) m (⟨directN (xr / 16) M s1.e j, s1.q⟩ : Es) wr O' v') (fun i _ => (intOf i).toNat)
  case atStart => exact ⟨0, _, _, by omega, by simp; omega, HL0'.out⟩
  case round =>
   clear HL0'
   obtain ⟨j, v', O', hj, rfl, hL⟩ := hrel
   by_cases hjm : j < M
   · obtain ⟨I, hI⟩ : ∃ I : Nat, I = M + 3 - j := ⟨_, rfl⟩
     have hIi : (M : Int) + 3 - (j : Int) = (I : Int) := by omega
     have HII := hid hIi
     rw [hIi]
     have hd : decide (4 <= (I : Int)) = true := by rw [decide_eq_true_eq]; omega
     have hwi : IntKind.i64.wrap ((I : Int) - 1) = (I : Int) - 1 := by rw [IntKind.wrap_i64]; omega
     have HNX : Hid (directN (xr / 16) M s1.e (j + 1) = (directN (xr / 16) M s1.e j).direct (bitAt (xr / 16) (I - 4))) := hid (by
      show (directN (xr / 16) M s1.e j).direct (bitAt (xr / 16) (M - 1 - j)) = _
      rw [show I - 4 = M - 1 - j from by omega])
     have htu := directN_turns s1.e (xr / 16) M j
     have hLd := hL.idle ((Step.refl [] wr O').drew)
     have HT1o := HT1.out
     have hq : 0 < 2 ^ I := Nat.two_pow_pos I
     have HPW := hid (fun W => power_any I (by omega) W)
     obtain ⟨bt, hbt⟩ : ∃ bt, bt = bitAt (xr / 16) (I - 4) := ⟨_, rfl⟩
     have hbl : bt <= 1 := by rw [hbt]; exact bitAt_le _ _
     obtain ⟨y, hy⟩ : ∃ y, y = xr / 2 ^ I := ⟨_, rfl⟩
     have hyx : y <= xr := by rw [hy]; exact Nat.div_le_self _ _
     have hyb : bt = y % 2 := by rw [hbt, hy, bit_high (by omega)]
     have e1 := quo_pow (x := xr) hq
     rw [<- hy] at e1
     have e2 := rem_two y
     rw [<- hyb] at e2
     have hqi : ((2 ^ I : Nat) : Int) ≠ 0 := by omega
     have hq0 : 2 ^ I ≠ 0 := by omega
     have hwy : IntKind.i64.wrap (y : Int) = (y : Int) := by rw [IntKind.wrap_i64]; omega
     have hwb : IntKind.i64.wrap (bt : Int) = (bt : Int) := by rw [IntKind.wrap_i64]; omega
     have e3 : (y : Int) % 2 = (bt : Int) := by rw [hyb]; omega
     rw [<- hbt] at HNX
     have HDI := hid (ddirect_any hLd.enc (show (directN (xr / 16) M s1.e j).turns <= 999990 by omega) bt hbl)
     obtain ⟨g9, cap9, rfl⟩ := hL.enc.form
     have HLD := hid hLd
     have HNX2 : Hid (∃ ej, ej = directN (xr / 16) M s1.e j) := hid ⟨_, rfl⟩
     obtain ⟨ej, hej⟩ := HNX2.out
     have hes : (⟨directN (xr / 16) M s1.e j, s1.q⟩ : Es) = ⟨ej, s1.q⟩ := by rw [hej]
     rw [hes] at HLD HDI
     rw [<- hej] at HNX
     obtain ⟨c0, c1, f0, f1⟩ := HLD.out.cells
     simp only at HDI c0 c1
     clear hL hLd hy hyb hbt htu hes HNX2
     rw [<- hej] at *
     clear hej
     generalize 2 ^ I = q at *
     have HI0 := hid hI
     have hI4 : 4 <= I := by omega
     clear hI hIi
     go_upto_region 15 with (fail)
     refine Tail.region_head (fun W => W.cell? ⟨X, 0, none⟩ = some (.slice (some ⟨g9, 0, none⟩) (ej.turns + 4) cap9) /\ W.cell? ⟨X, 1, none⟩ = some (.int .u64 ej.size)) 6 2 #[true, true, true, true, true, true, false, false] (by kernel_rfl) ⟨by kernel_rfl, by decide, by kernel_rfl, by kernel_rfl, by kernel_rfl⟩ (by kernel_rfl) ⟨c0, c1⟩ (fun ok hHeld => ?_)
     refine Tail.Lst.mk [0, 1, 2] ?_
     iterate 3 (refine Tail.Lst.takeT ok rfl (v := ?_) (Or.inl ⟨by rfl, ?_⟩) ?_; rotate_left; (next => intro w hSw; (try dsimp only at hSw); go_simp; (try with_reducible rfl)); simp only [Act.put, List.getElem_toArray, List.getElem_cons_succ, List.getElem_cons_zero, List.setIfInBounds_toArray, List.set])
     refine Tail.Lst.nil ?_
     refine Tail.head_ready (rs := [3]) (by kernel_rfl) (by simp) (by kernel_rfl) ?_
     refine Tail.AllHead.cons rfl (fun K hK => ?_) Tail.AllHead.nil
     go_simp
     refine (HPW.out _).mono ?_
     rintro z w4 ⟨rfl, rfl⟩
     refine hK.out _ _ ⟨c0, c1⟩ (fun hHeld => ?_)
     clear hK K
     try simp only [Act.put]
     try simp only [List.setIfInBounds_toArray]
     try simp only [List.set]
     refine Tail.head_take ok (i := 4) (v := Value.int .i64 y) rfl rfl (by kernel_rfl) (by kernel_rfl) (by kernel_rfl) (fun _ _ _ h => h) (Or.inl ⟨by rfl, ?bth4⟩) (by assumption) ?btr4
     case bth4 => (intro w hSw; (try dsimp only at hSw); go_simp; (try rw [e1]); (try simp [hq0, hwy]); (try with_reducible rfl))
     try simp only [Act.put]
     try simp only [List.setIfInBounds_toArray]
     try simp only [List.set]
     refine Tail.head_take ok (i := 5) (v := Value.int .i64 bt) rfl rfl (by kernel_rfl) (by kernel_rfl) (by kernel_rfl) (fun _ _ _ h => h) (Or.inl ⟨by rfl, ?bth5⟩) (by assumption) ?btr5
     case bth5 => (intro w hSw; (try dsimp only at hSw); go_simp; (try rw [e2]); (try simp [hwb, e3]); (try with_reducible rfl))
     try simp only [Act.put]
     try simp only [List.setIfInBounds_toArray]
     try simp only [List.set]
     refine Tail.head_done rfl ?_
     refine wpAny_ready (rs := [6]) (by kernel_rfl) (by simp) ?_
     refine AllReady.cons rfl (fun K hK => ?_) AllReady.nil
     go_simp
     refine HDI.out.mono ?_
     rintro z w5 ⟨v5, O5', rfl, hs5, he5⟩
     obtain ⟨g5', cap5', rfl⟩ := he5.form
     obtain ⟨b0, b1, b2, b3⟩ := HLD.out.cells2 hs5.nil
     refine hK _ _ ?_
     clear hK K
     try simp only [Act.put]
     try simp only [List.setIfInBounds_toArray]
     try simp only [List.set]
     refine wpAny_ready (rs := [7]) (by kernel_rfl) (by simp) ?_
     refine AllReady.cons rfl (fun K hK => ?_) AllReady.nil
     go_simp
     refine hK _ _ ?_
     clear hK K
     try simp only [Act.put]
     try simp only [List.setIfInBounds_toArray]
     try simp only [List.set]
     refine wpAny_done (by kernel_rfl) ?_ _
     have HN := hid (HLD.out.next (s' := ⟨ej.direct bt, s1.q⟩) hs5.nil (HLD.out.doc.step hs5 (by simp)) he5)
     clear hs5 he5 b0 b1 b2 b3 c0 c1 HDI HPW
     go_wp2_with fail
     go_roundw
     case rel => exact ⟨j + 1, _, _, by omega, by have h1 := HII.out; go_num, by rw [HNX.out]; exact HN.out⟩
     case measure => simp [intOf]; omega
   · obtain rfl : j = M := by omega
     rw [show (j : Int) + 3 - (j : Int) = 3 from by omega]
     obtain ⟨g9, cap9, rfl⟩ := hL.enc.form
     have htu := directN_turns s1.e (xr / 16) j j
     have HT1o := HT1.out
     have hx16 : Int.tmod (xr : Int) 16 = ((xr % 16 : Nat) : Int) := by rw [Int.tmod_eq_emod_of_nonneg (by omega)]; omega
     have hw16 : IntKind.i64.wrap ((xr % 16 : Nat) : Int) = ((xr % 16 : Nat) : Int) := by rw [IntKind.wrap_i64]; omega
     have HT2 : Hid (Calls Tryz.prog 59 #[.pointer (some ⟨d, 0, none⟩), .agg #[.slice (some ⟨g9, 0, none⟩) ((directN (xr / 16) j s1.e j).turns + 4) cap9, .int .u64 ((directN (xr / 16) j s1.e j).size : Int)], .int .i64 320, .int .i64 0, .int .i64 4, .int .i64 ((xr % 16 : Nat) : Int), .bool true] wr (DocTo wr O' cd ce d B (N + 6 + 4) m ((⟨directN (xr / 16) j s1.e j, s1.q⟩ : Es).bk 320 0 4 (xr % 16)))) := hid (
      dtree_any hL.doc hL.enc hL.n3 (show (directN (xr / 16) j s1.e j).turns <= 800000 by omega) (a := 320) (b := 0) (n := 4) (x := xr % 16) (len := tlen 320 0) true (by rw [show tlen 320 0 = 16 from rfl]; omega) (by omega) (by omega) (by omega) (by omega) (by omega))
     have HLD := hid hL
     rw [<- HF.out] at HT2
     obtain ⟨c0, c1, f0, f1⟩ := HLD.out.cells
     obtain ⟨z0, z1, y0, y1⟩ := HLD.out.cellsZ
     simp only at c0 c1
     clear hL htu HF
     generalize s1.far xr (j + 4) = sf at *
     generalize directN (xr / 16) j s1.e j = ej at *
     generalize xr % 16 = x16 at *
     go_wp2_with fail
     refine HT2.out.mono ?_
     rintro z w8 ⟨v8, O8, rfl, hs8, hd8, he8⟩
     obtain ⟨g8, cap8, rfl⟩ := he8.form
     obtain ⟨x0, x1, b0, b1⟩ := HLD.out.cellsZ2 hs8
     clear z0 z1 y0 y1 c0 c1 f0 f1
     go_wp2_with fail
     obtain ⟨W, hW, r0, r1, hr⟩ := HLD.out.ret hs8 hd8 he8
     rw [hW]
     have HR := hid hr
     clear hW HLD hs8 hd8 he8 x0 x1 b0 b1 hr HT2
     refine bodyPost_ret (v := .agg #[.slice (some ⟨g8, 0, none⟩) (sf.e.turns + 4) cap8, .int .u64 sf.e.size]) ?_ rfl (HR.out.mono (by omega))
     simp [results, Tryz.results40, go_sem, r0, r1]
theorem ddist_any (h : DocAt w O cd d B N m Q) (he : EncV w O ce v e) (hne : cd ≠ ce) (ht : e.turns <= 700000) {n x : Nat} (hn : n <= 271) (hx : x < 4294967296) (hN : N <= 800000000) :
  Calls Tryz.prog 40 #[.pointer (some ⟨d, 0, none⟩), .agg #[v, .int .u64 e.size], .int .u64 x, .int .i64 ((n : Int) + 2)] w (DocTo w O cd ce d B (N + 40) m ((⟨e, Q⟩ : Es).dist (cls n) x)) := by
 by_cases hs : St.slot x < 14
 · exact ddist_near h he hne ht hn hx hN hs
 · exact ddist_far h he hne ht hn hx hN (by omega)
end
end Go.Proofs.YtfpoabeihpfeiaaGreat.Dc
end
