/-
  Package model: a packet as bits: contracts of code, got (by gen_code.py).
-/
import Derived.Test.YtfpoabeihpfeiaaGreatPk19
import Derived.Test.YtfpoabeihpfeiaaGreatPk21

set_option maxRecDepth 100000
set_option maxHeartbeats 16000000
set_option linter.unusedVariables false
set_option linter.unusedSimpArgs false
open Go.Lib (hid)
namespace Go.Proofs.YtfpoabeihpfeiaaGreat.Mo
open Go.RowKit
open Rc
open Pk (Rp Pt)
open Wnd (Win)
section
variable {w : World} {O : Paint} {c cm cw a tot k gb cap nb mo wb wm : Nat} {most : Int} {v : Value} {tb : Nat -> Nat -> Nat} {s : Es} {d : Ds} {m : Ms}
theorem code_dec_lit (hm : ModAt w O cw mo wb v m.lc m.lp m.pb most wm m.l m.r m.st k) (hok : m.Ok nb) (hl : m.l.length <= 1099511627776) (h1 : cw ≠ c) (h2 : cw ≠ cm) (h : DecS w O c cm a tot k gb cap nb tb d) (b1 : d.bit 1 m.st m.here = 0) :
  Calls Tryz.prog 54 #[.pointer (some ⟨mo, 0, none⟩), .iface 193 (.agg #[.pointer (some ⟨a, 0, none⟩)]), .agg #[.int .i64 0, .int .i64 0, .int .i64 0, .int .u8 0]] w (DecTo w O c cm a tot k gb cap nb tb (((d.one 1 m.st m.here).byte m.lc m.lp m.st m.l m.r.a)) (.agg #[.int .i64 1, .int .i64 0, .int .i64 0, .int .u8 (((d.one 1 m.st m.here).byteV m.lc m.lp m.st m.l m.r.a : Nat) : Int)])) := by
 obtain ⟨f, O1, HL0⟩ := codeD_new hm h h1 h2 ⟨0, 0, 0, 0⟩
 have HL0 := hid HL0
 have hst := hok.st12
 have hP := hok.here
 have hpb := hok.pb4
 have HOK := hid hok
 have HPE := hid (show m.here = m.l.length % 2 ^ m.pb from rfl)
 obtain ⟨sf, hsf⟩ : ∃ sf, sf = ((d.one 1 m.st m.here).byte m.lc m.lp m.st m.l m.r.a) := ⟨_, rfl⟩
 rw [<- hsf]
 have HSF := hid hsf
 clear hsf
 have hc0 : ∀ (W : World) (O' : Paint) (s' : Ds), CodeD w O c cm cw f a tot k gb cap nb mo wb wm most v tb m ⟨0, 0, 0, 0⟩ s' W O' -> (W.cell? ⟨mo, 9, none⟩ = some (.int .i64 m.st) /\ W.cell? ⟨mo, 10, none⟩ = some (.pointer (some ⟨k, 0, none⟩)) /\ W.cell? ⟨mo, 4, none⟩ = some (.pointer (some ⟨wb, 0, none⟩)) /\ W.cell? ⟨mo, 2, none⟩ = some (.int .i64 m.pb)) /\
   (W.cell? ⟨w.heap.size, 0, none⟩ = some (.int .i64 0) /\ W.cell? ⟨w.heap.size, 1, none⟩ = some (.int .i64 0) /\ W.cell? ⟨w.heap.size, 2, none⟩ = some (.int .i64 0) /\ W.cell? ⟨w.heap.size, 3, none⟩ = some (.int .u8 (0 : Int))) := by
  intro W O' s' h
  obtain ⟨q0, q1, q2, q3, q4, q5, q6, q7, q8, q9, q10⟩ := h.mod.cells
  exact ⟨⟨q9, q10, q4, q2⟩, four_i h.hp⟩
 have hz0 : ∀ (W : World) (O' : Paint) (s' : Ds), CodeD w O c cm cw f a tot k gb cap nb mo wb wm most v tb m ⟨0, 0, 0, 0⟩ s' W O' -> (W.frozen? ⟨w.heap.size + 1, 0, none⟩ = false /\ W.frozen? ⟨w.heap.size + 1, 1, none⟩ = false /\ W.frozen? ⟨w.heap.size + 1, 2, none⟩ = false /\ W.frozen? ⟨w.heap.size + 1, 3, none⟩ = false) /\ (W.cell? ⟨w.heap.size + 1, 0, none⟩ = some (.int .i64 0) /\ W.cell? ⟨w.heap.size + 1, 1, none⟩ = some (.int .i64 0) /\ W.cell? ⟨w.heap.size + 1, 2, none⟩ = some (.int .i64 0) /\ W.cell? ⟨w.heap.size + 1, 3, none⟩ = some (.int .u8 0)) /\ w.heap.size + 1 < W.heap.size := fun W O' s' h => ⟨⟨h.hz.free 0, h.hz.free 1, h.hz.free 2, h.hz.free 3⟩, four_i h.hz, h.hz.lt⟩
 have HC0 := hid hc0
 have HZ0 := hid hz0
 clear hc0 hz0
 have B1 := hid b1
 generalize hste : m.st = st at *
 generalize hPe : m.here = P at *
 have HSTE := hid hste
 have HPE2 := hid hPe
 clear hste hPe
 clear hm h hok
 have n_choice : ∀ W : World, (nilAhead 310 193 (.agg #[.pointer (some ⟨a, 0, none⟩)]) "cassone/model.choice").run Tryz.prog W = .ok (some false) W := fun _ => by kernel_rfl
 have m_choice : ∀ W : World, (method 310 193 (.agg #[.pointer (some ⟨a, 0, none⟩)]) "cassone/model.choice").run Tryz.prog W = .ok (139, .agg #[.pointer (some ⟨a, 0, none⟩)]) W := fun _ => by kernel_rfl
 have i1 : (0 : Int) <= (st : Int) := by omega
 have i2 : (st : Int) < 12 := by omega
 have i3 : (0 : Int) <= (P : Int) := by omega
 have i4 : (P : Int) < 16 := by omega
 go_enter Tryz.func54, Tryz.ntmps54
 go_upto_region 1 with (fail)
 generalize (w.alloc (.cells #[.int .i64 0, .int .i64 0, .int .i64 0, .int .u8 (0 : Int)] 37)).alloc (.cells #[.int .i64 0, .int .i64 0, .int .i64 0, .int .u8 0] 37) = W0 at *
 generalize hX : w.heap.size = X at *
 obtain ⟨⟨q9, q10, q4, q2⟩, p0, p1, p2, p3⟩ := HC0.out _ _ _ HL0.out
 go_cut [7, 8] (fun v7 v8 wc => v7 = .pointer (some ⟨k, 0, none⟩) /\ v8 = .int .i64 P /\ ∃ n, wc = W0.drewN n)
 case first =>
  as_aux_lemma =>
  have HLOW := hid (lowest_any m.l.length m.pb (by omega) (by omega))
  rw [<- HPE.out] at HLOW
  go_quiet (first | (go_at_call 71; exact (Wnd.len_any (HL0.out.mod.win.drewN _)).mono (fun _ _ hx => ⟨hx.1, _, hx.2.symm⟩)) | (go_at_call 72; exact (HLOW.out _).mono (fun _ _ hx => ⟨hx.1, _, hx.2.symm⟩)))
  go_wp2_with fail
  go_meet
  exact ⟨rfl, rfl, _, rfl⟩
 case rest =>
  obtain ⟨rfl, rfl, N0, rfl⟩ := hcut
  have HL1 := hid (HL0.out.drewN N0)
  clear q9 q10 q4 q2 p0 p1 p2 p3 HL0
  generalize W0.drewN N0 = W1 at *
  have HX := hid hX
  clear hX
  have HC : Hid (Calls Tryz.prog 139 #[.agg #[.pointer (some ⟨a, 0, none⟩)], .pointer (some ⟨k, st * 16 + P, none⟩), .int .i64 1] W1.drew (DecTo W1.drew O1 c cm a tot k gb cap nb tb (d.one 1 st P) (.int .i64 0))) := hid (by have := dec_one (x := 1) (y := st) (z := P) HL1.out.drew.dec (by unfold isOne; omega) 1; rw [show off 1 st P = st * 16 + P from by simp [off]; omega] at this; rw [B1.out] at this; exact this)
  go_wp2_with fail
  go_cut [45] (fun v45 wc => v45 = .bool true /\ ∃ O', CodeD w O c cm cw f a tot k gb cap nb mo wb wm most v tb m ⟨0, 0, 0, 0⟩ (d.one 1 st P) wc O')
  case first =>
   as_aux_lemma =>
   go_region_held3 (fun W => (W.cell? ⟨mo, 9, none⟩ = some (.int .i64 st) /\ W.cell? ⟨mo, 10, none⟩ = some (.pointer (some ⟨k, 0, none⟩)) /\ W.cell? ⟨mo, 4, none⟩ = some (.pointer (some ⟨wb, 0, none⟩)) /\ W.cell? ⟨mo, 2, none⟩ = some (.int .i64 m.pb)) /\ (W.cell? ⟨X, 0, none⟩ = some (.int .i64 0) /\ W.cell? ⟨X, 1, none⟩ = some (.int .i64 0) /\ W.cell? ⟨X, 2, none⟩ = some (.int .i64 0) /\ W.cell? ⟨X, 3, none⟩ = some (.int .u8 (0 : Int)))) (first | exact HC0.out _ _ _ HL1.out.drew | exact HC0.out _ _ _ (HL1.out.drew.next ‹_› ‹_›) | go_keep) (first | (go_at_call 73; (with_reducible refine (bit_any _ _).mono ?_); rintro x w1 ⟨rfl, rfl⟩) | (go_at_call 139; (with_reducible refine HC.out.mono ?_); rintro x w2 ⟨rfl, O2, hs2, he2⟩))
   all_goals
    go_wp2_with fail
    go_meet
    exact ⟨rfl, O2, HL1.out.drew.next hs2 he2⟩
  case rest =>
   obtain ⟨rfl, O2, hl2⟩ := hcut
   have HL2 := hid hl2
   clear hl2 HC HL1
   generalize wc = W2 at *
   obtain ⟨⟨q9, q10, q4, q2⟩, p0, p1, p2, p3⟩ := HC0.out _ _ _ HL2.out
   obtain ⟨⟨f0, f1, f2, f3⟩, ⟨z0, z1, z2, z3⟩, zl⟩ := HZ0.out _ _ _ HL2.out
   have HB := hid (byte_dec HL2.out.mod HOK.out hl HL2.out.dec)
   rw [HSTE.out] at HB
   obtain ⟨bv, hbv⟩ : ∃ bv, bv = (d.one 1 st P).byteV m.lc m.lp st m.l m.r.a := ⟨_, rfl⟩
   rw [<- hbv] at HB
   have HBV := hid hbv
   clear hbv
   go_wp2_with fail
   refine HB.out.mono ?_
   rintro x w2 ⟨rfl, O3, hs3, he3⟩
   have HL3 := hid (HL2.out.next hs3 he3)
   clear hs3 he3 HB HL2 q9 q10 q4 q2 p0 p1 p2 p3 f0 f1 f2 f3 z0 z1 z2 z3 zl
   obtain ⟨⟨f0, f1, f2, f3⟩, ⟨z0, z1, z2, z3⟩, zl⟩ := HZ0.out _ _ _ HL3.out
   have HDN := hid (HL3.out.done (.int .i64 1) (.int .i64 0) (.int .i64 0) (.int .u8 bv))
   rw [HX.out] at HDN
   go_wp2_with fail
   obtain ⟨WW, hWW, hzz, hss, hee⟩ := HDN.out
   rw [hWW]
   clear hWW HDN
   obtain ⟨⟨r0, r1, r2, r3⟩, _, _⟩ := Pk.four hzz
   refine bodyPost_ret (v := .agg #[.int .i64 1, .int .i64 0, .int .i64 0, .int .u8 bv]) ?_ rfl ?_
   · simp [results, Tryz.results54, go_sem, r0, r1, r2, r3]
   · exact ⟨by rw [HBV.out], O3, hss, by rw [show sf = (d.one 1 st P).byte m.lc m.lp st m.l m.r.a from by rw [HSF.out]]; exact hee⟩
theorem code_dec_mat (hm : ModAt w O cw mo wb v m.lc m.lp m.pb most wm m.l m.r m.st k) (hok : m.Ok nb) (hl : m.l.length <= 1099511627776) (h1 : cw ≠ c) (h2 : cw ≠ cm) (h : DecS w O c cm a tot k gb cap nb tb d) (b1 : d.bit 1 m.st m.here = 1) (b2 : (d.one 1 m.st m.here).bit 2 m.st 0 = 0) :
  Calls Tryz.prog 54 #[.pointer (some ⟨mo, 0, none⟩), .iface 193 (.agg #[.pointer (some ⟨a, 0, none⟩)]), .agg #[.int .i64 0, .int .i64 0, .int .i64 0, .int .u8 0]] w (DecTo w O c cm a tot k gb cap nb tb (((((d.one 1 m.st m.here).one 2 m.st 0).len 0 m.here).dist (cls (((d.one 1 m.st m.here).one 2 m.st 0).lenV 0 m.here)))) (.agg #[.int .i64 2, .int .i64 (((((d.one 1 m.st m.here).one 2 m.st 0).len 0 m.here).distV (cls (((d.one 1 m.st m.here).one 2 m.st 0).lenV 0 m.here)) + 1) % 4294967296 : Nat), .int .i64 ((((d.one 1 m.st m.here).one 2 m.st 0).lenV 0 m.here : Int) + 2), .int .u8 0])) := by
 obtain ⟨f, O1, HL0⟩ := codeD_new hm h h1 h2 ⟨0, 0, 0, 0⟩
 have HL0 := hid HL0
 have hst := hok.st12
 have hP := hok.here
 have hpb := hok.pb4
 have HOK := hid hok
 have HPE := hid (show m.here = m.l.length % 2 ^ m.pb from rfl)
 obtain ⟨sf, hsf⟩ : ∃ sf, sf = ((((d.one 1 m.st m.here).one 2 m.st 0).len 0 m.here).dist (cls (((d.one 1 m.st m.here).one 2 m.st 0).lenV 0 m.here))) := ⟨_, rfl⟩
 rw [<- hsf]
 have HSF := hid hsf
 clear hsf
 have hc0 : ∀ (W : World) (O' : Paint) (s' : Ds), CodeD w O c cm cw f a tot k gb cap nb mo wb wm most v tb m ⟨0, 0, 0, 0⟩ s' W O' -> (W.cell? ⟨mo, 9, none⟩ = some (.int .i64 m.st) /\ W.cell? ⟨mo, 10, none⟩ = some (.pointer (some ⟨k, 0, none⟩)) /\ W.cell? ⟨mo, 4, none⟩ = some (.pointer (some ⟨wb, 0, none⟩)) /\ W.cell? ⟨mo, 2, none⟩ = some (.int .i64 m.pb)) /\
   (W.cell? ⟨w.heap.size, 0, none⟩ = some (.int .i64 0) /\ W.cell? ⟨w.heap.size, 1, none⟩ = some (.int .i64 0) /\ W.cell? ⟨w.heap.size, 2, none⟩ = some (.int .i64 0) /\ W.cell? ⟨w.heap.size, 3, none⟩ = some (.int .u8 (0 : Int))) := by
  intro W O' s' h
  obtain ⟨q0, q1, q2, q3, q4, q5, q6, q7, q8, q9, q10⟩ := h.mod.cells
  exact ⟨⟨q9, q10, q4, q2⟩, four_i h.hp⟩
 have hz0 : ∀ (W : World) (O' : Paint) (s' : Ds), CodeD w O c cm cw f a tot k gb cap nb mo wb wm most v tb m ⟨0, 0, 0, 0⟩ s' W O' -> (W.frozen? ⟨w.heap.size + 1, 0, none⟩ = false /\ W.frozen? ⟨w.heap.size + 1, 1, none⟩ = false /\ W.frozen? ⟨w.heap.size + 1, 2, none⟩ = false /\ W.frozen? ⟨w.heap.size + 1, 3, none⟩ = false) /\ (W.cell? ⟨w.heap.size + 1, 0, none⟩ = some (.int .i64 0) /\ W.cell? ⟨w.heap.size + 1, 1, none⟩ = some (.int .i64 0) /\ W.cell? ⟨w.heap.size + 1, 2, none⟩ = some (.int .i64 0) /\ W.cell? ⟨w.heap.size + 1, 3, none⟩ = some (.int .u8 0)) /\ w.heap.size + 1 < W.heap.size := fun W O' s' h => ⟨⟨h.hz.free 0, h.hz.free 1, h.hz.free 2, h.hz.free 3⟩, four_i h.hz, h.hz.lt⟩
 have HC0 := hid hc0
 have HZ0 := hid hz0
 clear hc0 hz0
 have B1 := hid b1
 have B2 := hid b2
 generalize hste : m.st = st at *
 generalize hPe : m.here = P at *
 have HSTE := hid hste
 have HPE2 := hid hPe
 clear hste hPe
 clear hm h hok
 have n_choice : ∀ W : World, (nilAhead 310 193 (.agg #[.pointer (some ⟨a, 0, none⟩)]) "cassone/model.choice").run Tryz.prog W = .ok (some false) W := fun _ => by kernel_rfl
 have m_choice : ∀ W : World, (method 310 193 (.agg #[.pointer (some ⟨a, 0, none⟩)]) "cassone/model.choice").run Tryz.prog W = .ok (139, .agg #[.pointer (some ⟨a, 0, none⟩)]) W := fun _ => by kernel_rfl
 have i1 : (0 : Int) <= (st : Int) := by omega
 have i2 : (st : Int) < 12 := by omega
 have i3 : (0 : Int) <= (P : Int) := by omega
 have i4 : (P : Int) < 16 := by omega
 go_enter Tryz.func54, Tryz.ntmps54
 go_upto_region 1 with (fail)
 generalize (w.alloc (.cells #[.int .i64 0, .int .i64 0, .int .i64 0, .int .u8 (0 : Int)] 37)).alloc (.cells #[.int .i64 0, .int .i64 0, .int .i64 0, .int .u8 0] 37) = W0 at *
 generalize hX : w.heap.size = X at *
 obtain ⟨⟨q9, q10, q4, q2⟩, p0, p1, p2, p3⟩ := HC0.out _ _ _ HL0.out
 go_cut [7, 8] (fun v7 v8 wc => v7 = .pointer (some ⟨k, 0, none⟩) /\ v8 = .int .i64 P /\ ∃ n, wc = W0.drewN n)
 case first =>
  as_aux_lemma =>
  have HLOW := hid (lowest_any m.l.length m.pb (by omega) (by omega))
  rw [<- HPE.out] at HLOW
  go_quiet (first | (go_at_call 71; exact (Wnd.len_any (HL0.out.mod.win.drewN _)).mono (fun _ _ hx => ⟨hx.1, _, hx.2.symm⟩)) | (go_at_call 72; exact (HLOW.out _).mono (fun _ _ hx => ⟨hx.1, _, hx.2.symm⟩)))
  go_wp2_with fail
  go_meet
  exact ⟨rfl, rfl, _, rfl⟩
 case rest =>
  obtain ⟨rfl, rfl, N0, rfl⟩ := hcut
  have HL1 := hid (HL0.out.drewN N0)
  clear q9 q10 q4 q2 p0 p1 p2 p3 HL0
  generalize W0.drewN N0 = W1 at *
  have HX := hid hX
  clear hX
  have HC : Hid (Calls Tryz.prog 139 #[.agg #[.pointer (some ⟨a, 0, none⟩)], .pointer (some ⟨k, st * 16 + P, none⟩), .int .i64 1] W1.drew (DecTo W1.drew O1 c cm a tot k gb cap nb tb (d.one 1 st P) (.int .i64 1))) := hid (by have := dec_one (x := 1) (y := st) (z := P) HL1.out.drew.dec (by unfold isOne; omega) 1; rw [show off 1 st P = st * 16 + P from by simp [off]; omega] at this; rw [B1.out] at this; exact this)
  go_wp2_with fail
  go_cut [45] (fun v45 wc => v45 = .bool false /\ ∃ O', CodeD w O c cm cw f a tot k gb cap nb mo wb wm most v tb m ⟨0, 0, 0, 0⟩ (d.one 1 st P) wc O')
  case first =>
   as_aux_lemma =>
   go_region_held3 (fun W => (W.cell? ⟨mo, 9, none⟩ = some (.int .i64 st) /\ W.cell? ⟨mo, 10, none⟩ = some (.pointer (some ⟨k, 0, none⟩)) /\ W.cell? ⟨mo, 4, none⟩ = some (.pointer (some ⟨wb, 0, none⟩)) /\ W.cell? ⟨mo, 2, none⟩ = some (.int .i64 m.pb)) /\ (W.cell? ⟨X, 0, none⟩ = some (.int .i64 0) /\ W.cell? ⟨X, 1, none⟩ = some (.int .i64 0) /\ W.cell? ⟨X, 2, none⟩ = some (.int .i64 0) /\ W.cell? ⟨X, 3, none⟩ = some (.int .u8 (0 : Int)))) (first | exact HC0.out _ _ _ HL1.out.drew | exact HC0.out _ _ _ (HL1.out.drew.next ‹_› ‹_›) | go_keep) (first | (go_at_call 73; (with_reducible refine (bit_any _ _).mono ?_); rintro x w1 ⟨rfl, rfl⟩) | (go_at_call 139; (with_reducible refine HC.out.mono ?_); rintro x w2 ⟨rfl, O2, hs2, he2⟩))
   all_goals
    go_wp2_with fail
    go_meet
    exact ⟨rfl, O2, HL1.out.drew.next hs2 he2⟩
  case rest =>
   obtain ⟨rfl, O2, hl2⟩ := hcut
   have HL2 := hid hl2
   clear hl2 HC HL1
   generalize wc = W2 at *
   have HC : Hid (Calls Tryz.prog 139 #[.agg #[.pointer (some ⟨a, 0, none⟩)], .pointer (some ⟨k, 192 + st, none⟩), .int .i64 1] W2.drew (DecTo W2.drew O2 c cm a tot k gb cap nb tb ((d.one 1 st P).one 2 st 0) (.int .i64 0))) := hid (by have := dec_one (x := 2) (y := st) (z := 0) HL2.out.drew.dec (by unfold isOne; omega) 1; rw [B2.out] at this; exact this)
   go_wp2_with fail
   go_cut [69] (fun v69 wc => v69 = .bool true /\ ∃ O', CodeD w O c cm cw f a tot k gb cap nb mo wb wm most v tb m ⟨0, 0, 0, 0⟩ ((d.one 1 st P).one 2 st 0) wc O')
   case first =>
    as_aux_lemma =>
    go_region_held3 (fun W => (W.cell? ⟨mo, 9, none⟩ = some (.int .i64 st) /\ W.cell? ⟨mo, 10, none⟩ = some (.pointer (some ⟨k, 0, none⟩)) /\ W.cell? ⟨mo, 4, none⟩ = some (.pointer (some ⟨wb, 0, none⟩)) /\ W.cell? ⟨mo, 2, none⟩ = some (.int .i64 m.pb)) /\ (W.cell? ⟨X, 0, none⟩ = some (.int .i64 0) /\ W.cell? ⟨X, 1, none⟩ = some (.int .i64 0) /\ W.cell? ⟨X, 2, none⟩ = some (.int .i64 0) /\ W.cell? ⟨X, 3, none⟩ = some (.int .u8 (0 : Int)))) (first | exact HC0.out _ _ _ HL2.out.drew | exact HC0.out _ _ _ (HL2.out.drew.next ‹_› ‹_›) | go_keep) (first | (go_at_call 73; (with_reducible refine (bit_any _ _).mono ?_); rintro x w1 ⟨rfl, rfl⟩) | (go_at_call 139; (with_reducible refine HC.out.mono ?_); rintro x w2 ⟨rfl, O2, hs2, he2⟩))
    all_goals
     go_wp2_with fail
     go_meet
     exact ⟨rfl, O2, HL2.out.drew.next hs2 he2⟩
   case rest =>
    obtain ⟨rfl, O3, hl3⟩ := hcut
    have HL3 := hid hl3
    clear hl3 HC HL2
    generalize wc = W3 at *
    have HLN : Hid (Calls Tryz.prog 75 #[.pointer (some ⟨k, 433, none⟩), .iface 193 (.agg #[.pointer (some ⟨a, 0, none⟩)]), .int .i64 P, .int .i64 0] W3.drew (DecTo W3.drew O3 c cm a tot k gb cap nb tb (((d.one 1 st P).one 2 st 0).len 0 P) (.int .i64 ((((d.one 1 st P).one 2 st 0).lenV 0 P : Int) + 2)))) := hid (len_dec (u := 0) (by omega) HL3.out.drew.dec P hP)
    have hnv : ((d.one 1 st P).one 2 st 0).lenV 0 P <= 271 := lenV_le HL3.out.dec.sok (by omega) P
    obtain ⟨nv, hnve⟩ : ∃ nv, nv = ((d.one 1 st P).one 2 st 0).lenV 0 P := ⟨_, rfl⟩
    rw [<- hnve] at HLN hnv
    have HNV := hid hnve
    clear hnve
    obtain ⟨⟨q9, q10, q4, q2⟩, p0, p1, p2, p3⟩ := HC0.out _ _ _ HL3.out
    obtain ⟨⟨f0, f1, f2, f3⟩, ⟨z0, z1, z2, z3⟩, zl⟩ := HZ0.out _ _ _ HL3.out
    go_wp2_with fail
    go_still_tail 7, (by kernel_rfl)
    change wpList _ _ _ _ _ W3.drew
    go_wp2_with fail
    refine HLN.out.mono ?_
    rintro x w2 ⟨rfl, O4, hs4, he4⟩
    have HL4 := hid (HL3.out.drew.next hs4 he4)
    clear hs4 he4 HLN HL3 q9 q10 q4 q2 p0 p1 p2 p3 f0 f1 f2 f3 z0 z1 z2 z3 zl
    obtain ⟨⟨q9, q10, q4, q2⟩, p0, p1, p2, p3⟩ := HC0.out _ _ _ HL4.out
    obtain ⟨⟨f0, f1, f2, f3⟩, ⟨z0, z1, z2, z3⟩, zl⟩ := HZ0.out _ _ _ HL4.out
    have HDS := hid (dist_dec HL4.out.drew.dec ((nv : Int) + 2) (by omega) (by omega) (cls nv) (by unfold cls; omega))
    obtain ⟨dv, hdv⟩ : ∃ dv : Nat, dv = ((((d.one 1 st P).one 2 st 0).len 0 P).distV (cls nv) + 1) % 4294967296 := ⟨_, rfl⟩
    rw [<- hdv] at HDS
    have HDV := hid hdv
    clear hdv
    go_wp2_with fail
    go_region_held3 (fun W => W.cell? ⟨X, 0, none⟩ = some (.int .i64 0) /\ W.cell? ⟨X, 1, none⟩ = some (.int .i64 0) /\ W.cell? ⟨X, 2, none⟩ = some (.int .i64 0) /\ W.cell? ⟨X, 3, none⟩ = some (.int .u8 (0 : Int))) (first | exact (HC0.out _ _ _ HL4.out.drew).2 | exact (HC0.out _ _ _ (HL4.out.drew.next ‹_› ‹_›)).2 | exact keep_four (HC0.out _ _ _ (HL4.out.drew.next ‹_› ‹_›)).2 | go_keep) ((go_at_call 76; (with_reducible refine HDS.out.mono ?_); rintro x w3 ⟨rfl, O5, hs5, he5⟩; clear f0 f1 f2 f3 z0 z1 z2 z3 zl; obtain ⟨⟨f0, f1, f2, f3⟩, ⟨z0, z1, z2, z3⟩, zl⟩ := HZ0.out _ _ _ (HL4.out.drew.next hs5 he5)))
    all_goals
     have HL5 := hid (HL4.out.drew.next hs5 he5)
     clear q9 q10 q4 q2 p0 p1 p2 p3 f0 f1 f2 f3 z0 z1 z2 z3 zl
     have HDN := hid (HL5.out.done (.int .i64 2) (.int .i64 dv) (.int .i64 ((nv : Int) + 2)) (.int .u8 0))
     rw [HX.out] at HDN
     go_wp2_with fail
     obtain ⟨WW, hWW, hzz, hss, hee⟩ := HDN.out
     rw [hWW]
     clear hWW HDN
     obtain ⟨⟨r0, r1, r2, r3⟩, _, _⟩ := Pk.four hzz
     refine bodyPost_ret (v := .agg #[.int .i64 2, .int .i64 dv, .int .i64 ((nv : Int) + 2), .int .u8 0]) ?_ rfl ?_
     · simp [results, Tryz.results54, go_sem, r0, r1, r2, r3]
     · exact ⟨by rw [HDV.out, HNV.out], O5, hss, by rw [show sf = (((d.one 1 st P).one 2 st 0).len 0 P).dist (cls (((d.one 1 st P).one 2 st 0).lenV 0 P)) from by rw [HSF.out], <- HNV.out]; exact hee⟩
theorem code_dec_sho (hm : ModAt w O cw mo wb v m.lc m.lp m.pb most wm m.l m.r m.st k) (hok : m.Ok nb) (hl : m.l.length <= 1099511627776) (h1 : cw ≠ c) (h2 : cw ≠ cm) (h : DecS w O c cm a tot k gb cap nb tb d) (b1 : d.bit 1 m.st m.here = 1) (b2 : (d.one 1 m.st m.here).bit 2 m.st 0 = 1) (b3 : ((d.one 1 m.st m.here).one 2 m.st 0).repV m.st = 0) (b4 : (((d.one 1 m.st m.here).one 2 m.st 0).rep m.st).bit 4 m.st m.here = 0) :
  Calls Tryz.prog 54 #[.pointer (some ⟨mo, 0, none⟩), .iface 193 (.agg #[.pointer (some ⟨a, 0, none⟩)]), .agg #[.int .i64 0, .int .i64 0, .int .i64 0, .int .u8 0]] w (DecTo w O c cm a tot k gb cap nb tb (((((d.one 1 m.st m.here).one 2 m.st 0).rep m.st).one 4 m.st m.here)) (.agg #[.int .i64 4, .int .i64 0, .int .i64 0, .int .u8 0])) := by
 obtain ⟨f, O1, HL0⟩ := codeD_new hm h h1 h2 ⟨0, 0, 0, 0⟩
 have HL0 := hid HL0
 have hst := hok.st12
 have hP := hok.here
 have hpb := hok.pb4
 have HOK := hid hok
 have HPE := hid (show m.here = m.l.length % 2 ^ m.pb from rfl)
 obtain ⟨sf, hsf⟩ : ∃ sf, sf = ((((d.one 1 m.st m.here).one 2 m.st 0).rep m.st).one 4 m.st m.here) := ⟨_, rfl⟩
 rw [<- hsf]
 have HSF := hid hsf
 clear hsf
 have hc0 : ∀ (W : World) (O' : Paint) (s' : Ds), CodeD w O c cm cw f a tot k gb cap nb mo wb wm most v tb m ⟨0, 0, 0, 0⟩ s' W O' -> (W.cell? ⟨mo, 9, none⟩ = some (.int .i64 m.st) /\ W.cell? ⟨mo, 10, none⟩ = some (.pointer (some ⟨k, 0, none⟩)) /\ W.cell? ⟨mo, 4, none⟩ = some (.pointer (some ⟨wb, 0, none⟩)) /\ W.cell? ⟨mo, 2, none⟩ = some (.int .i64 m.pb)) /\
   (W.cell? ⟨w.heap.size, 0, none⟩ = some (.int .i64 0) /\ W.cell? ⟨w.heap.size, 1, none⟩ = some (.int .i64 0) /\ W.cell? ⟨w.heap.size, 2, none⟩ = some (.int .i64 0) /\ W.cell? ⟨w.heap.size, 3, none⟩ = some (.int .u8 (0 : Int))) := by
  intro W O' s' h
  obtain ⟨q0, q1, q2, q3, q4, q5, q6, q7, q8, q9, q10⟩ := h.mod.cells
  exact ⟨⟨q9, q10, q4, q2⟩, four_i h.hp⟩
 have hz0 : ∀ (W : World) (O' : Paint) (s' : Ds), CodeD w O c cm cw f a tot k gb cap nb mo wb wm most v tb m ⟨0, 0, 0, 0⟩ s' W O' -> (W.frozen? ⟨w.heap.size + 1, 0, none⟩ = false /\ W.frozen? ⟨w.heap.size + 1, 1, none⟩ = false /\ W.frozen? ⟨w.heap.size + 1, 2, none⟩ = false /\ W.frozen? ⟨w.heap.size + 1, 3, none⟩ = false) /\ (W.cell? ⟨w.heap.size + 1, 0, none⟩ = some (.int .i64 0) /\ W.cell? ⟨w.heap.size + 1, 1, none⟩ = some (.int .i64 0) /\ W.cell? ⟨w.heap.size + 1, 2, none⟩ = some (.int .i64 0) /\ W.cell? ⟨w.heap.size + 1, 3, none⟩ = some (.int .u8 0)) /\ w.heap.size + 1 < W.heap.size := fun W O' s' h => ⟨⟨h.hz.free 0, h.hz.free 1, h.hz.free 2, h.hz.free 3⟩, four_i h.hz, h.hz.lt⟩
 have HC0 := hid hc0
 have HZ0 := hid hz0
 clear hc0 hz0
 have B1 := hid b1
 have B2 := hid b2
 have B3 := hid b3
 have B4 := hid b4
 generalize hste : m.st = st at *
 generalize hPe : m.here = P at *
 have HSTE := hid hste
 have HPE2 := hid hPe
 clear hste hPe
 clear hm h hok
 have n_choice : ∀ W : World, (nilAhead 310 193 (.agg #[.pointer (some ⟨a, 0, none⟩)]) "cassone/model.choice").run Tryz.prog W = .ok (some false) W := fun _ => by kernel_rfl
 have m_choice : ∀ W : World, (method 310 193 (.agg #[.pointer (some ⟨a, 0, none⟩)]) "cassone/model.choice").run Tryz.prog W = .ok (139, .agg #[.pointer (some ⟨a, 0, none⟩)]) W := fun _ => by kernel_rfl
 have i1 : (0 : Int) <= (st : Int) := by omega
 have i2 : (st : Int) < 12 := by omega
 have i3 : (0 : Int) <= (P : Int) := by omega
 have i4 : (P : Int) < 16 := by omega
 go_enter Tryz.func54, Tryz.ntmps54
 go_upto_region 1 with (fail)
 generalize (w.alloc (.cells #[.int .i64 0, .int .i64 0, .int .i64 0, .int .u8 (0 : Int)] 37)).alloc (.cells #[.int .i64 0, .int .i64 0, .int .i64 0, .int .u8 0] 37) = W0 at *
 generalize hX : w.heap.size = X at *
 obtain ⟨⟨q9, q10, q4, q2⟩, p0, p1, p2, p3⟩ := HC0.out _ _ _ HL0.out
 go_cut [7, 8] (fun v7 v8 wc => v7 = .pointer (some ⟨k, 0, none⟩) /\ v8 = .int .i64 P /\ ∃ n, wc = W0.drewN n)
 case first =>
  as_aux_lemma =>
  have HLOW := hid (lowest_any m.l.length m.pb (by omega) (by omega))
  rw [<- HPE.out] at HLOW
  go_quiet (first | (go_at_call 71; exact (Wnd.len_any (HL0.out.mod.win.drewN _)).mono (fun _ _ hx => ⟨hx.1, _, hx.2.symm⟩)) | (go_at_call 72; exact (HLOW.out _).mono (fun _ _ hx => ⟨hx.1, _, hx.2.symm⟩)))
  go_wp2_with fail
  go_meet
  exact ⟨rfl, rfl, _, rfl⟩
 case rest =>
  obtain ⟨rfl, rfl, N0, rfl⟩ := hcut
  have HL1 := hid (HL0.out.drewN N0)
  clear q9 q10 q4 q2 p0 p1 p2 p3 HL0
  generalize W0.drewN N0 = W1 at *
  have HX := hid hX
  clear hX
  have HC : Hid (Calls Tryz.prog 139 #[.agg #[.pointer (some ⟨a, 0, none⟩)], .pointer (some ⟨k, st * 16 + P, none⟩), .int .i64 1] W1.drew (DecTo W1.drew O1 c cm a tot k gb cap nb tb (d.one 1 st P) (.int .i64 1))) := hid (by have := dec_one (x := 1) (y := st) (z := P) HL1.out.drew.dec (by unfold isOne; omega) 1; rw [show off 1 st P = st * 16 + P from by simp [off]; omega] at this; rw [B1.out] at this; exact this)
  go_wp2_with fail
  go_cut [45] (fun v45 wc => v45 = .bool false /\ ∃ O', CodeD w O c cm cw f a tot k gb cap nb mo wb wm most v tb m ⟨0, 0, 0, 0⟩ (d.one 1 st P) wc O')
  case first =>
   as_aux_lemma =>
   go_region_held3 (fun W => (W.cell? ⟨mo, 9, none⟩ = some (.int .i64 st) /\ W.cell? ⟨mo, 10, none⟩ = some (.pointer (some ⟨k, 0, none⟩)) /\ W.cell? ⟨mo, 4, none⟩ = some (.pointer (some ⟨wb, 0, none⟩)) /\ W.cell? ⟨mo, 2, none⟩ = some (.int .i64 m.pb)) /\ (W.cell? ⟨X, 0, none⟩ = some (.int .i64 0) /\ W.cell? ⟨X, 1, none⟩ = some (.int .i64 0) /\ W.cell? ⟨X, 2, none⟩ = some (.int .i64 0) /\ W.cell? ⟨X, 3, none⟩ = some (.int .u8 (0 : Int)))) (first | exact HC0.out _ _ _ HL1.out.drew | exact HC0.out _ _ _ (HL1.out.drew.next ‹_› ‹_›) | go_keep) (first | (go_at_call 73; (with_reducible refine (bit_any _ _).mono ?_); rintro x w1 ⟨rfl, rfl⟩) | (go_at_call 139; (with_reducible refine HC.out.mono ?_); rintro x w2 ⟨rfl, O2, hs2, he2⟩))
   all_goals
    go_wp2_with fail
    go_meet
    exact ⟨rfl, O2, HL1.out.drew.next hs2 he2⟩
  case rest =>
   obtain ⟨rfl, O2, hl2⟩ := hcut
   have HL2 := hid hl2
   clear hl2 HC HL1
   generalize wc = W2 at *
   have HC : Hid (Calls Tryz.prog 139 #[.agg #[.pointer (some ⟨a, 0, none⟩)], .pointer (some ⟨k, 192 + st, none⟩), .int .i64 1] W2.drew (DecTo W2.drew O2 c cm a tot k gb cap nb tb ((d.one 1 st P).one 2 st 0) (.int .i64 1))) := hid (by have := dec_one (x := 2) (y := st) (z := 0) HL2.out.drew.dec (by unfold isOne; omega) 1; rw [B2.out] at this; exact this)
   go_wp2_with fail
   go_cut [69] (fun v69 wc => v69 = .bool false /\ ∃ O', CodeD w O c cm cw f a tot k gb cap nb mo wb wm most v tb m ⟨0, 0, 0, 0⟩ ((d.one 1 st P).one 2 st 0) wc O')
   case first =>
    as_aux_lemma =>
    go_region_held3 (fun W => (W.cell? ⟨mo, 9, none⟩ = some (.int .i64 st) /\ W.cell? ⟨mo, 10, none⟩ = some (.pointer (some ⟨k, 0, none⟩)) /\ W.cell? ⟨mo, 4, none⟩ = some (.pointer (some ⟨wb, 0, none⟩)) /\ W.cell? ⟨mo, 2, none⟩ = some (.int .i64 m.pb)) /\ (W.cell? ⟨X, 0, none⟩ = some (.int .i64 0) /\ W.cell? ⟨X, 1, none⟩ = some (.int .i64 0) /\ W.cell? ⟨X, 2, none⟩ = some (.int .i64 0) /\ W.cell? ⟨X, 3, none⟩ = some (.int .u8 (0 : Int)))) (first | exact HC0.out _ _ _ HL2.out.drew | exact HC0.out _ _ _ (HL2.out.drew.next ‹_› ‹_›) | go_keep) (first | (go_at_call 73; (with_reducible refine (bit_any _ _).mono ?_); rintro x w1 ⟨rfl, rfl⟩) | (go_at_call 139; (with_reducible refine HC.out.mono ?_); rintro x w2 ⟨rfl, O2, hs2, he2⟩))
    all_goals
     go_wp2_with fail
     go_meet
     exact ⟨rfl, O2, HL2.out.drew.next hs2 he2⟩
   case rest =>
    obtain ⟨rfl, O3, hl3⟩ := hcut
    have HL3 := hid hl3
    clear hl3 HC HL2
    generalize wc = W3 at *
    obtain ⟨⟨q9, q10, q4, q2⟩, p0, p1, p2, p3⟩ := HC0.out _ _ _ HL3.out
    obtain ⟨⟨f0, f1, f2, f3⟩, ⟨z0, z1, z2, z3⟩, zl⟩ := HZ0.out _ _ _ HL3.out
    have HRP := hid (rep_dec HL3.out.mod (by rw [HSTE.out]; exact hst) h1 h2 HL3.out.dec)
    rw [HSTE.out] at HRP
    rw [B3.out] at HRP
    have HRP2 : Hid (Calls Tryz.prog 77 #[.pointer (some ⟨mo, 0, none⟩), .iface 193 (.agg #[.pointer (some ⟨a, 0, none⟩)]), .int .i64 0] W3 (DecTo W3 O3 c cm a tot k gb cap nb tb (((d.one 1 st P).one 2 st 0).rep st) (.int .i64 0))) := HRP
    clear HRP
    have HRP := HRP2
    clear HRP2
    go_wp2_with fail
    refine HRP.out.mono ?_
    rintro x w2 ⟨rfl, O4, hs4, he4⟩
    have HL4 := hid (HL3.out.next hs4 he4)
    clear hs4 he4 HRP HL3 q9 q10 q4 q2 p0 p1 p2 p3 f0 f1 f2 f3 z0 z1 z2 z3 zl
    generalize w2 = W4 at *
    have HC : Hid (Calls Tryz.prog 139 #[.agg #[.pointer (some ⟨a, 0, none⟩)], .pointer (some ⟨k, 240 + st * 16 + P, none⟩), .int .i64 0] W4.drew (DecTo W4.drew O4 c cm a tot k gb cap nb tb ((((d.one 1 st P).one 2 st 0).rep st).one 4 st P) (.int .i64 0))) := hid (by have := dec_one (x := 4) (y := st) (z := P) HL4.out.drew.dec (by unfold isOne; omega) 0; rw [show off 4 st P = 240 + st * 16 + P from by simp [off]; omega] at this; rw [B4.out] at this; exact this)
    go_wp2_with fail
    go_cut [116] (fun v116 wc => v116 = .bool true /\ ∃ O', CodeD w O c cm cw f a tot k gb cap nb mo wb wm most v tb m ⟨0, 0, 0, 0⟩ ((((d.one 1 st P).one 2 st 0).rep st).one 4 st P) wc O')
    case first =>
     as_aux_lemma =>
     go_region_held3 (fun W => (W.cell? ⟨mo, 9, none⟩ = some (.int .i64 st) /\ W.cell? ⟨mo, 10, none⟩ = some (.pointer (some ⟨k, 0, none⟩)) /\ W.cell? ⟨mo, 4, none⟩ = some (.pointer (some ⟨wb, 0, none⟩)) /\ W.cell? ⟨mo, 2, none⟩ = some (.int .i64 m.pb)) /\ (W.cell? ⟨X, 0, none⟩ = some (.int .i64 0) /\ W.cell? ⟨X, 1, none⟩ = some (.int .i64 0) /\ W.cell? ⟨X, 2, none⟩ = some (.int .i64 0) /\ W.cell? ⟨X, 3, none⟩ = some (.int .u8 (0 : Int)))) (first | exact HC0.out _ _ _ HL4.out.drew | exact HC0.out _ _ _ (HL4.out.drew.next ‹_› ‹_›) | go_keep) (first | (go_at_call 73; (with_reducible refine (bit_any _ _).mono ?_); rintro x w1 ⟨rfl, rfl⟩) | (go_at_call 139; (with_reducible refine HC.out.mono ?_); rintro x w2 ⟨rfl, O2, hs2, he2⟩))
     all_goals
      go_wp2_with fail
      go_meet
      exact ⟨rfl, O2, HL4.out.drew.next hs2 he2⟩
    case rest =>
     obtain ⟨rfl, O5, hl5⟩ := hcut
     have HL5 := hid hl5
     clear hl5 HC HL4
     generalize wc = W5 at *
     obtain ⟨⟨q9, q10, q4, q2⟩, p0, p1, p2, p3⟩ := HC0.out _ _ _ HL5.out
     obtain ⟨⟨f0, f1, f2, f3⟩, ⟨z0, z1, z2, z3⟩, zl⟩ := HZ0.out _ _ _ HL5.out
     have HDN := hid (HL5.out.done (.int .i64 4) (.int .i64 0) (.int .i64 0) (.int .u8 0))
     rw [HX.out] at HDN
     go_wp2_with fail
     obtain ⟨WW, hWW, hzz, hss, hee⟩ := HDN.out
     rw [hWW]
     clear hWW HDN
     obtain ⟨⟨r0, r1, r2, r3⟩, _, _⟩ := Pk.four hzz
     refine bodyPost_ret (v := .agg #[.int .i64 4, .int .i64 0, .int .i64 0, .int .u8 0]) ?_ rfl ?_
     · simp [results, Tryz.results54, go_sem, r0, r1, r2, r3]
     · exact ⟨rfl, O5, hss, by rw [show sf = ((((d.one 1 st P).one 2 st 0).rep st).one 4 st P) from by rw [HSF.out]]; exact hee⟩
end
end Go.Proofs.YtfpoabeihpfeiaaGreat.Mo
