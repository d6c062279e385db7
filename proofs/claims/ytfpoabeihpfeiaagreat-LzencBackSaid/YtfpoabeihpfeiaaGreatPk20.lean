/-
  Package model: which of the last distances, as bits: contracts of codeRep, put (by gen_code.py).
-/
import Derived.Test.YtfpoabeihpfeiaaGreatPk17

set_option maxRecDepth 100000
set_option maxHeartbeats 16000000
set_option linter.unusedVariables false
set_option linter.unusedSimpArgs false
open Go.Lib (hid)
namespace Go.Proofs.YtfpoabeihpfeiaaGreat.Mo
open Go.RowKit
open Rc
open Pk (Rp Pt)
open Wnd (Win)
section
variable {w : World} {O : Paint} {c cm cw a tot k gb cap nb mo wb wm : Nat} {most : Int} {v : Value} {tb : Nat -> Nat -> Nat} {s : Es} {d : Ds} {m : Ms}
theorem rep_enc0 (hm : ModAt w O cw mo wb v m.lc m.lp m.pb most wm m.l m.r m.st k) (hst : m.st < 12) (h1 : cw ≠ c) (h2 : cw ≠ cm) (h : EncS w O c cm a k gb cap nb tb s) (ht : s.e.turns <= 700000) :
  Calls Tryz.prog 77 #[.pointer (some ⟨mo, 0, none⟩), .iface 114 (.agg #[.pointer (some ⟨a, 0, none⟩)]), .int .i64 0] w (EncTo w O c cm a k gb cap nb tb (s.rep m.st 0) (.int .i64 0)) := by
 have HE := hid (show s.rep m.st 0 = (s.one 3 m.st 0 0) from rfl)
 obtain ⟨q0, q1, q2, q3, q4, q5, q6, q7, q8, q9, q10⟩ := hm.cells
 generalize m.st = st at *
 have hc0 : ∀ (W : World) (O' : Paint), Step [c, cm] w O W O' -> W.cell? ⟨mo, 9, none⟩ = some (.int .i64 st) := fun W O' hs => (hs.cell hm.blk.lt (by show O mo ∉ _; rw [hm.blk.2]; simp; exact ⟨h1, h2⟩)).trans q9
 have HC0 := hid hc0
 have HST0 : Hid (Step [c, cm] w O w O) := hid (Step.refl _ w O)
 have n_choice : ∀ W : World, (nilAhead 310 114 (.agg #[.pointer (some ⟨a, 0, none⟩)]) "cassone/model.choice").run Tryz.prog W = .ok (some false) W := fun _ => by kernel_rfl
 have m_choice : ∀ W : World, (method 310 114 (.agg #[.pointer (some ⟨a, 0, none⟩)]) "cassone/model.choice").run Tryz.prog W = .ok (119, .agg #[.pointer (some ⟨a, 0, none⟩)]) W := fun _ => by kernel_rfl
 have i1 : (0 : Int) <= (st : Int) := by omega
 have i2 : (st : Int) < 12 := by omega
 clear hm hc0
 go_enter Tryz.func77, Tryz.ntmps77
 go_wp2_with fail
 have HC : Hid (Calls Tryz.prog 119 #[.agg #[.pointer (some ⟨a, 0, none⟩)], .pointer (some ⟨k, 204 + st, none⟩), .int .i64 0] w.drew (EncTo w.drew O c cm a k gb cap nb tb (s.one 3 st 0 0) (.int .i64 0))) := hid (enc_one (x := 3) (y := st) (z := 0) (b := 0) h.drew (by omega) (by unfold isOne; omega) (by omega))
 have HD0 : Hid (w.drew.cell? ⟨mo, 9, none⟩ = some (.int .i64 st)) := hid (HC0.out _ _ HST0.out.drew)
 go_cut [28] (fun v28 wc => v28 = .bool true /\ ∃ O', Step [c, cm] w O wc O' /\ EncS wc O' c cm a k gb cap nb tb (s.one 3 st 0 0))
 case first =>
  as_aux_lemma =>
  go_region_held3 (fun W => W.cell? ⟨mo, 9, none⟩ = some (.int .i64 st)) (first | exact HD0.out | exact HC0.out _ _ (HST0.out.trans (Step.from_drew ‹_›)) | go_keep) (first | (go_at_call 73; (with_reducible refine (bit_any _ _).mono ?_); rintro x w1 ⟨rfl, rfl⟩) | (go_at_call 119; (with_reducible refine HC.out.mono ?_); rintro x w2 ⟨rfl, O2, hs2, he2⟩))
  all_goals
   go_wp2_with fail
   go_meet
   exact ⟨rfl, O2, HST0.out.trans hs2.from_drew, he2⟩
 case rest =>
  obtain ⟨rfl, O1, hs1, he1⟩ := hcut
  have HST1 := hid hs1
  clear hs1 HC HD0
  have HEF := hid he1
  clear he1
  go_wp2_with fail
  go_ret
  exact ⟨rfl, O1, HST1.out, by rw [HE.out]; exact HEF.out⟩
theorem rep_enc1 (hm : ModAt w O cw mo wb v m.lc m.lp m.pb most wm m.l m.r m.st k) (hst : m.st < 12) (h1 : cw ≠ c) (h2 : cw ≠ cm) (h : EncS w O c cm a k gb cap nb tb s) (ht : s.e.turns <= 700000) :
  Calls Tryz.prog 77 #[.pointer (some ⟨mo, 0, none⟩), .iface 114 (.agg #[.pointer (some ⟨a, 0, none⟩)]), .int .i64 1] w (EncTo w O c cm a k gb cap nb tb (s.rep m.st 1) (.int .i64 1)) := by
 have HE := hid (show s.rep m.st 1 = ((s.one 3 m.st 0 1).one 5 m.st 0 0) from rfl)
 have t0 := s.one_turns 3 m.st 0 1
 obtain ⟨q0, q1, q2, q3, q4, q5, q6, q7, q8, q9, q10⟩ := hm.cells
 generalize m.st = st at *
 have hc0 : ∀ (W : World) (O' : Paint), Step [c, cm] w O W O' -> W.cell? ⟨mo, 9, none⟩ = some (.int .i64 st) := fun W O' hs => (hs.cell hm.blk.lt (by show O mo ∉ _; rw [hm.blk.2]; simp; exact ⟨h1, h2⟩)).trans q9
 have HC0 := hid hc0
 have HST0 : Hid (Step [c, cm] w O w O) := hid (Step.refl _ w O)
 have n_choice : ∀ W : World, (nilAhead 310 114 (.agg #[.pointer (some ⟨a, 0, none⟩)]) "cassone/model.choice").run Tryz.prog W = .ok (some false) W := fun _ => by kernel_rfl
 have m_choice : ∀ W : World, (method 310 114 (.agg #[.pointer (some ⟨a, 0, none⟩)]) "cassone/model.choice").run Tryz.prog W = .ok (119, .agg #[.pointer (some ⟨a, 0, none⟩)]) W := fun _ => by kernel_rfl
 have i1 : (0 : Int) <= (st : Int) := by omega
 have i2 : (st : Int) < 12 := by omega
 clear hm hc0
 go_enter Tryz.func77, Tryz.ntmps77
 go_wp2_with fail
 have HC : Hid (Calls Tryz.prog 119 #[.agg #[.pointer (some ⟨a, 0, none⟩)], .pointer (some ⟨k, 204 + st, none⟩), .int .i64 1] w.drew (EncTo w.drew O c cm a k gb cap nb tb (s.one 3 st 0 1) (.int .i64 1))) := hid (enc_one (x := 3) (y := st) (z := 0) (b := 1) h.drew (by omega) (by unfold isOne; omega) (by omega))
 have HD0 : Hid (w.drew.cell? ⟨mo, 9, none⟩ = some (.int .i64 st)) := hid (HC0.out _ _ HST0.out.drew)
 go_cut [28] (fun v28 wc => v28 = .bool false /\ ∃ O', Step [c, cm] w O wc O' /\ EncS wc O' c cm a k gb cap nb tb (s.one 3 st 0 1))
 case first =>
  as_aux_lemma =>
  go_region_held3 (fun W => W.cell? ⟨mo, 9, none⟩ = some (.int .i64 st)) (first | exact HD0.out | exact HC0.out _ _ (HST0.out.trans (Step.from_drew ‹_›)) | go_keep) (first | (go_at_call 73; (with_reducible refine (bit_any _ _).mono ?_); rintro x w1 ⟨rfl, rfl⟩) | (go_at_call 119; (with_reducible refine HC.out.mono ?_); rintro x w2 ⟨rfl, O2, hs2, he2⟩))
  all_goals
   go_wp2_with fail
   go_meet
   exact ⟨rfl, O2, HST0.out.trans hs2.from_drew, he2⟩
 case rest =>
  obtain ⟨rfl, O1, hs1, he1⟩ := hcut
  have HST1 := hid hs1
  clear hs1 HC HD0
  generalize hwc0 : wc = W1 at *
  clear hwc0
  have HC : Hid (Calls Tryz.prog 119 #[.agg #[.pointer (some ⟨a, 0, none⟩)], .pointer (some ⟨k, 216 + st, none⟩), .int .i64 0] W1.drew (EncTo W1.drew O1 c cm a k gb cap nb tb ((s.one 3 st 0 1).one 5 st 0 0) (.int .i64 0))) := hid (enc_one (x := 5) (y := st) (z := 0) (b := 0) he1.drew (by omega) (by unfold isOne; omega) (by omega))
  have HD1 : Hid (W1.drew.cell? ⟨mo, 9, none⟩ = some (.int .i64 st)) := hid (HC0.out _ _ HST1.out.drew)
  clear he1
  go_wp2_with fail
  go_cut [45] (fun v45 wc => v45 = .bool true /\ ∃ O', Step [c, cm] w O wc O' /\ EncS wc O' c cm a k gb cap nb tb ((s.one 3 st 0 1).one 5 st 0 0))
  case first =>
   as_aux_lemma =>
   go_region_held3 (fun W => W.cell? ⟨mo, 9, none⟩ = some (.int .i64 st)) (first | exact HD1.out | exact HC0.out _ _ (HST1.out.trans (Step.from_drew ‹_›)) | go_keep) (first | (go_at_call 73; (with_reducible refine (bit_any _ _).mono ?_); rintro x w1 ⟨rfl, rfl⟩) | (go_at_call 119; (with_reducible refine HC.out.mono ?_); rintro x w2 ⟨rfl, O2, hs2, he2⟩))
   all_goals
    go_wp2_with fail
    go_meet
    exact ⟨rfl, O2, HST1.out.trans hs2.from_drew, he2⟩
  case rest =>
   obtain ⟨rfl, O2, hs2, he2⟩ := hcut
   have HST2 := hid hs2
   clear hs2 HC HD1
   have HEF := hid he2
   clear he2
   go_wp2_with fail
   go_ret
   exact ⟨rfl, O2, HST2.out, by rw [HE.out]; exact HEF.out⟩
theorem rep_enc2 (hm : ModAt w O cw mo wb v m.lc m.lp m.pb most wm m.l m.r m.st k) (hst : m.st < 12) (h1 : cw ≠ c) (h2 : cw ≠ cm) (h : EncS w O c cm a k gb cap nb tb s) (ht : s.e.turns <= 700000) :
  Calls Tryz.prog 77 #[.pointer (some ⟨mo, 0, none⟩), .iface 114 (.agg #[.pointer (some ⟨a, 0, none⟩)]), .int .i64 2] w (EncTo w O c cm a k gb cap nb tb (s.rep m.st 2) (.int .i64 2)) := by
 have HE := hid (show s.rep m.st 2 = (((s.one 3 m.st 0 1).one 5 m.st 0 1).one 6 m.st 0 0) from rfl)
 have t0 := s.one_turns 3 m.st 0 1
 have t1 := (s.one 3 m.st 0 1).one_turns 5 m.st 0 1
 obtain ⟨q0, q1, q2, q3, q4, q5, q6, q7, q8, q9, q10⟩ := hm.cells
 generalize m.st = st at *
 have hc0 : ∀ (W : World) (O' : Paint), Step [c, cm] w O W O' -> W.cell? ⟨mo, 9, none⟩ = some (.int .i64 st) := fun W O' hs => (hs.cell hm.blk.lt (by show O mo ∉ _; rw [hm.blk.2]; simp; exact ⟨h1, h2⟩)).trans q9
 have HC0 := hid hc0
 have HST0 : Hid (Step [c, cm] w O w O) := hid (Step.refl _ w O)
 have n_choice : ∀ W : World, (nilAhead 310 114 (.agg #[.pointer (some ⟨a, 0, none⟩)]) "cassone/model.choice").run Tryz.prog W = .ok (some false) W := fun _ => by kernel_rfl
 have m_choice : ∀ W : World, (method 310 114 (.agg #[.pointer (some ⟨a, 0, none⟩)]) "cassone/model.choice").run Tryz.prog W = .ok (119, .agg #[.pointer (some ⟨a, 0, none⟩)]) W := fun _ => by kernel_rfl
 have i1 : (0 : Int) <= (st : Int) := by omega
 have i2 : (st : Int) < 12 := by omega
 clear hm hc0
 go_enter Tryz.func77, Tryz.ntmps77
 go_wp2_with fail
 have HC : Hid (Calls Tryz.prog 119 #[.agg #[.pointer (some ⟨a, 0, none⟩)], .pointer (some ⟨k, 204 + st, none⟩), .int .i64 1] w.drew (EncTo w.drew O c cm a k gb cap nb tb (s.one 3 st 0 1) (.int .i64 1))) := hid (enc_one (x := 3) (y := st) (z := 0) (b := 1) h.drew (by omega) (by unfold isOne; omega) (by omega))
 have HD0 : Hid (w.drew.cell? ⟨mo, 9, none⟩ = some (.int .i64 st)) := hid (HC0.out _ _ HST0.out.drew)
 go_cut [28] (fun v28 wc => v28 = .bool false /\ ∃ O', Step [c, cm] w O wc O' /\ EncS wc O' c cm a k gb cap nb tb (s.one 3 st 0 1))
 case first =>
  as_aux_lemma =>
  go_region_held3 (fun W => W.cell? ⟨mo, 9, none⟩ = some (.int .i64 st)) (first | exact HD0.out | exact HC0.out _ _ (HST0.out.trans (Step.from_drew ‹_›)) | go_keep) (first | (go_at_call 73; (with_reducible refine (bit_any _ _).mono ?_); rintro x w1 ⟨rfl, rfl⟩) | (go_at_call 119; (with_reducible refine HC.out.mono ?_); rintro x w2 ⟨rfl, O2, hs2, he2⟩))
  all_goals
   go_wp2_with fail
   go_meet
   exact ⟨rfl, O2, HST0.out.trans hs2.from_drew, he2⟩
 case rest =>
  obtain ⟨rfl, O1, hs1, he1⟩ := hcut
  have HST1 := hid hs1
  clear hs1 HC HD0
  generalize hwc0 : wc = W1 at *
  clear hwc0
  have HC : Hid (Calls Tryz.prog 119 #[.agg #[.pointer (some ⟨a, 0, none⟩)], .pointer (some ⟨k, 216 + st, none⟩), .int .i64 1] W1.drew (EncTo W1.drew O1 c cm a k gb cap nb tb ((s.one 3 st 0 1).one 5 st 0 1) (.int .i64 1))) := hid (enc_one (x := 5) (y := st) (z := 0) (b := 1) he1.drew (by omega) (by unfold isOne; omega) (by omega))
  have HD1 : Hid (W1.drew.cell? ⟨mo, 9, none⟩ = some (.int .i64 st)) := hid (HC0.out _ _ HST1.out.drew)
  clear he1
  go_wp2_with fail
  go_cut [45] (fun v45 wc => v45 = .bool false /\ ∃ O', Step [c, cm] w O wc O' /\ EncS wc O' c cm a k gb cap nb tb ((s.one 3 st 0 1).one 5 st 0 1))
  case first =>
   as_aux_lemma =>
   go_region_held3 (fun W => W.cell? ⟨mo, 9, none⟩ = some (.int .i64 st)) (first | exact HD1.out | exact HC0.out _ _ (HST1.out.trans (Step.from_drew ‹_›)) | go_keep) (first | (go_at_call 73; (with_reducible refine (bit_any _ _).mono ?_); rintro x w1 ⟨rfl, rfl⟩) | (go_at_call 119; (with_reducible refine HC.out.mono ?_); rintro x w2 ⟨rfl, O2, hs2, he2⟩))
   all_goals
    go_wp2_with fail
    go_meet
    exact ⟨rfl, O2, HST1.out.trans hs2.from_drew, he2⟩
  case rest =>
   obtain ⟨rfl, O2, hs2, he2⟩ := hcut
   have HST2 := hid hs2
   clear hs2 HC HD1
   generalize hwc1 : wc = W2 at *
   clear hwc1
   have HC : Hid (Calls Tryz.prog 119 #[.agg #[.pointer (some ⟨a, 0, none⟩)], .pointer (some ⟨k, 228 + st, none⟩), .int .i64 0] W2.drew (EncTo W2.drew O2 c cm a k gb cap nb tb (((s.one 3 st 0 1).one 5 st 0 1).one 6 st 0 0) (.int .i64 0))) := hid (enc_one (x := 6) (y := st) (z := 0) (b := 0) he2.drew (by omega) (by unfold isOne; omega) (by omega))
   have HD2 : Hid (W2.drew.cell? ⟨mo, 9, none⟩ = some (.int .i64 st)) := hid (HC0.out _ _ HST2.out.drew)
   clear he2
   go_wp2_with fail
   go_cut [6] (fun v6 wc => v6 = .int .i64 2 /\ ∃ O', Step [c, cm] w O wc O' /\ EncS wc O' c cm a k gb cap nb tb (((s.one 3 st 0 1).one 5 st 0 1).one 6 st 0 0))
   case first =>
    as_aux_lemma =>
    go_region_held3 (fun W => W.cell? ⟨mo, 9, none⟩ = some (.int .i64 st)) (first | exact HD2.out | exact HC0.out _ _ (HST2.out.trans (Step.from_drew ‹_›)) | go_keep) (first | (go_at_call 73; (with_reducible refine (bit_any _ _).mono ?_); rintro x w1 ⟨rfl, rfl⟩) | (go_at_call 119; (with_reducible refine HC.out.mono ?_); rintro x w2 ⟨rfl, O2, hs2, he2⟩))
    all_goals
     go_wp2_with fail
     go_meet
     exact ⟨rfl, O2, HST2.out.trans hs2.from_drew, he2⟩
   case rest =>
    obtain ⟨rfl, O3, hs3, he3⟩ := hcut
    have HST3 := hid hs3
    clear hs3 HC HD2
    have HEF := hid he3
    clear he3
    go_wp2_with fail
    go_ret
    exact ⟨rfl, O3, HST3.out, by rw [HE.out]; exact HEF.out⟩
theorem rep_enc3 (hm : ModAt w O cw mo wb v m.lc m.lp m.pb most wm m.l m.r m.st k) (hst : m.st < 12) (h1 : cw ≠ c) (h2 : cw ≠ cm) (h : EncS w O c cm a k gb cap nb tb s) (ht : s.e.turns <= 700000) :
  Calls Tryz.prog 77 #[.pointer (some ⟨mo, 0, none⟩), .iface 114 (.agg #[.pointer (some ⟨a, 0, none⟩)]), .int .i64 3] w (EncTo w O c cm a k gb cap nb tb (s.rep m.st 3) (.int .i64 3)) := by
 have HE := hid (show s.rep m.st 3 = (((s.one 3 m.st 0 1).one 5 m.st 0 1).one 6 m.st 0 1) from rfl)
 have t0 := s.one_turns 3 m.st 0 1
 have t1 := (s.one 3 m.st 0 1).one_turns 5 m.st 0 1
 obtain ⟨q0, q1, q2, q3, q4, q5, q6, q7, q8, q9, q10⟩ := hm.cells
 generalize m.st = st at *
 have hc0 : ∀ (W : World) (O' : Paint), Step [c, cm] w O W O' -> W.cell? ⟨mo, 9, none⟩ = some (.int .i64 st) := fun W O' hs => (hs.cell hm.blk.lt (by show O mo ∉ _; rw [hm.blk.2]; simp; exact ⟨h1, h2⟩)).trans q9
 have HC0 := hid hc0
 have HST0 : Hid (Step [c, cm] w O w O) := hid (Step.refl _ w O)
 have n_choice : ∀ W : World, (nilAhead 310 114 (.agg #[.pointer (some ⟨a, 0, none⟩)]) "cassone/model.choice").run Tryz.prog W = .ok (some false) W := fun _ => by kernel_rfl
 have m_choice : ∀ W : World, (method 310 114 (.agg #[.pointer (some ⟨a, 0, none⟩)]) "cassone/model.choice").run Tryz.prog W = .ok (119, .agg #[.pointer (some ⟨a, 0, none⟩)]) W := fun _ => by kernel_rfl
 have i1 : (0 : Int) <= (st : Int) := by omega
 have i2 : (st : Int) < 12 := by omega
 clear hm hc0
 go_enter Tryz.func77, Tryz.ntmps77
 go_wp2_with fail
 have HC : Hid (Calls Tryz.prog 119 #[.agg #[.pointer (some ⟨a, 0, none⟩)], .pointer (some ⟨k, 204 + st, none⟩), .int .i64 1] w.drew (EncTo w.drew O c cm a k gb cap nb tb (s.one 3 st 0 1) (.int .i64 1))) := hid (enc_one (x := 3) (y := st) (z := 0) (b := 1) h.drew (by omega) (by unfold isOne; omega) (by omega))
 have HD0 : Hid (w.drew.cell? ⟨mo, 9, none⟩ = some (.int .i64 st)) := hid (HC0.out _ _ HST0.out.drew)
 go_cut [28] (fun v28 wc => v28 = .bool false /\ ∃ O', Step [c, cm] w O wc O' /\ EncS wc O' c cm a k gb cap nb tb (s.one 3 st 0 1))
 case first =>
  as_aux_lemma =>
  go_region_held3 (fun W => W.cell? ⟨mo, 9, none⟩ = some (.int .i64 st)) (first | exact HD0.out | exact HC0.out _ _ (HST0.out.trans (Step.from_drew ‹_›)) | go_keep) (first | (go_at_call 73; (with_reducible refine (bit_any _ _).mono ?_); rintro x w1 ⟨rfl, rfl⟩) | (go_at_call 119; (with_reducible refine HC.out.mono ?_); rintro x w2 ⟨rfl, O2, hs2, he2⟩))
  all_goals
   go_wp2_with fail
   go_meet
   exact ⟨rfl, O2, HST0.out.trans hs2.from_drew, he2⟩
 case rest =>
  obtain ⟨rfl, O1, hs1, he1⟩ := hcut
  have HST1 := hid hs1
  clear hs1 HC HD0
  generalize hwc0 : wc = W1 at *
  clear hwc0
  have HC : Hid (Calls Tryz.prog 119 #[.agg #[.pointer (some ⟨a, 0, none⟩)], .pointer (some ⟨k, 216 + st, none⟩), .int .i64 1] W1.drew (EncTo W1.drew O1 c cm a k gb cap nb tb ((s.one 3 st 0 1).one 5 st 0 1) (.int .i64 1))) := hid (enc_one (x := 5) (y := st) (z := 0) (b := 1) he1.drew (by omega) (by unfold isOne; omega) (by omega))
  have HD1 : Hid (W1.drew.cell? ⟨mo, 9, none⟩ = some (.int .i64 st)) := hid (HC0.out _ _ HST1.out.drew)
  clear he1
  go_wp2_with fail
  go_cut [45] (fun v45 wc => v45 = .bool false /\ ∃ O', Step [c, cm] w O wc O' /\ EncS wc O' c cm a k gb cap nb tb ((s.one 3 st 0 1).one 5 st 0 1))
  case first =>
   as_aux_lemma =>
   go_region_held3 (fun W => W.cell? ⟨mo, 9, none⟩ = some (.int .i64 st)) (first | exact HD1.out | exact HC0.out _ _ (HST1.out.trans (Step.from_drew ‹_›)) | go_keep) (first | (go_at_call 73; (with_reducible refine (bit_any _ _).mono ?_); rintro x w1 ⟨rfl, rfl⟩) | (go_at_call 119; (with_reducible refine HC.out.mono ?_); rintro x w2 ⟨rfl, O2, hs2, he2⟩))
   all_goals
    go_wp2_with fail
    go_meet
    exact ⟨rfl, O2, HST1.out.trans hs2.from_drew, he2⟩
  case rest =>
   obtain ⟨rfl, O2, hs2, he2⟩ := hcut
   have HST2 := hid hs2
   clear hs2 HC HD1
   generalize hwc1 : wc = W2 at *
   clear hwc1
   have HC : Hid (Calls Tryz.prog 119 #[.agg #[.pointer (some ⟨a, 0, none⟩)], .pointer (some ⟨k, 228 + st, none⟩), .int .i64 1] W2.drew (EncTo W2.drew O2 c cm a k gb cap nb tb (((s.one 3 st 0 1).one 5 st 0 1).one 6 st 0 1) (.int .i64 1))) := hid (enc_one (x := 6) (y := st) (z := 0) (b := 1) he2.drew (by omega) (by unfold isOne; omega) (by omega))
   have HD2 : Hid (W2.drew.cell? ⟨mo, 9, none⟩ = some (.int .i64 st)) := hid (HC0.out _ _ HST2.out.drew)
   clear he2
   go_wp2_with fail
   go_cut [6] (fun v6 wc => v6 = .int .i64 3 /\ ∃ O', Step [c, cm] w O wc O' /\ EncS wc O' c cm a k gb cap nb tb (((s.one 3 st 0 1).one 5 st 0 1).one 6 st 0 1))
   case first =>
    as_aux_lemma =>
    go_region_held3 (fun W => W.cell? ⟨mo, 9, none⟩ = some (.int .i64 st)) (first | exact HD2.out | exact HC0.out _ _ (HST2.out.trans (Step.from_drew ‹_›)) | go_keep) (first | (go_at_call 73; (with_reducible refine (bit_any _ _).mono ?_); rintro x w1 ⟨rfl, rfl⟩) | (go_at_call 119; (with_reducible refine HC.out.mono ?_); rintro x w2 ⟨rfl, O2, hs2, he2⟩))
    all_goals
     go_wp2_with fail
     go_meet
     exact ⟨rfl, O2, HST2.out.trans hs2.from_drew, he2⟩
   case rest =>
    obtain ⟨rfl, O3, hs3, he3⟩ := hcut
    have HST3 := hid hs3
    clear hs3 HC HD2
    have HEF := hid he3
    clear he3
    go_wp2_with fail
    go_ret
    exact ⟨rfl, O3, HST3.out, by rw [HE.out]; exact HEF.out⟩
end
end Go.Proofs.YtfpoabeihpfeiaaGreat.Mo
