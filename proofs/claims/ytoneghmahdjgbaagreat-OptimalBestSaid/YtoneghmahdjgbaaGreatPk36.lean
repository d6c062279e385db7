/-
  Package model: which of the last distances, as bits: contracts of codeRep, got (by gen_code.py).
  Package model: a packet as bits: the objects of code, and the contract of code for each kind of packet, put.
-/
import Derived.Test.YtoneghmahdjgbaaGreatPk30
import Derived.Test.YtoneghmahdjgbaaGreatPk34
import Derived.Test.YtoneghmahdjgbaaGreatPk35
import Derived.Test.YtoneghmahdjgbaaGreatPk52

section
set_option linter.unusedVariables false
namespace Go.Proofs.YtoneghmahdjgbaaGreat.Mo
open Go.RowKit
open Rc
open Pk (Rp Pt)
open Wnd (Win)
section
variable {w : World} {O : Paint} {c cm cw a tot k gb cap nb mo wb wm : Nat} {most : Int} {v : Value} {tb : Nat → Nat → Nat} {s : Es} {d : Ds} {m : Ms}
set_option maxRecDepth 100000 in
set_option maxHeartbeats 4000000 in
theorem rep_dec0 (hm : ModAt w O cw mo wb v m.lc m.lp m.pb most wm m.l m.r m.st k) (hst : m.st < 12) (h1 : cw ≠ c) (h2 : cw ≠ cm) (h : DecS w O c cm a tot k gb cap nb tb d) (b0 : d.bit 3 m.st 0 = 0) :
    Calls Tryz.prog 79 #[.pointer (some ⟨mo, 0, none⟩), .iface 219 (.agg #[.pointer (some ⟨a, 0, none⟩)]), .int .i64 0] w (DecTo w O c cm a tot k gb cap nb tb (d.rep m.st) (.int .i64 0)) := by
  have HE := Lib.hid (show d.rep m.st = (d.one 3 m.st 0) by unfold Ds.rep; rw [if_pos b0])
  obtain ⟨q0, q1, q2, q3, q4, q5, q6, q7, q8, q9, q10⟩ := hm.cells
  generalize m.st = st at *
  have hc0 : ∀ (W : World) (O' : Paint), Step [c, cm] w O W O' → W.cell? ⟨mo, 9, none⟩ = some (.int .i64 (st : Int)) := fun W O' hs => (hs.cell hm.blk.lt (by show O mo ∉ _; rw [hm.blk.2]; simp; exact ⟨h1, h2⟩)).trans q9
  have HC0 := Lib.hid hc0
  have HST0 : Hid (Step [c, cm] w O w O) := Lib.hid (Step.refl _ w O)
  have n_choice : ∀ W : World, (nilAhead 326 219 (.agg #[.pointer (some ⟨a, 0, none⟩)]) "cassone/model.choice").run Tryz.prog W = .ok (some false) W := fun _ => by kernel_rfl
  have m_choice : ∀ W : World, (method 326 219 (.agg #[.pointer (some ⟨a, 0, none⟩)]) "cassone/model.choice").run Tryz.prog W = .ok (143, .agg #[.pointer (some ⟨a, 0, none⟩)]) W := fun _ => by kernel_rfl
  have i1 : (0 : Int) ≤ (st : Int) := by omega
  have i2 : (st : Int) < 12 := by omega
  clear hm hc0
  go_enter Tryz.func79, Tryz.ntmps79
  go_wp2_with fail
  have HC : Hid (Calls Tryz.prog 143 #[.agg #[.pointer (some ⟨a, 0, none⟩)], .pointer (some ⟨k, 204 + st, none⟩), .int .i64 0] w.drew (DecTo w.drew O c cm a tot k gb cap nb tb (d.one 3 st 0) (.int .i64 0))) := Lib.hid (by have := dec_one (x := 3) (y := st) (z := 0) h.drew (by unfold isOne; omega) 0; rw [b0] at this; exact this)
  have HD0 : Hid (w.drew.cell? ⟨mo, 9, none⟩ = some (.int .i64 (st : Int))) := Lib.hid (HC0.out _ _ HST0.out.drew)
  go_cut [28] (fun v28 wc => v28 = .bool true ∧ ∃ O', Step [c, cm] w O wc O' ∧ DecS wc O' c cm a tot k gb cap nb tb (d.one 3 st 0))
  case first =>
    as_aux_lemma =>
    go_region_held3 (fun W => W.cell? ⟨mo, 9, none⟩ = some (.int .i64 (st : Int))) (first | exact HD0.out | exact HC0.out _ _ (HST0.out.trans (Step.from_drew ‹_›)) | go_keep) (first | (go_at_call 75; (with_reducible refine (bit_any _ _).mono ?_); rintro x w1 ⟨rfl, rfl⟩) | (go_at_call 143; (with_reducible refine HC.out.mono ?_); rintro x w2 ⟨rfl, O2, hs2, he2⟩))
    all_goals
      go_wp2_with fail
      go_meet
      exact ⟨rfl, O2, HST0.out.trans hs2.from_drew, he2⟩
  case rest =>
    obtain ⟨rfl, O1, hs1, he1⟩ := hcut
    have HST1 := Lib.hid hs1
    clear hs1 HC HD0
    have HEF := Lib.hid he1
    clear he1
    go_wp2_with fail
    go_ret
    exact ⟨rfl, O1, HST1.out, by rw [HE.out]; exact HEF.out⟩
set_option maxRecDepth 100000 in
set_option maxHeartbeats 4000000 in
theorem rep_dec1 (hm : ModAt w O cw mo wb v m.lc m.lp m.pb most wm m.l m.r m.st k) (hst : m.st < 12) (h1 : cw ≠ c) (h2 : cw ≠ cm) (h : DecS w O c cm a tot k gb cap nb tb d) (b0 : d.bit 3 m.st 0 = 1) (b1 : (d.one 3 m.st 0).bit 5 m.st 0 = 0) :
    Calls Tryz.prog 79 #[.pointer (some ⟨mo, 0, none⟩), .iface 219 (.agg #[.pointer (some ⟨a, 0, none⟩)]), .int .i64 0] w (DecTo w O c cm a tot k gb cap nb tb (d.rep m.st) (.int .i64 1)) := by
  have HE := Lib.hid (show d.rep m.st = ((d.one 3 m.st 0).one 5 m.st 0) by unfold Ds.rep; rw [if_neg (show ¬ d.bit 3 m.st 0 = 0 by omega), if_pos b1])
  obtain ⟨q0, q1, q2, q3, q4, q5, q6, q7, q8, q9, q10⟩ := hm.cells
  generalize m.st = st at *
  have hc0 : ∀ (W : World) (O' : Paint), Step [c, cm] w O W O' → W.cell? ⟨mo, 9, none⟩ = some (.int .i64 (st : Int)) := fun W O' hs => (hs.cell hm.blk.lt (by show O mo ∉ _; rw [hm.blk.2]; simp; exact ⟨h1, h2⟩)).trans q9
  have HC0 := Lib.hid hc0
  have HST0 : Hid (Step [c, cm] w O w O) := Lib.hid (Step.refl _ w O)
  have n_choice : ∀ W : World, (nilAhead 326 219 (.agg #[.pointer (some ⟨a, 0, none⟩)]) "cassone/model.choice").run Tryz.prog W = .ok (some false) W := fun _ => by kernel_rfl
  have m_choice : ∀ W : World, (method 326 219 (.agg #[.pointer (some ⟨a, 0, none⟩)]) "cassone/model.choice").run Tryz.prog W = .ok (143, .agg #[.pointer (some ⟨a, 0, none⟩)]) W := fun _ => by kernel_rfl
  have i1 : (0 : Int) ≤ (st : Int) := by omega
  have i2 : (st : Int) < 12 := by omega
  clear hm hc0
  go_enter Tryz.func79, Tryz.ntmps79
  go_wp2_with fail
  have HC : Hid (Calls Tryz.prog 143 #[.agg #[.pointer (some ⟨a, 0, none⟩)], .pointer (some ⟨k, 204 + st, none⟩), .int .i64 0] w.drew (DecTo w.drew O c cm a tot k gb cap nb tb (d.one 3 st 0) (.int .i64 1))) := Lib.hid (by have := dec_one (x := 3) (y := st) (z := 0) h.drew (by unfold isOne; omega) 0; rw [b0] at this; exact this)
  have HD0 : Hid (w.drew.cell? ⟨mo, 9, none⟩ = some (.int .i64 (st : Int))) := Lib.hid (HC0.out _ _ HST0.out.drew)
  go_cut [28] (fun v28 wc => v28 = .bool false ∧ ∃ O', Step [c, cm] w O wc O' ∧ DecS wc O' c cm a tot k gb cap nb tb (d.one 3 st 0))
  case first =>
    as_aux_lemma =>
    go_region_held3 (fun W => W.cell? ⟨mo, 9, none⟩ = some (.int .i64 (st : Int))) (first | exact HD0.out | exact HC0.out _ _ (HST0.out.trans (Step.from_drew ‹_›)) | go_keep) (first | (go_at_call 75; (with_reducible refine (bit_any _ _).mono ?_); rintro x w1 ⟨rfl, rfl⟩) | (go_at_call 143; (with_reducible refine HC.out.mono ?_); rintro x w2 ⟨rfl, O2, hs2, he2⟩))
    all_goals
      go_wp2_with fail
      go_meet
      exact ⟨rfl, O2, HST0.out.trans hs2.from_drew, he2⟩
  case rest =>
    obtain ⟨rfl, O1, hs1, he1⟩ := hcut
    have HST1 := Lib.hid hs1
    clear hs1 HC HD0
    generalize hwc0 : wc = W1 at *
    clear hwc0
    have HC : Hid (Calls Tryz.prog 143 #[.agg #[.pointer (some ⟨a, 0, none⟩)], .pointer (some ⟨k, 216 + st, none⟩), .int .i64 0] W1.drew (DecTo W1.drew O1 c cm a tot k gb cap nb tb ((d.one 3 st 0).one 5 st 0) (.int .i64 0))) := Lib.hid (by have := dec_one (x := 5) (y := st) (z := 0) he1.drew (by unfold isOne; omega) 0; rw [b1] at this; exact this)
    have HD1 : Hid (W1.drew.cell? ⟨mo, 9, none⟩ = some (.int .i64 (st : Int))) := Lib.hid (HC0.out _ _ HST1.out.drew)
    clear he1
    go_wp2_with fail
    go_cut [45] (fun v45 wc => v45 = .bool true ∧ ∃ O', Step [c, cm] w O wc O' ∧ DecS wc O' c cm a tot k gb cap nb tb ((d.one 3 st 0).one 5 st 0))
    case first =>
      as_aux_lemma =>
      go_region_held3 (fun W => W.cell? ⟨mo, 9, none⟩ = some (.int .i64 (st : Int))) (first | exact HD1.out | exact HC0.out _ _ (HST1.out.trans (Step.from_drew ‹_›)) | go_keep) (first | (go_at_call 75; (with_reducible refine (bit_any _ _).mono ?_); rintro x w1 ⟨rfl, rfl⟩) | (go_at_call 143; (with_reducible refine HC.out.mono ?_); rintro x w2 ⟨rfl, O2, hs2, he2⟩))
      all_goals
        go_wp2_with fail
        go_meet
        exact ⟨rfl, O2, HST1.out.trans hs2.from_drew, he2⟩
    case rest =>
      obtain ⟨rfl, O2, hs2, he2⟩ := hcut
      have HST2 := Lib.hid hs2
      clear hs2 HC HD1
      have HEF := Lib.hid he2
      clear he2
      go_wp2_with fail
      go_ret
      exact ⟨rfl, O2, HST2.out, by rw [HE.out]; exact HEF.out⟩
set_option maxRecDepth 100000 in
set_option maxHeartbeats 4000000 in
theorem rep_dec2 (hm : ModAt w O cw mo wb v m.lc m.lp m.pb most wm m.l m.r m.st k) (hst : m.st < 12) (h1 : cw ≠ c) (h2 : cw ≠ cm) (h : DecS w O c cm a tot k gb cap nb tb d) (b0 : d.bit 3 m.st 0 = 1) (b1 : (d.one 3 m.st 0).bit 5 m.st 0 = 1) :
    Calls Tryz.prog 79 #[.pointer (some ⟨mo, 0, none⟩), .iface 219 (.agg #[.pointer (some ⟨a, 0, none⟩)]), .int .i64 0] w (DecTo w O c cm a tot k gb cap nb tb (d.rep m.st) (.int .i64 (d.repV m.st : Int))) := by
  have HE := Lib.hid (show d.rep m.st = (((d.one 3 m.st 0).one 5 m.st 0).one 6 m.st 0) by unfold Ds.rep; rw [if_neg (show ¬ d.bit 3 m.st 0 = 0 by omega), if_neg (show ¬ (d.one 3 m.st 0).bit 5 m.st 0 = 0 by omega)])
  have HV := Lib.hid (show d.repV m.st = 2 + ((d.one 3 m.st 0).one 5 m.st 0).bit 6 m.st 0 by unfold Ds.repV; rw [if_neg (show ¬ d.bit 3 m.st 0 = 0 by omega), if_neg (show ¬ (d.one 3 m.st 0).bit 5 m.st 0 = 0 by omega)])
  have hle := ((d.one 3 m.st 0).one 5 m.st 0).bit_le 6 m.st 0
  obtain ⟨q0, q1, q2, q3, q4, q5, q6, q7, q8, q9, q10⟩ := hm.cells
  generalize m.st = st at *
  have hc0 : ∀ (W : World) (O' : Paint), Step [c, cm] w O W O' → W.cell? ⟨mo, 9, none⟩ = some (.int .i64 (st : Int)) := fun W O' hs => (hs.cell hm.blk.lt (by show O mo ∉ _; rw [hm.blk.2]; simp; exact ⟨h1, h2⟩)).trans q9
  have HC0 := Lib.hid hc0
  have HST0 : Hid (Step [c, cm] w O w O) := Lib.hid (Step.refl _ w O)
  have n_choice : ∀ W : World, (nilAhead 326 219 (.agg #[.pointer (some ⟨a, 0, none⟩)]) "cassone/model.choice").run Tryz.prog W = .ok (some false) W := fun _ => by kernel_rfl
  have m_choice : ∀ W : World, (method 326 219 (.agg #[.pointer (some ⟨a, 0, none⟩)]) "cassone/model.choice").run Tryz.prog W = .ok (143, .agg #[.pointer (some ⟨a, 0, none⟩)]) W := fun _ => by kernel_rfl
  have i1 : (0 : Int) ≤ (st : Int) := by omega
  have i2 : (st : Int) < 12 := by omega
  generalize hbv : ((d.one 3 st 0).one 5 st 0).bit 6 st 0 = bv at *
  have e2 : IntKind.i64.wrap (2 + (bv : Int)) = 2 + (bv : Int) := IntWalk.i64_in _ (by omega)
  clear hm hc0
  go_enter Tryz.func79, Tryz.ntmps79
  go_wp2_with fail
  have HC : Hid (Calls Tryz.prog 143 #[.agg #[.pointer (some ⟨a, 0, none⟩)], .pointer (some ⟨k, 204 + st, none⟩), .int .i64 0] w.drew (DecTo w.drew O c cm a tot k gb cap nb tb (d.one 3 st 0) (.int .i64 1))) := Lib.hid (by have := dec_one (x := 3) (y := st) (z := 0) h.drew (by unfold isOne; omega) 0; rw [b0] at this; exact this)
  have HD0 : Hid (w.drew.cell? ⟨mo, 9, none⟩ = some (.int .i64 (st : Int))) := Lib.hid (HC0.out _ _ HST0.out.drew)
  go_cut [28] (fun v28 wc => v28 = .bool false ∧ ∃ O', Step [c, cm] w O wc O' ∧ DecS wc O' c cm a tot k gb cap nb tb (d.one 3 st 0))
  case first =>
    as_aux_lemma =>
    go_region_held3 (fun W => W.cell? ⟨mo, 9, none⟩ = some (.int .i64 (st : Int))) (first | exact HD0.out | exact HC0.out _ _ (HST0.out.trans (Step.from_drew ‹_›)) | go_keep) (first | (go_at_call 75; (with_reducible refine (bit_any _ _).mono ?_); rintro x w1 ⟨rfl, rfl⟩) | (go_at_call 143; (with_reducible refine HC.out.mono ?_); rintro x w2 ⟨rfl, O2, hs2, he2⟩))
    all_goals
      go_wp2_with fail
      go_meet
      exact ⟨rfl, O2, HST0.out.trans hs2.from_drew, he2⟩
  case rest =>
    obtain ⟨rfl, O1, hs1, he1⟩ := hcut
    have HST1 := Lib.hid hs1
    clear hs1 HC HD0
    generalize hwc0 : wc = W1 at *
    clear hwc0
    have HC : Hid (Calls Tryz.prog 143 #[.agg #[.pointer (some ⟨a, 0, none⟩)], .pointer (some ⟨k, 216 + st, none⟩), .int .i64 0] W1.drew (DecTo W1.drew O1 c cm a tot k gb cap nb tb ((d.one 3 st 0).one 5 st 0) (.int .i64 1))) := Lib.hid (by have := dec_one (x := 5) (y := st) (z := 0) he1.drew (by unfold isOne; omega) 0; rw [b1] at this; exact this)
    have HD1 : Hid (W1.drew.cell? ⟨mo, 9, none⟩ = some (.int .i64 (st : Int))) := Lib.hid (HC0.out _ _ HST1.out.drew)
    clear he1
    go_wp2_with fail
    go_cut [45] (fun v45 wc => v45 = .bool false ∧ ∃ O', Step [c, cm] w O wc O' ∧ DecS wc O' c cm a tot k gb cap nb tb ((d.one 3 st 0).one 5 st 0))
    case first =>
      as_aux_lemma =>
      go_region_held3 (fun W => W.cell? ⟨mo, 9, none⟩ = some (.int .i64 (st : Int))) (first | exact HD1.out | exact HC0.out _ _ (HST1.out.trans (Step.from_drew ‹_›)) | go_keep) (first | (go_at_call 75; (with_reducible refine (bit_any _ _).mono ?_); rintro x w1 ⟨rfl, rfl⟩) | (go_at_call 143; (with_reducible refine HC.out.mono ?_); rintro x w2 ⟨rfl, O2, hs2, he2⟩))
      all_goals
        go_wp2_with fail
        go_meet
        exact ⟨rfl, O2, HST1.out.trans hs2.from_drew, he2⟩
    case rest =>
      obtain ⟨rfl, O2, hs2, he2⟩ := hcut
      have HST2 := Lib.hid hs2
      clear hs2 HC HD1
      generalize hwc1 : wc = W2 at *
      clear hwc1
      have HC : Hid (Calls Tryz.prog 143 #[.agg #[.pointer (some ⟨a, 0, none⟩)], .pointer (some ⟨k, 228 + st, none⟩), .int .i64 0] W2.drew (DecTo W2.drew O2 c cm a tot k gb cap nb tb (((d.one 3 st 0).one 5 st 0).one 6 st 0) (.int .i64 (bv : Int)))) := Lib.hid (by have := dec_one (x := 6) (y := st) (z := 0) he2.drew (by unfold isOne; omega) 0; rw [hbv] at this; exact this)
      have HD2 : Hid (W2.drew.cell? ⟨mo, 9, none⟩ = some (.int .i64 (st : Int))) := Lib.hid (HC0.out _ _ HST2.out.drew)
      clear he2
      go_wp2_with fail
      go_cut [6] (fun v6 wc => v6 = .int .i64 (2 + (bv : Int)) ∧ ∃ O', Step [c, cm] w O wc O' ∧ DecS wc O' c cm a tot k gb cap nb tb (((d.one 3 st 0).one 5 st 0).one 6 st 0))
      case first =>
        as_aux_lemma =>
        go_region_held3 (fun W => W.cell? ⟨mo, 9, none⟩ = some (.int .i64 (st : Int))) (first | exact HD2.out | exact HC0.out _ _ (HST2.out.trans (Step.from_drew ‹_›)) | go_keep) (first | (go_at_call 75; (with_reducible refine (bit_any _ _).mono ?_); rintro x w1 ⟨rfl, rfl⟩) | (go_at_call 143; (with_reducible refine HC.out.mono ?_); rintro x w2 ⟨rfl, O2, hs2, he2⟩))
        all_goals
          go_wp2_with fail
          go_meet
          exact ⟨rfl, O2, HST2.out.trans hs2.from_drew, he2⟩
      case rest =>
        obtain ⟨rfl, O3, hs3, he3⟩ := hcut
        have HST3 := Lib.hid hs3
        clear hs3 HC HD2
        have HEF := Lib.hid he3
        clear he3
        go_wp2_with fail
        go_ret
        exact ⟨by rw [HV.out]; push_cast; rfl, O3, HST3.out, by rw [HE.out]; exact HEF.out⟩
end
end Go.Proofs.YtoneghmahdjgbaaGreat.Mo
end
section
set_option linter.unusedVariables false
namespace Go.Proofs.YtoneghmahdjgbaaGreat.Mo
open Go.RowKit
open Rc
open Pk (Rp Pt)
open Wnd (Win)
/-- The objects while a packet is got: the coder, the model, the packet's own block and the result's. -/
structure CodeD (w0 : World) (O0 : Paint) (c cm cw f a tot k gb cap nb mo wb wm : Nat) (most : Int) (v : Value) (tb : Nat → Nat → Nat) (m : Ms) (p : Pt) (d : Ds) (w : World) (O : Paint) : Prop where
  step : Step [c, cm] w0 O0 w O
  dec : DecS w O c cm a tot k gb cap nb tb d
  mod : ModAt w O cw mo wb v m.lc m.lp m.pb most wm m.l m.r m.st k
  hp : Blk w O f w0.heap.size (.cells #[.int .i64 p.k, .int .i64 p.d, .int .i64 p.n, .int .u8 (p.b : Int)] 33 (0, 0))
  hz : Blk w O f (w0.heap.size + 1) (.cells #[.int .i64 0, .int .i64 0, .int .i64 0, .int .u8 0] 33 (0, 0))
  fne : f ≠ c ∧ f ≠ cm ∧ cw ≠ c ∧ cw ≠ cm
variable {w0 w w' : World} {O0 O O' : Paint} {c cm cw f a k gb cap nb mo wb wm : Nat} {most : Int} {v : Value} {tb : Nat → Nat → Nat} {m : Ms} {p : Pt} {d d' : Ds}
/-- The objects while a packet is put: the coder, the model, the packet's own block and the result's. -/
structure CodeE (w0 : World) (O0 : Paint) (c cm cw f a k gb cap nb mo wb wm : Nat) (most : Int) (v : Value) (tb : Nat → Nat → Nat) (m : Ms) (p : Pt) (s : Es) (w : World) (O : Paint) : Prop where
  step : Step [c, cm] w0 O0 w O
  enc : EncS w O c cm a k gb cap nb tb s
  mod : ModAt w O cw mo wb v m.lc m.lp m.pb most wm m.l m.r m.st k
  hp : Blk w O f w0.heap.size (.cells #[.int .i64 p.k, .int .i64 p.d, .int .i64 p.n, .int .u8 (p.b : Int)] 33 (0, 0))
  hz : Blk w O f (w0.heap.size + 1) (.cells #[.int .i64 0, .int .i64 0, .int .i64 0, .int .u8 0] 33 (0, 0))
  fne : f ≠ c ∧ f ≠ cm ∧ cw ≠ c ∧ cw ≠ cm
section
variable {w0 w w' : World} {O0 O O' : Paint} {c cm cw f a k gb cap nb mo wb wm : Nat} {most : Int} {v : Value} {tb : Nat → Nat → Nat} {m : Ms} {p : Pt} {s s' : Es} {d d' : Ds} {tot : Nat}
theorem CodeE.next (h : CodeE w0 O0 c cm cw f a k gb cap nb mo wb wm most v tb m p s w O) (hs : Step [c, cm] w O w' O') (he : EncS w' O' c cm a k gb cap nb tb s') : CodeE w0 O0 c cm cw f a k gb cap nb mo wb wm most v tb m p s' w' O' := by
  obtain ⟨h1, h2, h3, h4⟩ := h.fne
  exact ⟨h.step.trans hs, he, h.mod.step hs (by simp; exact ⟨h3, h4⟩), h.hp.step hs (by simp; exact ⟨h1, h2⟩), h.hz.step hs (by simp; exact ⟨h1, h2⟩), h.fne⟩
theorem CodeE.drewN (h : CodeE w0 O0 c cm cw f a k gb cap nb mo wb wm most v tb m p s w O) (n : Nat) : CodeE w0 O0 c cm cw f a k gb cap nb mo wb wm most v tb m p s (w.drewN n) O := h.next ((Step.refl _ w O).drewN n) (h.enc.drewN n)
theorem CodeE.drew (h : CodeE w0 O0 c cm cw f a k gb cap nb mo wb wm most v tb m p s w O) : CodeE w0 O0 c cm cw f a k gb cap nb mo wb wm most v tb m p s w.drew O := h.next ((Step.refl _ w O).drew) h.enc.drew
theorem codeE_new (hm : ModAt w0 O0 cw mo wb v m.lc m.lp m.pb most wm m.l m.r m.st k) (h : EncS w0 O0 c cm a k gb cap nb tb s) (h1 : cw ≠ c) (h2 : cw ≠ cm) (p : Pt) :
    ∃ f O, CodeE w0 O0 c cm cw f a k gb cap nb mo wb wm most v tb m p s ((w0.alloc (.cells #[.int .i64 p.k, .int .i64 p.d, .int .i64 p.n, .int .u8 (p.b : Int)] 33)).alloc (.cells #[.int .i64 0, .int .i64 0, .int .i64 0, .int .u8 0] 33)) O := by
  obtain ⟨f, f1, f2, _⟩ := fresh O0 w0.heap.size c cm
  have hb : Below w0.heap.size w0 ((w0.alloc (.cells #[.int .i64 p.k, .int .i64 p.d, .int .i64 p.n, .int .u8 (p.b : Int)] 33)).alloc (.cells #[.int .i64 0, .int .i64 0, .int .i64 0, .int .u8 0] 33)) := (box_below w0 _).alloc (by simp) _
  have hs := Step.of_below hb O0 f
  have e2 := heap_alloc_new (w0.alloc (.cells #[.int .i64 p.k, .int .i64 p.d, .int .i64 p.n, .int .u8 (p.b : Int)] 33)) (.cells #[.int .i64 0, .int .i64 0, .int .i64 0, .int .u8 0] 33)
  rw [World.size_alloc] at e2
  refine ⟨f, Step.paint O0 w0 f, hs.nil, h.step hs (by simp) (by simp), hm.step hs (by simp), ⟨?_, Step.paint_new (Nat.le_refl _)⟩, ⟨e2, Step.paint_new (by omega)⟩, f1, f2, h1, h2⟩
  rw [Below.heap_alloc _ _ _ (by simp)]
  exact heap_alloc_new w0 _
theorem four_i {w : World} {O : Paint} {f X : Nat} {x0 x1 x2 x3 : Value} {t : TypeId} (h : Blk w O f X (.cells #[x0, x1, x2, x3] t (0, 0))) : w.cell? ⟨X, 0, none⟩ = some x0 ∧ w.cell? ⟨X, 1, none⟩ = some x1 ∧ w.cell? ⟨X, 2, none⟩ = some x2 ∧ w.cell? ⟨X, 3, none⟩ = some x3 := by
  refine ⟨?_, ?_, ?_, ?_⟩ <;> simp [World.cell?, h.1]
/-- The result is laid down. -/
theorem CodeE.done (h : CodeE w0 O0 c cm cw f a k gb cap nb mo wb wm most v tb m p s w O) (x0 x1 x2 x3 : Value) :
    ∃ W, (((w.setCell ⟨w0.heap.size + 1, 0, none⟩ x0).setCell ⟨w0.heap.size + 1, 1, none⟩ x1).setCell ⟨w0.heap.size + 1, 2, none⟩ x2).setCell ⟨w0.heap.size + 1, 3, none⟩ x3 = W ∧ W.heap[w0.heap.size + 1]? = some (.cells #[x0, x1, x2, x3] 33 (0, 0)) ∧ Step [c, cm] w0 O0 W O ∧ EncS W O c cm a k gb cap nb tb s := by
  obtain ⟨h1, h2, h3, h4⟩ := h.fne
  refine ⟨_, rfl, ?_, ?_, ?_⟩
  · have a1 := heap_setCell_same w _ 0 _ _ x0 h.hz.1
    have a2 := heap_setCell_same _ _ 1 _ _ x1 a1
    have a3 := heap_setCell_same _ _ 2 _ _ x2 a2
    have a4 := heap_setCell_same _ _ 3 _ _ x3 a3
    simpa using a4
  · exact (((h.step.setCell (p := ⟨w0.heap.size + 1, 0, none⟩) (.inr (by simp)) x0).setCell (p := ⟨w0.heap.size + 1, 1, none⟩) (.inr (by simp)) x1).setCell (p := ⟨w0.heap.size + 1, 2, none⟩) (.inr (by simp)) x2).setCell (p := ⟨w0.heap.size + 1, 3, none⟩) (.inr (by simp)) x3
  · have hs : Step [f] w O ((((w.setCell ⟨w0.heap.size + 1, 0, none⟩ x0).setCell ⟨w0.heap.size + 1, 1, none⟩ x1).setCell ⟨w0.heap.size + 1, 2, none⟩ x2).setCell ⟨w0.heap.size + 1, 3, none⟩ x3) O :=
      ((((Step.refl [f] w O).setCell (p := ⟨w0.heap.size + 1, 0, none⟩) (.inl (by simp [h.hz.2])) x0).setCell (p := ⟨w0.heap.size + 1, 1, none⟩) (.inl (by simp [h.hz.2])) x1).setCell (p := ⟨w0.heap.size + 1, 2, none⟩) (.inl (by simp [h.hz.2])) x2).setCell (p := ⟨w0.heap.size + 1, 3, none⟩) (.inl (by simp [h.hz.2])) x3
    exact h.enc.step hs (by simp; exact Ne.symm h1) (by simp; exact Ne.symm h2)
theorem CodeD.next (h : CodeD w0 O0 c cm cw f a tot k gb cap nb mo wb wm most v tb m p d w O) (hs : Step [c, cm] w O w' O') (he : DecS w' O' c cm a tot k gb cap nb tb d') : CodeD w0 O0 c cm cw f a tot k gb cap nb mo wb wm most v tb m p d' w' O' := by
  obtain ⟨h1, h2, h3, h4⟩ := h.fne
  exact ⟨h.step.trans hs, he, h.mod.step hs (by simp; exact ⟨h3, h4⟩), h.hp.step hs (by simp; exact ⟨h1, h2⟩), h.hz.step hs (by simp; exact ⟨h1, h2⟩), h.fne⟩
theorem CodeD.drewN (h : CodeD w0 O0 c cm cw f a tot k gb cap nb mo wb wm most v tb m p d w O) (n : Nat) : CodeD w0 O0 c cm cw f a tot k gb cap nb mo wb wm most v tb m p d (w.drewN n) O := h.next ((Step.refl _ w O).drewN n) (h.dec.drewN n)
theorem CodeD.drew (h : CodeD w0 O0 c cm cw f a tot k gb cap nb mo wb wm most v tb m p d w O) : CodeD w0 O0 c cm cw f a tot k gb cap nb mo wb wm most v tb m p d w.drew O := h.next ((Step.refl _ w O).drew) h.dec.drew
theorem codeD_new (hm : ModAt w0 O0 cw mo wb v m.lc m.lp m.pb most wm m.l m.r m.st k) (h : DecS w0 O0 c cm a tot k gb cap nb tb d) (h1 : cw ≠ c) (h2 : cw ≠ cm) (p : Pt) :
    ∃ f O, CodeD w0 O0 c cm cw f a tot k gb cap nb mo wb wm most v tb m p d ((w0.alloc (.cells #[.int .i64 p.k, .int .i64 p.d, .int .i64 p.n, .int .u8 (p.b : Int)] 33)).alloc (.cells #[.int .i64 0, .int .i64 0, .int .i64 0, .int .u8 0] 33)) O := by
  obtain ⟨f, f1, f2, _⟩ := fresh O0 w0.heap.size c cm
  have hb : Below w0.heap.size w0 ((w0.alloc (.cells #[.int .i64 p.k, .int .i64 p.d, .int .i64 p.n, .int .u8 (p.b : Int)] 33)).alloc (.cells #[.int .i64 0, .int .i64 0, .int .i64 0, .int .u8 0] 33)) := (box_below w0 _).alloc (by simp) _
  have hs := Step.of_below hb O0 f
  have e2 := heap_alloc_new (w0.alloc (.cells #[.int .i64 p.k, .int .i64 p.d, .int .i64 p.n, .int .u8 (p.b : Int)] 33)) (.cells #[.int .i64 0, .int .i64 0, .int .i64 0, .int .u8 0] 33)
  rw [World.size_alloc] at e2
  refine ⟨f, Step.paint O0 w0 f, hs.nil, h.step hs (by simp) (by simp), hm.step hs (by simp), ⟨?_, Step.paint_new (Nat.le_refl _)⟩, ⟨e2, Step.paint_new (by omega)⟩, f1, f2, h1, h2⟩
  rw [Below.heap_alloc _ _ _ (by simp)]
  exact heap_alloc_new w0 _
/-- The result is laid down. -/
theorem CodeD.done (h : CodeD w0 O0 c cm cw f a tot k gb cap nb mo wb wm most v tb m p d w O) (x0 x1 x2 x3 : Value) :
    ∃ W, (((w.setCell ⟨w0.heap.size + 1, 0, none⟩ x0).setCell ⟨w0.heap.size + 1, 1, none⟩ x1).setCell ⟨w0.heap.size + 1, 2, none⟩ x2).setCell ⟨w0.heap.size + 1, 3, none⟩ x3 = W ∧ W.heap[w0.heap.size + 1]? = some (.cells #[x0, x1, x2, x3] 33 (0, 0)) ∧ Step [c, cm] w0 O0 W O ∧ DecS W O c cm a tot k gb cap nb tb d := by
  obtain ⟨h1, h2, h3, h4⟩ := h.fne
  refine ⟨_, rfl, ?_, ?_, ?_⟩
  · have a1 := heap_setCell_same w _ 0 _ _ x0 h.hz.1
    have a2 := heap_setCell_same _ _ 1 _ _ x1 a1
    have a3 := heap_setCell_same _ _ 2 _ _ x2 a2
    have a4 := heap_setCell_same _ _ 3 _ _ x3 a3
    simpa using a4
  · exact (((h.step.setCell (p := ⟨w0.heap.size + 1, 0, none⟩) (.inr (by simp)) x0).setCell (p := ⟨w0.heap.size + 1, 1, none⟩) (.inr (by simp)) x1).setCell (p := ⟨w0.heap.size + 1, 2, none⟩) (.inr (by simp)) x2).setCell (p := ⟨w0.heap.size + 1, 3, none⟩) (.inr (by simp)) x3
  · have hs : Step [f] w O ((((w.setCell ⟨w0.heap.size + 1, 0, none⟩ x0).setCell ⟨w0.heap.size + 1, 1, none⟩ x1).setCell ⟨w0.heap.size + 1, 2, none⟩ x2).setCell ⟨w0.heap.size + 1, 3, none⟩ x3) O :=
      ((((Step.refl [f] w O).setCell (p := ⟨w0.heap.size + 1, 0, none⟩) (.inl (by simp [h.hz.2])) x0).setCell (p := ⟨w0.heap.size + 1, 1, none⟩) (.inl (by simp [h.hz.2])) x1).setCell (p := ⟨w0.heap.size + 1, 2, none⟩) (.inl (by simp [h.hz.2])) x2).setCell (p := ⟨w0.heap.size + 1, 3, none⟩) (.inl (by simp [h.hz.2])) x3
    exact h.dec.step hs (by simp; exact Ne.symm h1) (by simp; exact Ne.symm h2)
theorem keep_four {W : World} {X : Nat} {x0 x1 x2 x3 y0 y1 y2 y3 : Value} (h : W.cell? ⟨X, 0, none⟩ = some x0 ∧ W.cell? ⟨X, 1, none⟩ = some x1 ∧ W.cell? ⟨X, 2, none⟩ = some x2 ∧ W.cell? ⟨X, 3, none⟩ = some x3) :
    ((((W.setCell ⟨X + 1, 0, none⟩ y0).setCell ⟨X + 1, 1, none⟩ y1).setCell ⟨X + 1, 2, none⟩ y2).setCell ⟨X + 1, 3, none⟩ y3).cell? ⟨X, 0, none⟩ = some x0 ∧ ((((W.setCell ⟨X + 1, 0, none⟩ y0).setCell ⟨X + 1, 1, none⟩ y1).setCell ⟨X + 1, 2, none⟩ y2).setCell ⟨X + 1, 3, none⟩ y3).cell? ⟨X, 1, none⟩ = some x1 ∧ ((((W.setCell ⟨X + 1, 0, none⟩ y0).setCell ⟨X + 1, 1, none⟩ y1).setCell ⟨X + 1, 2, none⟩ y2).setCell ⟨X + 1, 3, none⟩ y3).cell? ⟨X, 2, none⟩ = some x2 ∧ ((((W.setCell ⟨X + 1, 0, none⟩ y0).setCell ⟨X + 1, 1, none⟩ y1).setCell ⟨X + 1, 2, none⟩ y2).setCell ⟨X + 1, 3, none⟩ y3).cell? ⟨X, 3, none⟩ = some x3 := by
  refine ⟨?_, ?_, ?_, ?_⟩ <;> rw [Pk.set_keep (by omega)]
  · exact h.1
  · exact h.2.1
  · exact h.2.2.1
  · exact h.2.2.2
variable {st : Nat}
theorem dist_enc (h : EncS w O c cm a k gb cap nb tb s) (ht : s.e.turns ≤ 700000) (ln : Int) (hl0 : -9223372036854775808 ≤ ln) (hl1 : ln ≤ 9223372036854775807) (cl : Nat) (hcl : min (max ln 2) 5 - 2 = (cl : Int)) (dist : Int) (v : Nat) (hv : v < 4294967296)
    (e0 : IntKind.i64.wrap (dist - 1) = dist - 1) (e1 : IntKind.u32.wrap (dist - 1) = (v : Int)) :
    Calls Tryz.prog 78 #[.pointer (some ⟨k, 503, none⟩), .iface 114 (.agg #[.pointer (some ⟨a, 0, none⟩)]), .int .i64 ln, .int .i64 dist] w (EncTo w O c cm a k gb cap nb tb (s.dist cl v) (.int .i64 (((v + 1) % 4294967296 : Nat) : Int))) := by
  by_cases h14 : St.slot v < 14
  · exact dist_enc_near h ht ln hl0 hl1 cl hcl dist v hv e0 e1 h14
  · exact dist_enc_far h ht ln hl0 hl1 cl hcl dist v hv e0 e1 h14
theorem dist_dec (h : DecS w O c cm a tot k gb cap nb tb d) (ln : Int) (hl0 : -9223372036854775808 ≤ ln) (hl1 : ln ≤ 9223372036854775807) (cl : Nat) (hcl : min (max ln 2) 5 - 2 = (cl : Int)) :
    Calls Tryz.prog 78 #[.pointer (some ⟨k, 503, none⟩), .iface 219 (.agg #[.pointer (some ⟨a, 0, none⟩)]), .int .i64 ln, .int .i64 0] w (DecTo w O c cm a tot k gb cap nb tb (d.dist cl) (.int .i64 (((d.distV cl + 1) % 4294967296 : Nat) : Int))) := by
  by_cases h14 : d.slotV cl < 14
  · exact dist_dec_near h ln hl0 hl1 cl hcl h14
  · exact dist_dec_far h ln hl0 hl1 cl hcl h14
theorem rep_enc (hm : ModAt w O cw mo wb v m.lc m.lp m.pb most wm m.l m.r m.st k) (hst : m.st < 12) (h1 : cw ≠ c) (h2 : cw ≠ cm) (h : EncS w O c cm a k gb cap nb tb s) (ht : s.e.turns ≤ 700000) {i : Nat} (hi : i < 4) :
    Calls Tryz.prog 79 #[.pointer (some ⟨mo, 0, none⟩), .iface 114 (.agg #[.pointer (some ⟨a, 0, none⟩)]), .int .i64 (i : Int)] w (EncTo w O c cm a k gb cap nb tb (s.rep m.st i) (.int .i64 (i : Int))) := by
  have hc : i = 0 ∨ i = 1 ∨ i = 2 ∨ i = 3 := by omega
  rcases hc with rfl | rfl | rfl | rfl
  · exact rep_enc0 hm hst h1 h2 h ht
  · exact rep_enc1 hm hst h1 h2 h ht
  · exact rep_enc2 hm hst h1 h2 h ht
  · exact rep_enc3 hm hst h1 h2 h ht
theorem rep_dec (hm : ModAt w O cw mo wb v m.lc m.lp m.pb most wm m.l m.r m.st k) (hst : m.st < 12) (h1 : cw ≠ c) (h2 : cw ≠ cm) (h : DecS w O c cm a tot k gb cap nb tb d) :
    Calls Tryz.prog 79 #[.pointer (some ⟨mo, 0, none⟩), .iface 219 (.agg #[.pointer (some ⟨a, 0, none⟩)]), .int .i64 0] w (DecTo w O c cm a tot k gb cap nb tb (d.rep m.st) (.int .i64 (d.repV m.st : Int))) := by
  have l1 := d.bit_le 3 m.st 0
  have l2 := (d.one 3 m.st 0).bit_le 5 m.st 0
  by_cases b0 : d.bit 3 m.st 0 = 0
  · have e : d.repV m.st = 0 := by unfold Ds.repV; rw [if_pos b0]
    rw [e]
    exact rep_dec0 hm hst h1 h2 h b0
  · by_cases b1 : (d.one 3 m.st 0).bit 5 m.st 0 = 0
    · have e : d.repV m.st = 1 := by unfold Ds.repV; rw [if_neg b0, if_pos b1]
      rw [e]
      exact rep_dec1 hm hst h1 h2 h (by omega) b1
    · exact rep_dec2 hm hst h1 h2 h (by omega) (by omega)
theorem lenV_le (h : d.Ok) {u : Nat} (hu : u ≤ 1) (P : Nat) : d.lenV u P ≤ 271 := by
  have o1 := h.one (200 + u) 0 0
  have o2 := o1.one (200 + u) 1 0
  unfold Ds.lenV
  split
  · have := (o1.num (210 + u) P (n := 3) (by rcases (show u = 0 ∨ u = 1 by omega) with rfl | rfl <;> exact Nat.le_refl _)).2
    omega
  · split
    · have := (o2.num (220 + u) P (n := 3) (by rcases (show u = 0 ∨ u = 1 by omega) with rfl | rfl <;> exact Nat.le_refl _)).2
      omega
    · have := (o2.num (230 + u) 0 (n := 8) (by rcases (show u = 0 ∨ u = 1 by omega) with rfl | rfl <;> exact Nat.le_refl _)).2
      omega
theorem repV_lt (d : Ds) (st : Nat) : d.repV st < 4 := by
  have := ((d.one 3 st 0).one 5 st 0).bit_le 6 st 0
  unfold Ds.repV
  split
  · omega
  · split <;> omega
end
end Go.Proofs.YtoneghmahdjgbaaGreat.Mo
end
