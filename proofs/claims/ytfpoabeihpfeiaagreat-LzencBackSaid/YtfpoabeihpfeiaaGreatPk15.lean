/-
  Package model: lengths as bits, got: the cases.
-/
import Derived.Test.YtfpoabeihpfeiaaGreatPk13
import Derived.Deep.RegionHeld3
import Derived.BigRegion
import Derived.StillTailTactics
set_option maxRecDepth 100000
set_option maxHeartbeats 16000000
set_option linter.unusedVariables false
set_option linter.unusedSimpArgs false
open Go.Lib (hid)
namespace Go.Proofs.YtfpoabeihpfeiaaGreat.Mo
open Go.RowKit
open Rc
section
variable {w : World} {O : Paint} {c cm a tot k gb cap nb : Nat} {tb : Nat -> Nat -> Nat} {s : Es} {d : Ds}
theorem len_dec0A (h : DecS w O c cm a tot k gb cap nb tb d) (P : Nat) (hP : P < 16) (h1 : d.bit 200 0 0 = 0) :
  Calls Tryz.prog 75 #[.pointer (some ⟨k, 433, none⟩), .iface 193 (.agg #[.pointer (some ⟨a, 0, none⟩)]), .int .i64 P, .int .i64 0] w (DecTo w O c cm a tot k gb cap nb tb (d.len 0 P) (.int .i64 ((d.lenV 0 P : Int) + 2))) := by
 have HL := hid (show d.len 0 P = (d.one 200 0 0).num 210 P 3 by unfold Ds.len; rw [if_pos h1])
 have HV := hid (show d.lenV 0 P = (d.one 200 0 0).numV 210 P 3 by unfold Ds.lenV; rw [if_pos h1])
 have n_choice : ∀ W : World, (nilAhead 310 193 (.agg #[.pointer (some ⟨a, 0, none⟩)]) "cassone/model.choice").run Tryz.prog W = .ok (some false) W := fun _ => by kernel_rfl
 have m_choice : ∀ W : World, (method 310 193 (.agg #[.pointer (some ⟨a, 0, none⟩)]) "cassone/model.choice").run Tryz.prog W = .ok (139, .agg #[.pointer (some ⟨a, 0, none⟩)]) W := fun _ => by kernel_rfl
 have n_number : ∀ W : World, (nilAhead 310 193 (.agg #[.pointer (some ⟨a, 0, none⟩)]) "cassone/model.number").run Tryz.prog W = .ok (some false) W := fun _ => by kernel_rfl
 have m_number : ∀ W : World, (method 310 193 (.agg #[.pointer (some ⟨a, 0, none⟩)]) "cassone/model.number").run Tryz.prog W = .ok (142, .agg #[.pointer (some ⟨a, 0, none⟩)]) W := fun _ => by kernel_rfl
 have HC : Hid (Calls Tryz.prog 139 #[.agg #[.pointer (some ⟨a, 0, none⟩)], .pointer (some ⟨k, 433, none⟩), .int .i64 0] w.drew (DecTo w.drew O c cm a tot k gb cap nb tb (d.one 200 0 0) (.int .i64 0))) := hid ((by have := dec_one (x := 200) (y := 0) (z := 0) h.drew (by unfold isOne; omega) 0; rw [h1] at this; exact this))
 generalize hs1 : d.one 200 0 0 = s1 at *
 clear hs1 h
 clear h1
 go_enter Tryz.func75, Tryz.ntmps75
 go_wp2_with fail
 go_cut [22] (fun v22 wc => v22 = .bool true /\ ∃ O', Step [c, cm] w O wc O' /\ DecS wc O' c cm a tot k gb cap nb tb s1)
 case first =>
  as_aux_lemma =>
  go_region_held3 (fun _ => True) (first | exact trivial | go_keep) (first | (go_at_call 73; (with_reducible refine (bit_any _ _).mono ?_); rintro x w1 ⟨rfl, rfl⟩) | (go_at_call 139; (with_reducible refine HC.out.mono ?_); rintro x w2 ⟨rfl, O2, hs2, he2⟩))
  all_goals
   go_wp2_with fail
   go_meet
   exact ⟨rfl, O2, hs2.from_drew, he2⟩
 case rest =>
  obtain ⟨rfl, O1, hs1, he1⟩ := hcut
  clear HC
  have lT : tlen 210 P = 8 := rfl
  have HN := hid (dec_number (x := 210) (y := P) (n := 3) (capv := 8) he1.drew (by unfold isTree; omega) (by rw [lT]; omega) (by omega) (-2))
  have hvl : s1.numV 210 P 3 < 8 := (he1.sok.tr false 210 P (n := 3) (by rw [lT]; omega)).2
  have HN2 := hid (show s1.trV false 210 P (tlen 210 P) 3 = s1.numV 210 P 3 from rfl)
  rw [HN2.out] at HN
  rw [show (2 : Nat) ^ 3 = 8 from rfl] at HN
  have c0 : wc.cell? ⟨k, 435 + P, none⟩ = some (.slice (some ⟨tb 210 P, 0, none⟩) 8 8) := he1.lik.tree 210 P (by unfold isTree; omega) (by omega)
  have HSP := hid hs1
  clear HN2
  generalize s1.numV 210 P 3 = v at *
  clear hs1 he1
  have p1 : (0 : Int) <= (P : Int) := by omega
  have p2 : (P : Int) < 16 := by omega
  have p3 : (P : Int).toNat = P := by omega
  go_wp2_with fail
  go_still_tail 11, (by kernel_rfl)
  change wpList _ _ _ _ _ wc.drew
  go_wp2_with fail
  refine HN.out.mono ?_
  rintro x w2 ⟨rfl, O4, hs2, he2⟩
  go_wp2_with fail
  go_ret
  exact ⟨by rw [HV.out]; exact ret_i (by omega), O4, HSP.out.trans hs2.from_drew, by rw [HL.out]; exact he2⟩
theorem len_dec0B (h : DecS w O c cm a tot k gb cap nb tb d) (P : Nat) (hP : P < 16) (h1 : d.bit 200 0 0 = 1) (h2 : (d.one 200 0 0).bit 200 1 0 = 0) :
  Calls Tryz.prog 75 #[.pointer (some ⟨k, 433, none⟩), .iface 193 (.agg #[.pointer (some ⟨a, 0, none⟩)]), .int .i64 P, .int .i64 0] w (DecTo w O c cm a tot k gb cap nb tb (d.len 0 P) (.int .i64 ((d.lenV 0 P : Int) + 2))) := by
 have HL := hid (show d.len 0 P = ((d.one 200 0 0).one 200 1 0).num 220 P 3 by unfold Ds.len; rw [if_neg (show ¬ _ = 0 by rw [h1]; omega), if_pos h2])
 have HV := hid (show d.lenV 0 P = 8 + ((d.one 200 0 0).one 200 1 0).numV 220 P 3 by unfold Ds.lenV; rw [if_neg (show ¬ _ = 0 by rw [h1]; omega), if_pos h2])
 have n_choice : ∀ W : World, (nilAhead 310 193 (.agg #[.pointer (some ⟨a, 0, none⟩)]) "cassone/model.choice").run Tryz.prog W = .ok (some false) W := fun _ => by kernel_rfl
 have m_choice : ∀ W : World, (method 310 193 (.agg #[.pointer (some ⟨a, 0, none⟩)]) "cassone/model.choice").run Tryz.prog W = .ok (139, .agg #[.pointer (some ⟨a, 0, none⟩)]) W := fun _ => by kernel_rfl
 have n_number : ∀ W : World, (nilAhead 310 193 (.agg #[.pointer (some ⟨a, 0, none⟩)]) "cassone/model.number").run Tryz.prog W = .ok (some false) W := fun _ => by kernel_rfl
 have m_number : ∀ W : World, (method 310 193 (.agg #[.pointer (some ⟨a, 0, none⟩)]) "cassone/model.number").run Tryz.prog W = .ok (142, .agg #[.pointer (some ⟨a, 0, none⟩)]) W := fun _ => by kernel_rfl
 have HC : Hid (Calls Tryz.prog 139 #[.agg #[.pointer (some ⟨a, 0, none⟩)], .pointer (some ⟨k, 433, none⟩), .int .i64 0] w.drew (DecTo w.drew O c cm a tot k gb cap nb tb (d.one 200 0 0) (.int .i64 1))) := hid ((by have := dec_one (x := 200) (y := 0) (z := 0) h.drew (by unfold isOne; omega) 0; rw [h1] at this; exact this))
 have HX := hid h2
 clear h2
 generalize hs1 : d.one 200 0 0 = s1 at *
 clear hs1 h
 clear h1
 go_enter Tryz.func75, Tryz.ntmps75
 go_wp2_with fail
 go_cut [22] (fun v22 wc => v22 = .bool false /\ ∃ O', Step [c, cm] w O wc O' /\ DecS wc O' c cm a tot k gb cap nb tb s1)
 case first =>
  as_aux_lemma =>
  go_region_held3 (fun _ => True) (first | exact trivial | go_keep) (first | (go_at_call 73; (with_reducible refine (bit_any _ _).mono ?_); rintro x w1 ⟨rfl, rfl⟩) | (go_at_call 139; (with_reducible refine HC.out.mono ?_); rintro x w2 ⟨rfl, O2, hs2, he2⟩))
  all_goals
   go_wp2_with fail
   go_meet
   exact ⟨rfl, O2, hs2.from_drew, he2⟩
 case rest =>
  obtain ⟨rfl, O1, hs1, he1⟩ := hcut
  clear HC
  have HC2 : Hid (Calls Tryz.prog 139 #[.agg #[.pointer (some ⟨a, 0, none⟩)], .pointer (some ⟨k, 434, none⟩), .int .i64 0] wc.drew (DecTo wc.drew O1 c cm a tot k gb cap nb tb (s1.one 200 1 0) (.int .i64 0))) := hid ((by have := dec_one (x := 200) (y := 1) (z := 0) he1.drew (by unfold isOne; omega) 0; rw [HX.out] at this; exact this))
  have HS1 := hid hs1
  generalize s1.one 200 1 0 = s2 at *
  clear hs1 he1
  go_wp2_with fail
  go_cut [47] (fun v47 wc => v47 = .bool true /\ ∃ O', Step [c, cm] w O wc O' /\ DecS wc O' c cm a tot k gb cap nb tb s2)
  case first =>
   as_aux_lemma =>
   go_region_held3 (fun _ => True) (first | exact trivial | go_keep) (first | (go_at_call 73; (with_reducible refine (bit_any _ _).mono ?_); rintro x w1 ⟨rfl, rfl⟩) | (go_at_call 139; (with_reducible refine HC2.out.mono ?_); rintro x w2 ⟨rfl, O2, hs2, he2⟩))
   all_goals
    go_wp2_with fail
    go_meet
    exact ⟨rfl, O2, HS1.out.trans hs2.from_drew, he2⟩
  case rest =>
   obtain ⟨rfl, O3, hs1, he1⟩ := hcut
   clear HC2 HS1
   have lT : tlen 220 P = 8 := rfl
   have HN := hid (dec_number (x := 220) (y := P) (n := 3) (capv := 8) he1.drew (by unfold isTree; omega) (by rw [lT]; omega) (by omega) (-10))
   have hvl : s2.numV 220 P 3 < 8 := (he1.sok.tr false 220 P (n := 3) (by rw [lT]; omega)).2
   have HN2 := hid (show s2.trV false 220 P (tlen 220 P) 3 = s2.numV 220 P 3 from rfl)
   rw [HN2.out] at HN
   rw [show (2 : Nat) ^ 3 = 8 from rfl] at HN
   have c0 : wc.cell? ⟨k, 451 + P, none⟩ = some (.slice (some ⟨tb 220 P, 0, none⟩) 8 8) := he1.lik.tree 220 P (by unfold isTree; omega) (by omega)
   have HSP := hid hs1
   clear HN2
   generalize s2.numV 220 P 3 = v at *
   clear hs1 he1
   have p1 : (0 : Int) <= (P : Int) := by omega
   have p2 : (P : Int) < 16 := by omega
   have p3 : (P : Int).toNat = P := by omega
   go_wp2_with fail
   go_still_tail 12, (by kernel_rfl)
   change wpList _ _ _ _ _ wc.drew
   go_wp2_with fail
   refine HN.out.mono ?_
   rintro x w2 ⟨rfl, O4, hs2, he2⟩
   go_wp2_with fail
   go_ret
   exact ⟨by rw [HV.out]; exact ret_i (by omega), O4, HSP.out.trans hs2.from_drew, by rw [HL.out]; exact he2⟩
theorem len_dec0C (h : DecS w O c cm a tot k gb cap nb tb d) (P : Nat) (hP : P < 16) (h1 : d.bit 200 0 0 = 1) (h2 : (d.one 200 0 0).bit 200 1 0 = 1) :
  Calls Tryz.prog 75 #[.pointer (some ⟨k, 433, none⟩), .iface 193 (.agg #[.pointer (some ⟨a, 0, none⟩)]), .int .i64 P, .int .i64 0] w (DecTo w O c cm a tot k gb cap nb tb (d.len 0 P) (.int .i64 ((d.lenV 0 P : Int) + 2))) := by
 have HL := hid (show d.len 0 P = ((d.one 200 0 0).one 200 1 0).num 230 0 8 by unfold Ds.len; rw [if_neg (show ¬ _ = 0 by rw [h1]; omega), if_neg (show ¬ _ = 0 by rw [h2]; omega)])
 have HV := hid (show d.lenV 0 P = 16 + ((d.one 200 0 0).one 200 1 0).numV 230 0 8 by unfold Ds.lenV; rw [if_neg (show ¬ _ = 0 by rw [h1]; omega), if_neg (show ¬ _ = 0 by rw [h2]; omega)])
 have n_choice : ∀ W : World, (nilAhead 310 193 (.agg #[.pointer (some ⟨a, 0, none⟩)]) "cassone/model.choice").run Tryz.prog W = .ok (some false) W := fun _ => by kernel_rfl
 have m_choice : ∀ W : World, (method 310 193 (.agg #[.pointer (some ⟨a, 0, none⟩)]) "cassone/model.choice").run Tryz.prog W = .ok (139, .agg #[.pointer (some ⟨a, 0, none⟩)]) W := fun _ => by kernel_rfl
 have n_number : ∀ W : World, (nilAhead 310 193 (.agg #[.pointer (some ⟨a, 0, none⟩)]) "cassone/model.number").run Tryz.prog W = .ok (some false) W := fun _ => by kernel_rfl
 have m_number : ∀ W : World, (method 310 193 (.agg #[.pointer (some ⟨a, 0, none⟩)]) "cassone/model.number").run Tryz.prog W = .ok (142, .agg #[.pointer (some ⟨a, 0, none⟩)]) W := fun _ => by kernel_rfl
 have HC : Hid (Calls Tryz.prog 139 #[.agg #[.pointer (some ⟨a, 0, none⟩)], .pointer (some ⟨k, 433, none⟩), .int .i64 0] w.drew (DecTo w.drew O c cm a tot k gb cap nb tb (d.one 200 0 0) (.int .i64 1))) := hid ((by have := dec_one (x := 200) (y := 0) (z := 0) h.drew (by unfold isOne; omega) 0; rw [h1] at this; exact this))
 have HX := hid h2
 clear h2
 generalize hs1 : d.one 200 0 0 = s1 at *
 clear hs1 h
 clear h1
 go_enter Tryz.func75, Tryz.ntmps75
 go_wp2_with fail
 go_cut [22] (fun v22 wc => v22 = .bool false /\ ∃ O', Step [c, cm] w O wc O' /\ DecS wc O' c cm a tot k gb cap nb tb s1)
 case first =>
  as_aux_lemma =>
  go_region_held3 (fun _ => True) (first | exact trivial | go_keep) (first | (go_at_call 73; (with_reducible refine (bit_any _ _).mono ?_); rintro x w1 ⟨rfl, rfl⟩) | (go_at_call 139; (with_reducible refine HC.out.mono ?_); rintro x w2 ⟨rfl, O2, hs2, he2⟩))
  all_goals
   go_wp2_with fail
   go_meet
   exact ⟨rfl, O2, hs2.from_drew, he2⟩
 case rest =>
  obtain ⟨rfl, O1, hs1, he1⟩ := hcut
  clear HC
  have HC2 : Hid (Calls Tryz.prog 139 #[.agg #[.pointer (some ⟨a, 0, none⟩)], .pointer (some ⟨k, 434, none⟩), .int .i64 0] wc.drew (DecTo wc.drew O1 c cm a tot k gb cap nb tb (s1.one 200 1 0) (.int .i64 1))) := hid ((by have := dec_one (x := 200) (y := 1) (z := 0) he1.drew (by unfold isOne; omega) 0; rw [HX.out] at this; exact this))
  have HS1 := hid hs1
  generalize s1.one 200 1 0 = s2 at *
  clear hs1 he1
  go_wp2_with fail
  go_cut [47] (fun v47 wc => v47 = .bool false /\ ∃ O', Step [c, cm] w O wc O' /\ DecS wc O' c cm a tot k gb cap nb tb s2)
  case first =>
   as_aux_lemma =>
   go_region_held3 (fun _ => True) (first | exact trivial | go_keep) (first | (go_at_call 73; (with_reducible refine (bit_any _ _).mono ?_); rintro x w1 ⟨rfl, rfl⟩) | (go_at_call 139; (with_reducible refine HC2.out.mono ?_); rintro x w2 ⟨rfl, O2, hs2, he2⟩))
   all_goals
    go_wp2_with fail
    go_meet
    exact ⟨rfl, O2, HS1.out.trans hs2.from_drew, he2⟩
  case rest =>
   obtain ⟨rfl, O3, hs1, he1⟩ := hcut
   clear HC2 HS1
   have lT : tlen 230 0 = 256 := rfl
   have HN := hid (dec_number (x := 230) (y := 0) (n := 8) (capv := 256) he1.drew (by unfold isTree; omega) (by rw [lT]; omega) (by omega) (-18))
   have hvl : s2.numV 230 0 8 < 256 := (he1.sok.tr false 230 0 (n := 8) (by rw [lT]; omega)).2
   have HN2 := hid (show s2.trV false 230 0 (tlen 230 0) 8 = s2.numV 230 0 8 from rfl)
   rw [HN2.out] at HN
   rw [show (2 : Nat) ^ 8 = 256 from rfl] at HN
   have c0 : wc.cell? ⟨k, 467, none⟩ = some (.slice (some ⟨tb 230 0, 0, none⟩) 256 256) := he1.lik.tree 230 0 (by unfold isTree; omega) (by omega)
   have HSP := hid hs1
   clear HN2
   generalize s2.numV 230 0 8 = v at *
   clear hs1 he1
   go_wp2_with fail
   go_still_tail 10, (by kernel_rfl)
   change wpList _ _ _ _ _ wc.drew
   go_wp2_with fail
   refine HN.out.mono ?_
   rintro x w2 ⟨rfl, O4, hs2, he2⟩
   go_wp2_with fail
   go_ret
   exact ⟨by rw [HV.out]; exact ret_i (by omega), O4, HSP.out.trans hs2.from_drew, by rw [HL.out]; exact he2⟩
theorem len_dec1A (h : DecS w O c cm a tot k gb cap nb tb d) (P : Nat) (hP : P < 16) (h1 : d.bit 201 0 0 = 0) :
  Calls Tryz.prog 75 #[.pointer (some ⟨k, 468, none⟩), .iface 193 (.agg #[.pointer (some ⟨a, 0, none⟩)]), .int .i64 P, .int .i64 0] w (DecTo w O c cm a tot k gb cap nb tb (d.len 1 P) (.int .i64 ((d.lenV 1 P : Int) + 2))) := by
 have HL := hid (show d.len 1 P = (d.one 201 0 0).num 211 P 3 by unfold Ds.len; rw [if_pos h1])
 have HV := hid (show d.lenV 1 P = (d.one 201 0 0).numV 211 P 3 by unfold Ds.lenV; rw [if_pos h1])
 have n_choice : ∀ W : World, (nilAhead 310 193 (.agg #[.pointer (some ⟨a, 0, none⟩)]) "cassone/model.choice").run Tryz.prog W = .ok (some false) W := fun _ => by kernel_rfl
 have m_choice : ∀ W : World, (method 310 193 (.agg #[.pointer (some ⟨a, 0, none⟩)]) "cassone/model.choice").run Tryz.prog W = .ok (139, .agg #[.pointer (some ⟨a, 0, none⟩)]) W := fun _ => by kernel_rfl
 have n_number : ∀ W : World, (nilAhead 310 193 (.agg #[.pointer (some ⟨a, 0, none⟩)]) "cassone/model.number").run Tryz.prog W = .ok (some false) W := fun _ => by kernel_rfl
 have m_number : ∀ W : World, (method 310 193 (.agg #[.pointer (some ⟨a, 0, none⟩)]) "cassone/model.number").run Tryz.prog W = .ok (142, .agg #[.pointer (some ⟨a, 0, none⟩)]) W := fun _ => by kernel_rfl
 have HC : Hid (Calls Tryz.prog 139 #[.agg #[.pointer (some ⟨a, 0, none⟩)], .pointer (some ⟨k, 468, none⟩), .int .i64 0] w.drew (DecTo w.drew O c cm a tot k gb cap nb tb (d.one 201 0 0) (.int .i64 0))) := hid ((by have := dec_one (x := 201) (y := 0) (z := 0) h.drew (by unfold isOne; omega) 0; rw [h1] at this; exact this))
 generalize hs1 : d.one 201 0 0 = s1 at *
 clear hs1 h
 clear h1
 go_enter Tryz.func75, Tryz.ntmps75
 go_wp2_with fail
 go_cut [22] (fun v22 wc => v22 = .bool true /\ ∃ O', Step [c, cm] w O wc O' /\ DecS wc O' c cm a tot k gb cap nb tb s1)
 case first =>
  as_aux_lemma =>
  go_region_held3 (fun _ => True) (first | exact trivial | go_keep) (first | (go_at_call 73; (with_reducible refine (bit_any _ _).mono ?_); rintro x w1 ⟨rfl, rfl⟩) | (go_at_call 139; (with_reducible refine HC.out.mono ?_); rintro x w2 ⟨rfl, O2, hs2, he2⟩))
  all_goals
   go_wp2_with fail
   go_meet
   exact ⟨rfl, O2, hs2.from_drew, he2⟩
 case rest =>
  obtain ⟨rfl, O1, hs1, he1⟩ := hcut
  clear HC
  have lT : tlen 211 P = 8 := rfl
  have HN := hid (dec_number (x := 211) (y := P) (n := 3) (capv := 8) he1.drew (by unfold isTree; omega) (by rw [lT]; omega) (by omega) (-2))
  have hvl : s1.numV 211 P 3 < 8 := (he1.sok.tr false 211 P (n := 3) (by rw [lT]; omega)).2
  have HN2 := hid (show s1.trV false 211 P (tlen 211 P) 3 = s1.numV 211 P 3 from rfl)
  rw [HN2.out] at HN
  rw [show (2 : Nat) ^ 3 = 8 from rfl] at HN
  have c0 : wc.cell? ⟨k, 470 + P, none⟩ = some (.slice (some ⟨tb 211 P, 0, none⟩) 8 8) := he1.lik.tree 211 P (by unfold isTree; omega) (by omega)
  have HSP := hid hs1
  clear HN2
  generalize s1.numV 211 P 3 = v at *
  clear hs1 he1
  have p1 : (0 : Int) <= (P : Int) := by omega
  have p2 : (P : Int) < 16 := by omega
  have p3 : (P : Int).toNat = P := by omega
  go_wp2_with fail
  go_still_tail 11, (by kernel_rfl)
  change wpList _ _ _ _ _ wc.drew
  go_wp2_with fail
  refine HN.out.mono ?_
  rintro x w2 ⟨rfl, O4, hs2, he2⟩
  go_wp2_with fail
  go_ret
  exact ⟨by rw [HV.out]; exact ret_i (by omega), O4, HSP.out.trans hs2.from_drew, by rw [HL.out]; exact he2⟩
theorem len_dec1B (h : DecS w O c cm a tot k gb cap nb tb d) (P : Nat) (hP : P < 16) (h1 : d.bit 201 0 0 = 1) (h2 : (d.one 201 0 0).bit 201 1 0 = 0) :
  Calls Tryz.prog 75 #[.pointer (some ⟨k, 468, none⟩), .iface 193 (.agg #[.pointer (some ⟨a, 0, none⟩)]), .int .i64 P, .int .i64 0] w (DecTo w O c cm a tot k gb cap nb tb (d.len 1 P) (.int .i64 ((d.lenV 1 P : Int) + 2))) := by
 have HL := hid (show d.len 1 P = ((d.one 201 0 0).one 201 1 0).num 221 P 3 by unfold Ds.len; rw [if_neg (show ¬ _ = 0 by rw [h1]; omega), if_pos h2])
 have HV := hid (show d.lenV 1 P = 8 + ((d.one 201 0 0).one 201 1 0).numV 221 P 3 by unfold Ds.lenV; rw [if_neg (show ¬ _ = 0 by rw [h1]; omega), if_pos h2])
 have n_choice : ∀ W : World, (nilAhead 310 193 (.agg #[.pointer (some ⟨a, 0, none⟩)]) "cassone/model.choice").run Tryz.prog W = .ok (some false) W := fun _ => by kernel_rfl
 have m_choice : ∀ W : World, (method 310 193 (.agg #[.pointer (some ⟨a, 0, none⟩)]) "cassone/model.choice").run Tryz.prog W = .ok (139, .agg #[.pointer (some ⟨a, 0, none⟩)]) W := fun _ => by kernel_rfl
 have n_number : ∀ W : World, (nilAhead 310 193 (.agg #[.pointer (some ⟨a, 0, none⟩)]) "cassone/model.number").run Tryz.prog W = .ok (some false) W := fun _ => by kernel_rfl
 have m_number : ∀ W : World, (method 310 193 (.agg #[.pointer (some ⟨a, 0, none⟩)]) "cassone/model.number").run Tryz.prog W = .ok (142, .agg #[.pointer (some ⟨a, 0, none⟩)]) W := fun _ => by kernel_rfl
 have HC : Hid (Calls Tryz.prog 139 #[.agg #[.pointer (some ⟨a, 0, none⟩)], .pointer (some ⟨k, 468, none⟩), .int .i64 0] w.drew (DecTo w.drew O c cm a tot k gb cap nb tb (d.one 201 0 0) (.int .i64 1))) := hid ((by have := dec_one (x := 201) (y := 0) (z := 0) h.drew (by unfold isOne; omega) 0; rw [h1] at this; exact this))
 have HX := hid h2
 clear h2
 generalize hs1 : d.one 201 0 0 = s1 at *
 clear hs1 h
 clear h1
 go_enter Tryz.func75, Tryz.ntmps75
 go_wp2_with fail
 go_cut [22] (fun v22 wc => v22 = .bool false /\ ∃ O', Step [c, cm] w O wc O' /\ DecS wc O' c cm a tot k gb cap nb tb s1)
 case first =>
  as_aux_lemma =>
  go_region_held3 (fun _ => True) (first | exact trivial | go_keep) (first | (go_at_call 73; (with_reducible refine (bit_any _ _).mono ?_); rintro x w1 ⟨rfl, rfl⟩) | (go_at_call 139; (with_reducible refine HC.out.mono ?_); rintro x w2 ⟨rfl, O2, hs2, he2⟩))
  all_goals
   go_wp2_with fail
   go_meet
   exact ⟨rfl, O2, hs2.from_drew, he2⟩
 case rest =>
  obtain ⟨rfl, O1, hs1, he1⟩ := hcut
  clear HC
  have HC2 : Hid (Calls Tryz.prog 139 #[.agg #[.pointer (some ⟨a, 0, none⟩)], .pointer (some ⟨k, 469, none⟩), .int .i64 0] wc.drew (DecTo wc.drew O1 c cm a tot k gb cap nb tb (s1.one 201 1 0) (.int .i64 0))) := hid ((by have := dec_one (x := 201) (y := 1) (z := 0) he1.drew (by unfold isOne; omega) 0; rw [HX.out] at this; exact this))
  have HS1 := hid hs1
  generalize s1.one 201 1 0 = s2 at *
  clear hs1 he1
  go_wp2_with fail
  go_cut [47] (fun v47 wc => v47 = .bool true /\ ∃ O', Step [c, cm] w O wc O' /\ DecS wc O' c cm a tot k gb cap nb tb s2)
  case first =>
   as_aux_lemma =>
   go_region_held3 (fun _ => True) (first | exact trivial | go_keep) (first | (go_at_call 73; (with_reducible refine (bit_any _ _).mono ?_); rintro x w1 ⟨rfl, rfl⟩) | (go_at_call 139; (with_reducible refine HC2.out.mono ?_); rintro x w2 ⟨rfl, O2, hs2, he2⟩))
   all_goals
    go_wp2_with fail
    go_meet
    exact ⟨rfl, O2, HS1.out.trans hs2.from_drew, he2⟩
  case rest =>
   obtain ⟨rfl, O3, hs1, he1⟩ := hcut
   clear HC2 HS1
   have lT : tlen 221 P = 8 := rfl
   have HN := hid (dec_number (x := 221) (y := P) (n := 3) (capv := 8) he1.drew (by unfold isTree; omega) (by rw [lT]; omega) (by omega) (-10))
   have hvl : s2.numV 221 P 3 < 8 := (he1.sok.tr false 221 P (n := 3) (by rw [lT]; omega)).2
   have HN2 := hid (show s2.trV false 221 P (tlen 221 P) 3 = s2.numV 221 P 3 from rfl)
   rw [HN2.out] at HN
   rw [show (2 : Nat) ^ 3 = 8 from rfl] at HN
   have c0 : wc.cell? ⟨k, 486 + P, none⟩ = some (.slice (some ⟨tb 221 P, 0, none⟩) 8 8) := he1.lik.tree 221 P (by unfold isTree; omega) (by omega)
   have HSP := hid hs1
   clear HN2
   generalize s2.numV 221 P 3 = v at *
   clear hs1 he1
   have p1 : (0 : Int) <= (P : Int) := by omega
   have p2 : (P : Int) < 16 := by omega
   have p3 : (P : Int).toNat = P := by omega
   go_wp2_with fail
   go_still_tail 12, (by kernel_rfl)
   change wpList _ _ _ _ _ wc.drew
   go_wp2_with fail
   refine HN.out.mono ?_
   rintro x w2 ⟨rfl, O4, hs2, he2⟩
   go_wp2_with fail
   go_ret
   exact ⟨by rw [HV.out]; exact ret_i (by omega), O4, HSP.out.trans hs2.from_drew, by rw [HL.out]; exact he2⟩
theorem len_dec1C (h : DecS w O c cm a tot k gb cap nb tb d) (P : Nat) (hP : P < 16) (h1 : d.bit 201 0 0 = 1) (h2 : (d.one 201 0 0).bit 201 1 0 = 1) :
  Calls Tryz.prog 75 #[.pointer (some ⟨k, 468, none⟩), .iface 193 (.agg #[.pointer (some ⟨a, 0, none⟩)]), .int .i64 P, .int .i64 0] w (DecTo w O c cm a tot k gb cap nb tb (d.len 1 P) (.int .i64 ((d.lenV 1 P : Int) + 2))) := by
 have HL := hid (show d.len 1 P = ((d.one 201 0 0).one 201 1 0).num 231 0 8 by unfold Ds.len; rw [if_neg (show ¬ _ = 0 by rw [h1]; omega), if_neg (show ¬ _ = 0 by rw [h2]; omega)])
 have HV := hid (show d.lenV 1 P = 16 + ((d.one 201 0 0).one 201 1 0).numV 231 0 8 by unfold Ds.lenV; rw [if_neg (show ¬ _ = 0 by rw [h1]; omega), if_neg (show ¬ _ = 0 by rw [h2]; omega)])
 have n_choice : ∀ W : World, (nilAhead 310 193 (.agg #[.pointer (some ⟨a, 0, none⟩)]) "cassone/model.choice").run Tryz.prog W = .ok (some false) W := fun _ => by kernel_rfl
 have m_choice : ∀ W : World, (method 310 193 (.agg #[.pointer (some ⟨a, 0, none⟩)]) "cassone/model.choice").run Tryz.prog W = .ok (139, .agg #[.pointer (some ⟨a, 0, none⟩)]) W := fun _ => by kernel_rfl
 have n_number : ∀ W : World, (nilAhead 310 193 (.agg #[.pointer (some ⟨a, 0, none⟩)]) "cassone/model.number").run Tryz.prog W = .ok (some false) W := fun _ => by kernel_rfl
 have m_number : ∀ W : World, (method 310 193 (.agg #[.pointer (some ⟨a, 0, none⟩)]) "cassone/model.number").run Tryz.prog W = .ok (142, .agg #[.pointer (some ⟨a, 0, none⟩)]) W := fun _ => by kernel_rfl
 have HC : Hid (Calls Tryz.prog 139 #[.agg #[.pointer (some ⟨a, 0, none⟩)], .pointer (some ⟨k, 468, none⟩), .int .i64 0] w.drew (DecTo w.drew O c cm a tot k gb cap nb tb (d.one 201 0 0) (.int .i64 1))) := hid ((by have := dec_one (x := 201) (y := 0) (z := 0) h.drew (by unfold isOne; omega) 0; rw [h1] at this; exact this))
 have HX := hid h2
 clear h2
 generalize hs1 : d.one 201 0 0 = s1 at *
 clear hs1 h
 clear h1
 go_enter Tryz.func75, Tryz.ntmps75
 go_wp2_with fail
 go_cut [22] (fun v22 wc => v22 = .bool false /\ ∃ O', Step [c, cm] w O wc O' /\ DecS wc O' c cm a tot k gb cap nb tb s1)
 case first =>
  as_aux_lemma =>
  go_region_held3 (fun _ => True) (first | exact trivial | go_keep) (first | (go_at_call 73; (with_reducible refine (bit_any _ _).mono ?_); rintro x w1 ⟨rfl, rfl⟩) | (go_at_call 139; (with_reducible refine HC.out.mono ?_); rintro x w2 ⟨rfl, O2, hs2, he2⟩))
  all_goals
   go_wp2_with fail
   go_meet
   exact ⟨rfl, O2, hs2.from_drew, he2⟩
 case rest =>
  obtain ⟨rfl, O1, hs1, he1⟩ := hcut
  clear HC
  have HC2 : Hid (Calls Tryz.prog 139 #[.agg #[.pointer (some ⟨a, 0, none⟩)], .pointer (some ⟨k, 469, none⟩), .int .i64 0] wc.drew (DecTo wc.drew O1 c cm a tot k gb cap nb tb (s1.one 201 1 0) (.int .i64 1))) := hid ((by have := dec_one (x := 201) (y := 1) (z := 0) he1.drew (by unfold isOne; omega) 0; rw [HX.out] at this; exact this))
  have HS1 := hid hs1
  generalize s1.one 201 1 0 = s2 at *
  clear hs1 he1
  go_wp2_with fail
  go_cut [47] (fun v47 wc => v47 = .bool false /\ ∃ O', Step [c, cm] w O wc O' /\ DecS wc O' c cm a tot k gb cap nb tb s2)
  case first =>
   as_aux_lemma =>
   go_region_held3 (fun _ => True) (first | exact trivial | go_keep) (first | (go_at_call 73; (with_reducible refine (bit_any _ _).mono ?_); rintro x w1 ⟨rfl, rfl⟩) | (go_at_call 139; (with_reducible refine HC2.out.mono ?_); rintro x w2 ⟨rfl, O2, hs2, he2⟩))
   all_goals
    go_wp2_with fail
    go_meet
    exact ⟨rfl, O2, HS1.out.trans hs2.from_drew, he2⟩
  case rest =>
   obtain ⟨rfl, O3, hs1, he1⟩ := hcut
   clear HC2 HS1
   have lT : tlen 231 0 = 256 := rfl
   have HN := hid (dec_number (x := 231) (y := 0) (n := 8) (capv := 256) he1.drew (by unfold isTree; omega) (by rw [lT]; omega) (by omega) (-18))
   have hvl : s2.numV 231 0 8 < 256 := (he1.sok.tr false 231 0 (n := 8) (by rw [lT]; omega)).2
   have HN2 := hid (show s2.trV false 231 0 (tlen 231 0) 8 = s2.numV 231 0 8 from rfl)
   rw [HN2.out] at HN
   rw [show (2 : Nat) ^ 8 = 256 from rfl] at HN
   have c0 : wc.cell? ⟨k, 502, none⟩ = some (.slice (some ⟨tb 231 0, 0, none⟩) 256 256) := he1.lik.tree 231 0 (by unfold isTree; omega) (by omega)
   have HSP := hid hs1
   clear HN2
   generalize s2.numV 231 0 8 = v at *
   clear hs1 he1
   go_wp2_with fail
   go_still_tail 10, (by kernel_rfl)
   change wpList _ _ _ _ _ wc.drew
   go_wp2_with fail
   refine HN.out.mono ?_
   rintro x w2 ⟨rfl, O4, hs2, he2⟩
   go_wp2_with fail
   go_ret
   exact ⟨by rw [HV.out]; exact ret_i (by omega), O4, HSP.out.trans hs2.from_drew, by rw [HL.out]; exact he2⟩
end
end Go.Proofs.YtfpoabeihpfeiaaGreat.Mo
