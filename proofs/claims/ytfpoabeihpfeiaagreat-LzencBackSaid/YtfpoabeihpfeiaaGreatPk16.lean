/-
  Package model: lengths as bits, put: the cases.
  Package model: lengths as bits, put and got: contracts of lengths.code.
  Package model: what a model is in memory ('ModAt').
-/
import Derived.Test.YtfpoabeihpfeiaaGreatPk04
import Derived.Test.YtfpoabeihpfeiaaGreatPk08
import Derived.Test.YtfpoabeihpfeiaaGreatPk13
import Derived.Test.YtfpoabeihpfeiaaGreatPk15
import Derived.Deep.RegionHeld3
import Derived.BigRegion
import Derived.StillTailTactics
set_option maxRecDepth 100000
set_option maxHeartbeats 16000000
set_option linter.unusedVariables false
set_option linter.unusedSimpArgs false
open Go.Lib (hid)
section
namespace Go.Proofs.YtfpoabeihpfeiaaGreat.Mo
open Go.RowKit
open Rc
section
variable {w : World} {O : Paint} {c cm a tot k gb cap nb : Nat} {tb : Nat -> Nat -> Nat} {s : Es} {d : Ds}
theorem len_enc0A (h : EncS w O c cm a k gb cap nb tb s) (ht : s.e.turns <= 800000) (P n : Nat) (hP : P < 16) (hn : n <= 271) (h8 : n < 8) :
  Calls Tryz.prog 75 #[.pointer (some ⟨k, 433, none⟩), .iface 114 (.agg #[.pointer (some ⟨a, 0, none⟩)]), .int .i64 P, .int .i64 ((n : Int) + 2)] w (EncTo w O c cm a k gb cap nb tb (s.len 0 P n) (.int .i64 ((n : Int) + 2))) := by
 have e1 : IntKind.i64.wrap ((n : Int) + 2 - 2) = (n : Int) := by rw [Int.add_sub_cancel]; exact IntWalk.i64_in _ (by omega)
 have HL := hid (show s.len 0 P n = (s.one 200 0 0 0).num 210 P 3 n by unfold Es.len; rw [if_pos h8])
 have n_choice : ∀ W : World, (nilAhead 310 114 (.agg #[.pointer (some ⟨a, 0, none⟩)]) "cassone/model.choice").run Tryz.prog W = .ok (some false) W := fun _ => by kernel_rfl
 have m_choice : ∀ W : World, (method 310 114 (.agg #[.pointer (some ⟨a, 0, none⟩)]) "cassone/model.choice").run Tryz.prog W = .ok (119, .agg #[.pointer (some ⟨a, 0, none⟩)]) W := fun _ => by kernel_rfl
 have n_number : ∀ W : World, (nilAhead 310 114 (.agg #[.pointer (some ⟨a, 0, none⟩)]) "cassone/model.number").run Tryz.prog W = .ok (some false) W := fun _ => by kernel_rfl
 have m_number : ∀ W : World, (method 310 114 (.agg #[.pointer (some ⟨a, 0, none⟩)]) "cassone/model.number").run Tryz.prog W = .ok (122, .agg #[.pointer (some ⟨a, 0, none⟩)]) W := fun _ => by kernel_rfl
 have HC : Hid (Calls Tryz.prog 119 #[.agg #[.pointer (some ⟨a, 0, none⟩)], .pointer (some ⟨k, 433, none⟩), .int .i64 0] w.drew (EncTo w.drew O c cm a k gb cap nb tb (s.one 200 0 0 0) (.int .i64 0))) := hid (enc_one (x := 200) (y := 0) (z := 0) (b := 0) h.drew (by omega) (by unfold isOne; omega) (by omega))
 have z1 : decide (8 <= (n : Int)) = false := by simp; omega
 have hT1 := s.one_turns 200 0 0 0
 generalize hs1 : s.one 200 0 0 0 = s1 at *
 clear hs1 h
 go_enter Tryz.func75, Tryz.ntmps75
 go_wp2_with fail
 go_cut [22] (fun v22 wc => v22 = .bool true /\ ∃ O', Step [c, cm] w O wc O' /\ EncS wc O' c cm a k gb cap nb tb s1)
 case first =>
  as_aux_lemma =>
  go_region_held3 (fun _ => True) (first | exact trivial | go_keep) (first | (go_at_call 73; (with_reducible refine (bit_any _ _).mono ?_); rintro x w1 ⟨rfl, rfl⟩) | (go_at_call 119; (with_reducible refine HC.out.mono ?_); rintro x w2 ⟨rfl, O2, hs2, he2⟩))
  all_goals
   go_wp2_with fail
   go_meet
   exact ⟨rfl, O2, hs2.from_drew, he2⟩
 case rest =>
  obtain ⟨rfl, O1, hs1, he1⟩ := hcut
  clear HC
  have lT : tlen 210 P = 8 := rfl
  have HN := hid (enc_number (x := 210) (y := P) (n := 3) (capv := 8) he1.drew (by omega) (by unfold isTree; omega) (by rw [lT]; omega) (by omega) n (by omega))
  rw [show (2 : Nat) ^ 3 = 8 from rfl] at HN
  have c0 : wc.cell? ⟨k, 435 + P, none⟩ = some (.slice (some ⟨tb 210 P, 0, none⟩) 8 8) := he1.lik.tree 210 P (by unfold isTree; omega) (by omega)
  have HSP := hid hs1
  clear hs1 he1
  have p1 : (0 : Int) <= (P : Int) := by omega
  have p2 : (P : Int) < 16 := by omega
  have p3 : (P : Int).toNat = P := by omega
  go_wp2_with fail
  go_still_tail 11, (by kernel_rfl)
  change wpList _ _ _ _ _ wc.drew
  go_wp2_with fail
  refine HN.out.mono ?_
  rintro x w2 ⟨rfl, O4, hs2, he2⟩
  go_wp2_with fail
  go_ret
  exact ⟨ret_i (by omega), O4, HSP.out.trans hs2.from_drew, by rw [HL.out]; exact he2⟩
theorem len_enc0B (h : EncS w O c cm a k gb cap nb tb s) (ht : s.e.turns <= 800000) (P n : Nat) (hP : P < 16) (hn : n <= 271) (h8 : ¬ n < 8) (h16 : n < 16) :
  Calls Tryz.prog 75 #[.pointer (some ⟨k, 433, none⟩), .iface 114 (.agg #[.pointer (some ⟨a, 0, none⟩)]), .int .i64 P, .int .i64 ((n : Int) + 2)] w (EncTo w O c cm a k gb cap nb tb (s.len 0 P n) (.int .i64 ((n : Int) + 2))) := by
 have e1 : IntKind.i64.wrap ((n : Int) + 2 - 2) = (n : Int) := by rw [Int.add_sub_cancel]; exact IntWalk.i64_in _ (by omega)
 have e2 : IntKind.i64.wrap ((n : Int) - 8) = (n : Int) - 8 := IntWalk.i64_in _ (by omega)
 have HL := hid (show s.len 0 P n = ((s.one 200 0 0 1).one 200 1 0 0).num 220 P 3 (n - 8) by unfold Es.len; rw [if_neg h8, if_pos h16])
 have n_choice : ∀ W : World, (nilAhead 310 114 (.agg #[.pointer (some ⟨a, 0, none⟩)]) "cassone/model.choice").run Tryz.prog W = .ok (some false) W := fun _ => by kernel_rfl
 have m_choice : ∀ W : World, (method 310 114 (.agg #[.pointer (some ⟨a, 0, none⟩)]) "cassone/model.choice").run Tryz.prog W = .ok (119, .agg #[.pointer (some ⟨a, 0, none⟩)]) W := fun _ => by kernel_rfl
 have n_number : ∀ W : World, (nilAhead 310 114 (.agg #[.pointer (some ⟨a, 0, none⟩)]) "cassone/model.number").run Tryz.prog W = .ok (some false) W := fun _ => by kernel_rfl
 have m_number : ∀ W : World, (method 310 114 (.agg #[.pointer (some ⟨a, 0, none⟩)]) "cassone/model.number").run Tryz.prog W = .ok (122, .agg #[.pointer (some ⟨a, 0, none⟩)]) W := fun _ => by kernel_rfl
 have HC : Hid (Calls Tryz.prog 119 #[.agg #[.pointer (some ⟨a, 0, none⟩)], .pointer (some ⟨k, 433, none⟩), .int .i64 1] w.drew (EncTo w.drew O c cm a k gb cap nb tb (s.one 200 0 0 1) (.int .i64 1))) := hid (enc_one (x := 200) (y := 0) (z := 0) (b := 1) h.drew (by omega) (by unfold isOne; omega) (by omega))
 have z1 : decide (8 <= (n : Int)) = true := by simp; omega
 have z2 : decide (16 <= (n : Int)) = false := by simp; omega
 have hT1 := s.one_turns 200 0 0 1
 generalize hs1 : s.one 200 0 0 1 = s1 at *
 clear hs1 h
 go_enter Tryz.func75, Tryz.ntmps75
 go_wp2_with fail
 go_cut [22] (fun v22 wc => v22 = .bool false /\ ∃ O', Step [c, cm] w O wc O' /\ EncS wc O' c cm a k gb cap nb tb s1)
 case first =>
  as_aux_lemma =>
  go_region_held3 (fun _ => True) (first | exact trivial | go_keep) (first | (go_at_call 73; (with_reducible refine (bit_any _ _).mono ?_); rintro x w1 ⟨rfl, rfl⟩) | (go_at_call 119; (with_reducible refine HC.out.mono ?_); rintro x w2 ⟨rfl, O2, hs2, he2⟩))
  all_goals
   go_wp2_with fail
   go_meet
   exact ⟨rfl, O2, hs2.from_drew, he2⟩
 case rest =>
  obtain ⟨rfl, O1, hs1, he1⟩ := hcut
  clear HC
  have HC2 : Hid (Calls Tryz.prog 119 #[.agg #[.pointer (some ⟨a, 0, none⟩)], .pointer (some ⟨k, 434, none⟩), .int .i64 0] wc.drew (EncTo wc.drew O1 c cm a k gb cap nb tb (s1.one 200 1 0 0) (.int .i64 0))) := hid (enc_one (x := 200) (y := 1) (z := 0) (b := 0) he1.drew (by omega) (by unfold isOne; omega) (by omega))
  have hT2 := s1.one_turns 200 1 0 0
  have HS1 := hid hs1
  generalize s1.one 200 1 0 0 = s2 at *
  clear hs1 he1
  go_wp2_with fail
  go_cut [47] (fun v47 wc => v47 = .bool true /\ ∃ O', Step [c, cm] w O wc O' /\ EncS wc O' c cm a k gb cap nb tb s2)
  case first =>
   as_aux_lemma =>
   go_region_held3 (fun _ => True) (first | exact trivial | go_keep) (first | (go_at_call 73; (with_reducible refine (bit_any _ _).mono ?_); rintro x w1 ⟨rfl, rfl⟩) | (go_at_call 119; (with_reducible refine HC2.out.mono ?_); rintro x w2 ⟨rfl, O2, hs2, he2⟩))
   all_goals
    go_wp2_with fail
    go_meet
    exact ⟨rfl, O2, HS1.out.trans hs2.from_drew, he2⟩
  case rest =>
   obtain ⟨rfl, O3, hs1, he1⟩ := hcut
   clear HC2 HS1
   have lT : tlen 220 P = 8 := rfl
   have HN := hid (enc_number (x := 220) (y := P) (n := 3) (capv := 8) he1.drew (by omega) (by unfold isTree; omega) (by rw [lT]; omega) (by omega) (n - 8) (by omega))
   rw [show (((n - 8) : Nat) : Int) = (n : Int) - 8 by omega] at HN
   rw [show (2 : Nat) ^ 3 = 8 from rfl] at HN
   have c0 : wc.cell? ⟨k, 451 + P, none⟩ = some (.slice (some ⟨tb 220 P, 0, none⟩) 8 8) := he1.lik.tree 220 P (by unfold isTree; omega) (by omega)
   have HSP := hid hs1
   clear hs1 he1
   have p1 : (0 : Int) <= (P : Int) := by omega
   have p2 : (P : Int) < 16 := by omega
   have p3 : (P : Int).toNat = P := by omega
   go_wp2_with fail
   go_still_tail 12, (by kernel_rfl)
   change wpList _ _ _ _ _ wc.drew
   go_wp2_with fail
   refine HN.out.mono ?_
   rintro x w2 ⟨rfl, O4, hs2, he2⟩
   go_wp2_with fail
   go_ret
   exact ⟨ret_i (by omega), O4, HSP.out.trans hs2.from_drew, by rw [HL.out]; exact he2⟩
theorem len_enc0C (h : EncS w O c cm a k gb cap nb tb s) (ht : s.e.turns <= 800000) (P n : Nat) (hP : P < 16) (hn : n <= 271) (h8 : ¬ n < 8) (h16 : ¬ n < 16) :
  Calls Tryz.prog 75 #[.pointer (some ⟨k, 433, none⟩), .iface 114 (.agg #[.pointer (some ⟨a, 0, none⟩)]), .int .i64 P, .int .i64 ((n : Int) + 2)] w (EncTo w O c cm a k gb cap nb tb (s.len 0 P n) (.int .i64 ((n : Int) + 2))) := by
 have e1 : IntKind.i64.wrap ((n : Int) + 2 - 2) = (n : Int) := by rw [Int.add_sub_cancel]; exact IntWalk.i64_in _ (by omega)
 have e2 : IntKind.i64.wrap ((n : Int) - 16) = (n : Int) - 16 := IntWalk.i64_in _ (by omega)
 have HL := hid (show s.len 0 P n = ((s.one 200 0 0 1).one 200 1 0 1).num 230 0 8 (n - 16) by unfold Es.len; rw [if_neg h8, if_neg h16])
 have n_choice : ∀ W : World, (nilAhead 310 114 (.agg #[.pointer (some ⟨a, 0, none⟩)]) "cassone/model.choice").run Tryz.prog W = .ok (some false) W := fun _ => by kernel_rfl
 have m_choice : ∀ W : World, (method 310 114 (.agg #[.pointer (some ⟨a, 0, none⟩)]) "cassone/model.choice").run Tryz.prog W = .ok (119, .agg #[.pointer (some ⟨a, 0, none⟩)]) W := fun _ => by kernel_rfl
 have n_number : ∀ W : World, (nilAhead 310 114 (.agg #[.pointer (some ⟨a, 0, none⟩)]) "cassone/model.number").run Tryz.prog W = .ok (some false) W := fun _ => by kernel_rfl
 have m_number : ∀ W : World, (method 310 114 (.agg #[.pointer (some ⟨a, 0, none⟩)]) "cassone/model.number").run Tryz.prog W = .ok (122, .agg #[.pointer (some ⟨a, 0, none⟩)]) W := fun _ => by kernel_rfl
 have HC : Hid (Calls Tryz.prog 119 #[.agg #[.pointer (some ⟨a, 0, none⟩)], .pointer (some ⟨k, 433, none⟩), .int .i64 1] w.drew (EncTo w.drew O c cm a k gb cap nb tb (s.one 200 0 0 1) (.int .i64 1))) := hid (enc_one (x := 200) (y := 0) (z := 0) (b := 1) h.drew (by omega) (by unfold isOne; omega) (by omega))
 have z1 : decide (8 <= (n : Int)) = true := by simp; omega
 have z2 : decide (16 <= (n : Int)) = true := by simp; omega
 have hT1 := s.one_turns 200 0 0 1
 generalize hs1 : s.one 200 0 0 1 = s1 at *
 clear hs1 h
 go_enter Tryz.func75, Tryz.ntmps75
 go_wp2_with fail
 go_cut [22] (fun v22 wc => v22 = .bool false /\ ∃ O', Step [c, cm] w O wc O' /\ EncS wc O' c cm a k gb cap nb tb s1)
 case first =>
  as_aux_lemma =>
  go_region_held3 (fun _ => True) (first | exact trivial | go_keep) (first | (go_at_call 73; (with_reducible refine (bit_any _ _).mono ?_); rintro x w1 ⟨rfl, rfl⟩) | (go_at_call 119; (with_reducible refine HC.out.mono ?_); rintro x w2 ⟨rfl, O2, hs2, he2⟩))
  all_goals
   go_wp2_with fail
   go_meet
   exact ⟨rfl, O2, hs2.from_drew, he2⟩
 case rest =>
  obtain ⟨rfl, O1, hs1, he1⟩ := hcut
  clear HC
  have HC2 : Hid (Calls Tryz.prog 119 #[.agg #[.pointer (some ⟨a, 0, none⟩)], .pointer (some ⟨k, 434, none⟩), .int .i64 1] wc.drew (EncTo wc.drew O1 c cm a k gb cap nb tb (s1.one 200 1 0 1) (.int .i64 1))) := hid (enc_one (x := 200) (y := 1) (z := 0) (b := 1) he1.drew (by omega) (by unfold isOne; omega) (by omega))
  have hT2 := s1.one_turns 200 1 0 1
  have HS1 := hid hs1
  generalize s1.one 200 1 0 1 = s2 at *
  clear hs1 he1
  go_wp2_with fail
  go_cut [47] (fun v47 wc => v47 = .bool false /\ ∃ O', Step [c, cm] w O wc O' /\ EncS wc O' c cm a k gb cap nb tb s2)
  case first =>
   as_aux_lemma =>
   go_region_held3 (fun _ => True) (first | exact trivial | go_keep) (first | (go_at_call 73; (with_reducible refine (bit_any _ _).mono ?_); rintro x w1 ⟨rfl, rfl⟩) | (go_at_call 119; (with_reducible refine HC2.out.mono ?_); rintro x w2 ⟨rfl, O2, hs2, he2⟩))
   all_goals
    go_wp2_with fail
    go_meet
    exact ⟨rfl, O2, HS1.out.trans hs2.from_drew, he2⟩
  case rest =>
   obtain ⟨rfl, O3, hs1, he1⟩ := hcut
   clear HC2 HS1
   have lT : tlen 230 0 = 256 := rfl
   have HN := hid (enc_number (x := 230) (y := 0) (n := 8) (capv := 256) he1.drew (by omega) (by unfold isTree; omega) (by rw [lT]; omega) (by omega) (n - 16) (by omega))
   rw [show (((n - 16) : Nat) : Int) = (n : Int) - 16 by omega] at HN
   rw [show (2 : Nat) ^ 8 = 256 from rfl] at HN
   have c0 : wc.cell? ⟨k, 467, none⟩ = some (.slice (some ⟨tb 230 0, 0, none⟩) 256 256) := he1.lik.tree 230 0 (by unfold isTree; omega) (by omega)
   have HSP := hid hs1
   clear hs1 he1
   go_wp2_with fail
   go_still_tail 10, (by kernel_rfl)
   change wpList _ _ _ _ _ wc.drew
   go_wp2_with fail
   refine HN.out.mono ?_
   rintro x w2 ⟨rfl, O4, hs2, he2⟩
   go_wp2_with fail
   go_ret
   exact ⟨ret_i (by omega), O4, HSP.out.trans hs2.from_drew, by rw [HL.out]; exact he2⟩
theorem len_enc1A (h : EncS w O c cm a k gb cap nb tb s) (ht : s.e.turns <= 800000) (P n : Nat) (hP : P < 16) (hn : n <= 271) (h8 : n < 8) :
  Calls Tryz.prog 75 #[.pointer (some ⟨k, 468, none⟩), .iface 114 (.agg #[.pointer (some ⟨a, 0, none⟩)]), .int .i64 P, .int .i64 ((n : Int) + 2)] w (EncTo w O c cm a k gb cap nb tb (s.len 1 P n) (.int .i64 ((n : Int) + 2))) := by
 have e1 : IntKind.i64.wrap ((n : Int) + 2 - 2) = (n : Int) := by rw [Int.add_sub_cancel]; exact IntWalk.i64_in _ (by omega)
 have HL := hid (show s.len 1 P n = (s.one 201 0 0 0).num 211 P 3 n by unfold Es.len; rw [if_pos h8])
 have n_choice : ∀ W : World, (nilAhead 310 114 (.agg #[.pointer (some ⟨a, 0, none⟩)]) "cassone/model.choice").run Tryz.prog W = .ok (some false) W := fun _ => by kernel_rfl
 have m_choice : ∀ W : World, (method 310 114 (.agg #[.pointer (some ⟨a, 0, none⟩)]) "cassone/model.choice").run Tryz.prog W = .ok (119, .agg #[.pointer (some ⟨a, 0, none⟩)]) W := fun _ => by kernel_rfl
 have n_number : ∀ W : World, (nilAhead 310 114 (.agg #[.pointer (some ⟨a, 0, none⟩)]) "cassone/model.number").run Tryz.prog W = .ok (some false) W := fun _ => by kernel_rfl
 have m_number : ∀ W : World, (method 310 114 (.agg #[.pointer (some ⟨a, 0, none⟩)]) "cassone/model.number").run Tryz.prog W = .ok (122, .agg #[.pointer (some ⟨a, 0, none⟩)]) W := fun _ => by kernel_rfl
 have HC : Hid (Calls Tryz.prog 119 #[.agg #[.pointer (some ⟨a, 0, none⟩)], .pointer (some ⟨k, 468, none⟩), .int .i64 0] w.drew (EncTo w.drew O c cm a k gb cap nb tb (s.one 201 0 0 0) (.int .i64 0))) := hid (enc_one (x := 201) (y := 0) (z := 0) (b := 0) h.drew (by omega) (by unfold isOne; omega) (by omega))
 have z1 : decide (8 <= (n : Int)) = false := by simp; omega
 have hT1 := s.one_turns 201 0 0 0
 generalize hs1 : s.one 201 0 0 0 = s1 at *
 clear hs1 h
 go_enter Tryz.func75, Tryz.ntmps75
 go_wp2_with fail
 go_cut [22] (fun v22 wc => v22 = .bool true /\ ∃ O', Step [c, cm] w O wc O' /\ EncS wc O' c cm a k gb cap nb tb s1)
 case first =>
  as_aux_lemma =>
  go_region_held3 (fun _ => True) (first | exact trivial | go_keep) (first | (go_at_call 73; (with_reducible refine (bit_any _ _).mono ?_); rintro x w1 ⟨rfl, rfl⟩) | (go_at_call 119; (with_reducible refine HC.out.mono ?_); rintro x w2 ⟨rfl, O2, hs2, he2⟩))
  all_goals
   go_wp2_with fail
   go_meet
   exact ⟨rfl, O2, hs2.from_drew, he2⟩
 case rest =>
  obtain ⟨rfl, O1, hs1, he1⟩ := hcut
  clear HC
  have lT : tlen 211 P = 8 := rfl
  have HN := hid (enc_number (x := 211) (y := P) (n := 3) (capv := 8) he1.drew (by omega) (by unfold isTree; omega) (by rw [lT]; omega) (by omega) n (by omega))
  rw [show (2 : Nat) ^ 3 = 8 from rfl] at HN
  have c0 : wc.cell? ⟨k, 470 + P, none⟩ = some (.slice (some ⟨tb 211 P, 0, none⟩) 8 8) := he1.lik.tree 211 P (by unfold isTree; omega) (by omega)
  have HSP := hid hs1
  clear hs1 he1
  have p1 : (0 : Int) <= (P : Int) := by omega
  have p2 : (P : Int) < 16 := by omega
  have p3 : (P : Int).toNat = P := by omega
  go_wp2_with fail
  go_still_tail 11, (by kernel_rfl)
  change wpList _ _ _ _ _ wc.drew
  go_wp2_with fail
  refine HN.out.mono ?_
  rintro x w2 ⟨rfl, O4, hs2, he2⟩
  go_wp2_with fail
  go_ret
  exact ⟨ret_i (by omega), O4, HSP.out.trans hs2.from_drew, by rw [HL.out]; exact he2⟩
theorem len_enc1B (h : EncS w O c cm a k gb cap nb tb s) (ht : s.e.turns <= 800000) (P n : Nat) (hP : P < 16) (hn : n <= 271) (h8 : ¬ n < 8) (h16 : n < 16) :
  Calls Tryz.prog 75 #[.pointer (some ⟨k, 468, none⟩), .iface 114 (.agg #[.pointer (some ⟨a, 0, none⟩)]), .int .i64 P, .int .i64 ((n : Int) + 2)] w (EncTo w O c cm a k gb cap nb tb (s.len 1 P n) (.int .i64 ((n : Int) + 2))) := by
 have e1 : IntKind.i64.wrap ((n : Int) + 2 - 2) = (n : Int) := by rw [Int.add_sub_cancel]; exact IntWalk.i64_in _ (by omega)
 have e2 : IntKind.i64.wrap ((n : Int) - 8) = (n : Int) - 8 := IntWalk.i64_in _ (by omega)
 have HL := hid (show s.len 1 P n = ((s.one 201 0 0 1).one 201 1 0 0).num 221 P 3 (n - 8) by unfold Es.len; rw [if_neg h8, if_pos h16])
 have n_choice : ∀ W : World, (nilAhead 310 114 (.agg #[.pointer (some ⟨a, 0, none⟩)]) "cassone/model.choice").run Tryz.prog W = .ok (some false) W := fun _ => by kernel_rfl
 have m_choice : ∀ W : World, (method 310 114 (.agg #[.pointer (some ⟨a, 0, none⟩)]) "cassone/model.choice").run Tryz.prog W = .ok (119, .agg #[.pointer (some ⟨a, 0, none⟩)]) W := fun _ => by kernel_rfl
 have n_number : ∀ W : World, (nilAhead 310 114 (.agg #[.pointer (some ⟨a, 0, none⟩)]) "cassone/model.number").run Tryz.prog W = .ok (some false) W := fun _ => by kernel_rfl
 have m_number : ∀ W : World, (method 310 114 (.agg #[.pointer (some ⟨a, 0, none⟩)]) "cassone/model.number").run Tryz.prog W = .ok (122, .agg #[.pointer (some ⟨a, 0, none⟩)]) W := fun _ => by kernel_rfl
 have HC : Hid (Calls Tryz.prog 119 #[.agg #[.pointer (some ⟨a, 0, none⟩)], .pointer (some ⟨k, 468, none⟩), .int .i64 1] w.drew (EncTo w.drew O c cm a k gb cap nb tb (s.one 201 0 0 1) (.int .i64 1))) := hid (enc_one (x := 201) (y := 0) (z := 0) (b := 1) h.drew (by omega) (by unfold isOne; omega) (by omega))
 have z1 : decide (8 <= (n : Int)) = true := by simp; omega
 have z2 : decide (16 <= (n : Int)) = false := by simp; omega
 have hT1 := s.one_turns 201 0 0 1
 generalize hs1 : s.one 201 0 0 1 = s1 at *
 clear hs1 h
 go_enter Tryz.func75, Tryz.ntmps75
 go_wp2_with fail
 go_cut [22] (fun v22 wc => v22 = .bool false /\ ∃ O', Step [c, cm] w O wc O' /\ EncS wc O' c cm a k gb cap nb tb s1)
 case first =>
  as_aux_lemma =>
  go_region_held3 (fun _ => True) (first | exact trivial | go_keep) (first | (go_at_call 73; (with_reducible refine (bit_any _ _).mono ?_); rintro x w1 ⟨rfl, rfl⟩) | (go_at_call 119; (with_reducible refine HC.out.mono ?_); rintro x w2 ⟨rfl, O2, hs2, he2⟩))
  all_goals
   go_wp2_with fail
   go_meet
   exact ⟨rfl, O2, hs2.from_drew, he2⟩
 case rest =>
  obtain ⟨rfl, O1, hs1, he1⟩ := hcut
  clear HC
  have HC2 : Hid (Calls Tryz.prog 119 #[.agg #[.pointer (some ⟨a, 0, none⟩)], .pointer (some ⟨k, 469, none⟩), .int .i64 0] wc.drew (EncTo wc.drew O1 c cm a k gb cap nb tb (s1.one 201 1 0 0) (.int .i64 0))) := hid (enc_one (x := 201) (y := 1) (z := 0) (b := 0) he1.drew (by omega) (by unfold isOne; omega) (by omega))
  have hT2 := s1.one_turns 201 1 0 0
  have HS1 := hid hs1
  generalize s1.one 201 1 0 0 = s2 at *
  clear hs1 he1
  go_wp2_with fail
  go_cut [47] (fun v47 wc => v47 = .bool true /\ ∃ O', Step [c, cm] w O wc O' /\ EncS wc O' c cm a k gb cap nb tb s2)
  case first =>
   as_aux_lemma =>
   go_region_held3 (fun _ => True) (first | exact trivial | go_keep) (first | (go_at_call 73; (with_reducible refine (bit_any _ _).mono ?_); rintro x w1 ⟨rfl, rfl⟩) | (go_at_call 119; (with_reducible refine HC2.out.mono ?_); rintro x w2 ⟨rfl, O2, hs2, he2⟩))
   all_goals
    go_wp2_with fail
    go_meet
    exact ⟨rfl, O2, HS1.out.trans hs2.from_drew, he2⟩
  case rest =>
   obtain ⟨rfl, O3, hs1, he1⟩ := hcut
   clear HC2 HS1
   have lT : tlen 221 P = 8 := rfl
   have HN := hid (enc_number (x := 221) (y := P) (n := 3) (capv := 8) he1.drew (by omega) (by unfold isTree; omega) (by rw [lT]; omega) (by omega) (n - 8) (by omega))
   rw [show (((n - 8) : Nat) : Int) = (n : Int) - 8 by omega] at HN
   rw [show (2 : Nat) ^ 3 = 8 from rfl] at HN
   have c0 : wc.cell? ⟨k, 486 + P, none⟩ = some (.slice (some ⟨tb 221 P, 0, none⟩) 8 8) := he1.lik.tree 221 P (by unfold isTree; omega) (by omega)
   have HSP := hid hs1
   clear hs1 he1
   have p1 : (0 : Int) <= (P : Int) := by omega
   have p2 : (P : Int) < 16 := by omega
   have p3 : (P : Int).toNat = P := by omega
   go_wp2_with fail
   go_still_tail 12, (by kernel_rfl)
   change wpList _ _ _ _ _ wc.drew
   go_wp2_with fail
   refine HN.out.mono ?_
   rintro x w2 ⟨rfl, O4, hs2, he2⟩
   go_wp2_with fail
   go_ret
   exact ⟨ret_i (by omega), O4, HSP.out.trans hs2.from_drew, by rw [HL.out]; exact he2⟩
theorem len_enc1C (h : EncS w O c cm a k gb cap nb tb s) (ht : s.e.turns <= 800000) (P n : Nat) (hP : P < 16) (hn : n <= 271) (h8 : ¬ n < 8) (h16 : ¬ n < 16) :
  Calls Tryz.prog 75 #[.pointer (some ⟨k, 468, none⟩), .iface 114 (.agg #[.pointer (some ⟨a, 0, none⟩)]), .int .i64 P, .int .i64 ((n : Int) + 2)] w (EncTo w O c cm a k gb cap nb tb (s.len 1 P n) (.int .i64 ((n : Int) + 2))) := by
 have e1 : IntKind.i64.wrap ((n : Int) + 2 - 2) = (n : Int) := by rw [Int.add_sub_cancel]; exact IntWalk.i64_in _ (by omega)
 have e2 : IntKind.i64.wrap ((n : Int) - 16) = (n : Int) - 16 := IntWalk.i64_in _ (by omega)
 have HL := hid (show s.len 1 P n = ((s.one 201 0 0 1).one 201 1 0 1).num 231 0 8 (n - 16) by unfold Es.len; rw [if_neg h8, if_neg h16])
 have n_choice : ∀ W : World, (nilAhead 310 114 (.agg #[.pointer (some ⟨a, 0, none⟩)]) "cassone/model.choice").run Tryz.prog W = .ok (some false) W := fun _ => by kernel_rfl
 have m_choice : ∀ W : World, (method 310 114 (.agg #[.pointer (some ⟨a, 0, none⟩)]) "cassone/model.choice").run Tryz.prog W = .ok (119, .agg #[.pointer (some ⟨a, 0, none⟩)]) W := fun _ => by kernel_rfl
 have n_number : ∀ W : World, (nilAhead 310 114 (.agg #[.pointer (some ⟨a, 0, none⟩)]) "cassone/model.number").run Tryz.prog W = .ok (some false) W := fun _ => by kernel_rfl
 have m_number : ∀ W : World, (method 310 114 (.agg #[.pointer (some ⟨a, 0, none⟩)]) "cassone/model.number").run Tryz.prog W = .ok (122, .agg #[.pointer (some ⟨a, 0, none⟩)]) W := fun _ => by kernel_rfl
 have HC : Hid (Calls Tryz.prog 119 #[.agg #[.pointer (some ⟨a, 0, none⟩)], .pointer (some ⟨k, 468, none⟩), .int .i64 1] w.drew (EncTo w.drew O c cm a k gb cap nb tb (s.one 201 0 0 1) (.int .i64 1))) := hid (enc_one (x := 201) (y := 0) (z := 0) (b := 1) h.drew (by omega) (by unfold isOne; omega) (by omega))
 have z1 : decide (8 <= (n : Int)) = true := by simp; omega
 have z2 : decide (16 <= (n : Int)) = true := by simp; omega
 have hT1 := s.one_turns 201 0 0 1
 generalize hs1 : s.one 201 0 0 1 = s1 at *
 clear hs1 h
 go_enter Tryz.func75, Tryz.ntmps75
 go_wp2_with fail
 go_cut [22] (fun v22 wc => v22 = .bool false /\ ∃ O', Step [c, cm] w O wc O' /\ EncS wc O' c cm a k gb cap nb tb s1)
 case first =>
  as_aux_lemma =>
  go_region_held3 (fun _ => True) (first | exact trivial | go_keep) (first | (go_at_call 73; (with_reducible refine (bit_any _ _).mono ?_); rintro x w1 ⟨rfl, rfl⟩) | (go_at_call 119; (with_reducible refine HC.out.mono ?_); rintro x w2 ⟨rfl, O2, hs2, he2⟩))
  all_goals
   go_wp2_with fail
   go_meet
   exact ⟨rfl, O2, hs2.from_drew, he2⟩
 case rest =>
  obtain ⟨rfl, O1, hs1, he1⟩ := hcut
  clear HC
  have HC2 : Hid (Calls Tryz.prog 119 #[.agg #[.pointer (some ⟨a, 0, none⟩)], .pointer (some ⟨k, 469, none⟩), .int .i64 1] wc.drew (EncTo wc.drew O1 c cm a k gb cap nb tb (s1.one 201 1 0 1) (.int .i64 1))) := hid (enc_one (x := 201) (y := 1) (z := 0) (b := 1) he1.drew (by omega) (by unfold isOne; omega) (by omega))
  have hT2 := s1.one_turns 201 1 0 1
  have HS1 := hid hs1
  generalize s1.one 201 1 0 1 = s2 at *
  clear hs1 he1
  go_wp2_with fail
  go_cut [47] (fun v47 wc => v47 = .bool false /\ ∃ O', Step [c, cm] w O wc O' /\ EncS wc O' c cm a k gb cap nb tb s2)
  case first =>
   as_aux_lemma =>
   go_region_held3 (fun _ => True) (first | exact trivial | go_keep) (first | (go_at_call 73; (with_reducible refine (bit_any _ _).mono ?_); rintro x w1 ⟨rfl, rfl⟩) | (go_at_call 119; (with_reducible refine HC2.out.mono ?_); rintro x w2 ⟨rfl, O2, hs2, he2⟩))
   all_goals
    go_wp2_with fail
    go_meet
    exact ⟨rfl, O2, HS1.out.trans hs2.from_drew, he2⟩
  case rest =>
   obtain ⟨rfl, O3, hs1, he1⟩ := hcut
   clear HC2 HS1
   have lT : tlen 231 0 = 256 := rfl
   have HN := hid (enc_number (x := 231) (y := 0) (n := 8) (capv := 256) he1.drew (by omega) (by unfold isTree; omega) (by rw [lT]; omega) (by omega) (n - 16) (by omega))
   rw [show (((n - 16) : Nat) : Int) = (n : Int) - 16 by omega] at HN
   rw [show (2 : Nat) ^ 8 = 256 from rfl] at HN
   have c0 : wc.cell? ⟨k, 502, none⟩ = some (.slice (some ⟨tb 231 0, 0, none⟩) 256 256) := he1.lik.tree 231 0 (by unfold isTree; omega) (by omega)
   have HSP := hid hs1
   clear hs1 he1
   go_wp2_with fail
   go_still_tail 10, (by kernel_rfl)
   change wpList _ _ _ _ _ wc.drew
   go_wp2_with fail
   refine HN.out.mono ?_
   rintro x w2 ⟨rfl, O4, hs2, he2⟩
   go_wp2_with fail
   go_ret
   exact ⟨ret_i (by omega), O4, HSP.out.trans hs2.from_drew, by rw [HL.out]; exact he2⟩
end
end Go.Proofs.YtfpoabeihpfeiaaGreat.Mo
end
section
section
namespace Go.Proofs.YtfpoabeihpfeiaaGreat.Mo
open Go.RowKit
open Rc
section
variable {w : World} {O : Paint} {c cm a tot k gb cap nb : Nat} {tb : Nat -> Nat -> Nat} {s : Es} {d : Ds}
theorem len_enc {u : Nat} (hu : u <= 1) (h : EncS w O c cm a k gb cap nb tb s) (ht : s.e.turns <= 800000) (P n : Nat) (hP : P < 16) (hn : n <= 271) :
  Calls Tryz.prog 75 #[.pointer (some ⟨k, 433 + 35 * u, none⟩), .iface 114 (.agg #[.pointer (some ⟨a, 0, none⟩)]), .int .i64 P, .int .i64 ((n : Int) + 2)] w (EncTo w O c cm a k gb cap nb tb (s.len u P n) (.int .i64 ((n : Int) + 2))) := by
 have hu' : u = 0 \/ u = 1 := by omega
 rcases hu' with rfl | rfl
 · by_cases h8 : n < 8
   · exact len_enc0A h ht P n hP hn h8
   · by_cases h16 : n < 16
     · exact len_enc0B h ht P n hP hn h8 h16
     · exact len_enc0C h ht P n hP hn h8 h16
 · by_cases h8 : n < 8
   · exact len_enc1A h ht P n hP hn h8
   · by_cases h16 : n < 16
     · exact len_enc1B h ht P n hP hn h8 h16
     · exact len_enc1C h ht P n hP hn h8 h16
theorem len_dec {u : Nat} (hu : u <= 1) (h : DecS w O c cm a tot k gb cap nb tb d) (P : Nat) (hP : P < 16) :
  Calls Tryz.prog 75 #[.pointer (some ⟨k, 433 + 35 * u, none⟩), .iface 193 (.agg #[.pointer (some ⟨a, 0, none⟩)]), .int .i64 P, .int .i64 0] w (DecTo w O c cm a tot k gb cap nb tb (d.len u P) (.int .i64 ((d.lenV u P : Int) + 2))) := by
 have hu' : u = 0 \/ u = 1 := by omega
 rcases hu' with rfl | rfl
 · have hb1 := d.bit_le 200 0 0
   have hb2 := (d.one 200 0 0).bit_le 200 1 0
   by_cases h1 : d.bit 200 0 0 = 0
   · exact len_dec0A h P hP h1
   · by_cases h2 : (d.one 200 0 0).bit 200 1 0 = 0
     · exact len_dec0B h P hP (by omega) h2
     · exact len_dec0C h P hP (by omega) (by omega)
 · have hb1 := d.bit_le 201 0 0
   have hb2 := (d.one 201 0 0).bit_le 201 1 0
   by_cases h1 : d.bit 201 0 0 = 0
   · exact len_dec1A h P hP h1
   · by_cases h2 : (d.one 201 0 0).bit 201 1 0 = 0
     · exact len_dec1B h P hP (by omega) h2
     · exact len_dec1C h P hP (by omega) (by omega)
end
end Go.Proofs.YtfpoabeihpfeiaaGreat.Mo
end
section
namespace Go.Proofs.YtfpoabeihpfeiaaGreat.Mo
open Go.RowKit
open Rc
open Pk (Rp)
open Wnd (Win)
structure ModAt (w : World) (O : Paint) (cw mo wb : Nat) (v : Value) (lc lp pb : Nat) (most : Int) (wm : Nat) (l : List UInt8) (r : Rp) (st k : Nat) : Prop where
 blk : Blk w O cw mo (.cells #[.int .i64 lc, .int .i64 lp, .int .i64 pb, .int .i64 most, .pointer (some ⟨wb, 0, none⟩), .int .i64 r.a, .int .i64 r.b, .int .i64 r.c, .int .i64 r.d, .int .i64 st, .pointer (some ⟨k, 0, none⟩)] 98 (0, 0))
 win : Win w wb v wm l
 wO : O wb = cw /\ ∀ j, v.ownBlock = some j -> O j = cw /\ j < w.heap.size
 st12 : st < 12
section
variable {cs : List Nat} {w w' : World} {O O' : Paint} {cw mo wb : Nat} {v : Value} {lc lp pb wm st k : Nat} {most : Int} {l : List UInt8} {r : Rp}
theorem ModAt.step (h : ModAt w O cw mo wb v lc lp pb most wm l r st k) (hs : Step cs w O w' O') (hc : cw ∉ cs) : ModAt w' O' cw mo wb v lc lp pb most wm l r st k := by
 obtain ⟨o1, o2⟩ := h.wO
 refine ⟨h.blk.step hs hc, h.win.frame hs.frame (fun j hj hm => ?_), ⟨(hs.ext wb h.win.lt).trans o1, fun j hj => ⟨(hs.ext j (o2 j hj).2).trans (o2 j hj).1, Nat.lt_of_lt_of_le (o2 j hj).2 hs.size⟩⟩, h.st12⟩
 rcases hj with rfl | hj
 · rw [o1] at hm; exact hc hm
 · rw [(o2 j hj).1] at hm; exact hc hm
theorem ModAt.below (h : ModAt w O cw mo wb v lc lp pb most wm l r st k) (hb : Below w.heap.size w w') : ModAt w' O cw mo wb v lc lp pb most wm l r st k := h.step (Step.of_below_same hb O) (by simp)
theorem ModAt.drewN (h : ModAt w O cw mo wb v lc lp pb most wm l r st k) (n : Nat) : ModAt (w.drewN n) O cw mo wb v lc lp pb most wm l r st k := h.step ((Step.refl [] w O).drewN n) (by simp)
theorem eleven {w : World} {X : Nat} {a b c d e f g h i j m : Value} {t : TypeId} (hh : w.heap[X]? = some (.cells #[a, b, c, d, e, f, g, h, i, j, m] t (0, 0))) :
  w.cell? ⟨X, 0, none⟩ = some a /\ w.cell? ⟨X, 1, none⟩ = some b /\ w.cell? ⟨X, 2, none⟩ = some c /\ w.cell? ⟨X, 3, none⟩ = some d /\ w.cell? ⟨X, 4, none⟩ = some e /\ w.cell? ⟨X, 5, none⟩ = some f /\ w.cell? ⟨X, 6, none⟩ = some g /\ w.cell? ⟨X, 7, none⟩ = some h /\ w.cell? ⟨X, 8, none⟩ = some i /\ w.cell? ⟨X, 9, none⟩ = some j /\ w.cell? ⟨X, 10, none⟩ = some m := by
 refine ⟨?_, ?_, ?_, ?_, ?_, ?_, ?_, ?_, ?_, ?_, ?_⟩ <;> simp [World.cell?, hh]
theorem ModAt.cells (h : ModAt w O cw mo wb v lc lp pb most wm l r st k) : w.cell? ⟨mo, 0, none⟩ = some (.int .i64 lc) /\ w.cell? ⟨mo, 1, none⟩ = some (.int .i64 lp) /\ w.cell? ⟨mo, 2, none⟩ = some (.int .i64 pb) /\ w.cell? ⟨mo, 3, none⟩ = some (.int .i64 most) /\
  w.cell? ⟨mo, 4, none⟩ = some (.pointer (some ⟨wb, 0, none⟩)) /\ w.cell? ⟨mo, 5, none⟩ = some (.int .i64 r.a) /\ w.cell? ⟨mo, 6, none⟩ = some (.int .i64 r.b) /\ w.cell? ⟨mo, 7, none⟩ = some (.int .i64 r.c) /\ w.cell? ⟨mo, 8, none⟩ = some (.int .i64 r.d) /\
  w.cell? ⟨mo, 9, none⟩ = some (.int .i64 st) /\ w.cell? ⟨mo, 10, none⟩ = some (.pointer (some ⟨k, 0, none⟩)) := eleven h.blk.1
end
end Go.Proofs.YtfpoabeihpfeiaaGreat.Mo
end
end
