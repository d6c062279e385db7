/-
  Contracts of the developers' encoder of layer 3, more: Bit, Direct, Part, End, NewEncoder; and of none.
-/
import Derived.Test.YtakbocaemlgbaaaRcEncT
namespace Go.Proofs.Ytakbocaemlgbaaa.Rc
open Go.RowKit
theorem ret_bool {a b : Bool} (h : a = b) : Ending.returned (.bool a) = .returned (.bool b) := by rw [h]
theorem ret_num {k : IntKind} {a b : Int} (h : a = b) : Ending.returned (.int k a) = .returned (.int k b) := by rw [h]
theorem isprob_any {w : World} {q : Addr} {p : Nat} (hc : w.cell? q = some (.int .u16 (p : Int))) (h1 : 1 ≤ p) (h2 : p ≤ 2047) :
    Calls Try.prog 117 #[.pointer (some q)] w fun x w' => x = .returned (.bool true) ∧ w = w' := by
  have g1 : decide ((1 : Int) ≤ (p : Int)) = true := by simp; omega
  have g2 : decide ((p : Int) < 2048) = true := by simp; omega
  go_enter Try.func117, Try.ntmps117
  go_wp2
  go_ret
  exact ⟨ret_bool (by simp), rfl⟩
theorem border_any (s p : Nat) (w : World) (hs : s < 4294967296) (hp : p ≤ 2047) :
    Calls Try.prog 118 #[.int .u32 (s : Int), .int .u16 (p : Int)] w fun x w' => x = .returned (.int .u32 ((s / 2048 * p : Nat) : Int)) ∧ w = w' := by
  have hm : s / 2048 * p < 4294967296 := by
    have h1 : s / 2048 * p ≤ s / 2048 * 2047 := Nat.mul_le_mul_left _ hp
    omega
  have HM := Lib.hid (show ((s : Int) / 2048 * (p : Int)) = ((s / 2048 * p : Nat) : Int) by simp)
  have hnn : (0 : Int) ≤ (s : Int) / 2048 * (p : Int) := by rw [HM.out]; omega
  have hnu : (s : Int) / 2048 * (p : Int) < 4294967296 := by rw [HM.out]; omega
  clear hm
  go_enter Try.func118, Try.ntmps118
  go_wp2
  go_ret
  exact ⟨ret_num (by rw [← HM.out]), rfl⟩
theorem learn0_any {w : World} {q : Addr} {p : Nat} (hc : w.cell? q = some (.int .u16 (p : Int))) (hf : w.frozen? q = false) (h1 : 1 ≤ p) (h2 : p ≤ 2047) :
    Calls Try.prog 120 #[.pointer (some q), .int .i64 0] w fun x w' => x = .returned (.tuple #[]) ∧ w' = (w.setCell q (.int .u16 ((learn p 0 : Nat) : Int))).drew := by
  have HL := Lib.hid (show ((learn p 0 : Nat) : Int) = (p : Int) + (2048 - (p : Int)) / 32 by show ((p + (2048 - p) / 32 : Nat) : Int) = _; omega)
  have e1 : IntKind.u16.wrap (2048 - (p : Int)) = 2048 - (p : Int) := IntWalk.u16_in _ (by omega)
  have e2 : IntKind.u16.wrap ((2048 - (p : Int)).tdiv 32) = (2048 - (p : Int)) / 32 := by rw [Int.tdiv_eq_ediv_of_nonneg (by omega)]; exact IntWalk.u16_in _ (by omega)
  have e3 : IntKind.u16.wrap ((p : Int) + (2048 - (p : Int)) / 32) = (p : Int) + (2048 - (p : Int)) / 32 := IntWalk.u16_in _ (by omega)
  rw [HL.out]
  go_enter Try.func120, Try.ntmps120
  go_wp2
  go_region
  all_goals
    go_end0
    exact ⟨rfl, rfl⟩
theorem learn1_any {w : World} {q : Addr} {p : Nat} (hc : w.cell? q = some (.int .u16 (p : Int))) (hf : w.frozen? q = false) (h1 : 1 ≤ p) (h2 : p ≤ 2047) :
    Calls Try.prog 120 #[.pointer (some q), .int .i64 1] w fun x w' => x = .returned (.tuple #[]) ∧ w' = (w.setCell q (.int .u16 ((learn p 1 : Nat) : Int))).drew := by
  have HL := Lib.hid (show ((learn p 1 : Nat) : Int) = (p : Int) - (p : Int) / 32 by show ((p - p / 32 : Nat) : Int) = _; omega)
  have e2 : IntKind.u16.wrap ((p : Int).tdiv 32) = (p : Int) / 32 := by rw [Int.tdiv_eq_ediv_of_nonneg (by omega)]; exact IntWalk.u16_in _ (by omega)
  have e3 : IntKind.u16.wrap ((p : Int) - (p : Int) / 32) = (p : Int) - (p : Int) / 32 := IntWalk.u16_in _ (by omega)
  rw [HL.out]
  go_enter Try.func120, Try.ntmps120
  go_wp2
  go_region
  all_goals
    go_end0
    exact ⟨rfl, rfl⟩
theorem learn_dev {w : World} {q : Addr} {p b : Nat} (hc : w.cell? q = some (.int .u16 (p : Int))) (hf : w.frozen? q = false) (h1 : 1 ≤ p) (h2 : p ≤ 2047) (hb : b ≤ 1) :
    Calls Try.prog 120 #[.pointer (some q), .int .i64 (b : Int)] w fun x w' => x = .returned (.tuple #[]) ∧ w' = (w.setCell q (.int .u16 ((learn p b : Nat) : Int))).drew := by
  by_cases h0 : b = 0
  · subst h0; exact learn0_any hc hf h1 h2
  · obtain rfl : b = 1 := by omega
    exact learn1_any hc hf h1 h2
theorem _root_.Go.Proofs.Ytakbocaemlgbaaa.Step.store (w : World) (O : Paint) (p : Addr) (u : Value) : Step [O p.block] w O (w.setCell p u) O := (Step.refl _ w O).setCell (.inl (by simp)) u
theorem EncRaw.width {w : World} {O : Paint} {c a : Nat} {e : Enc} (h : EncRaw w O c a e) (s : Nat) : EncRaw (w.setCell ⟨a, 2, none⟩ (.int .u32 (s : Int))) O c a ⟨e.low, s, e.turns⟩ ∧ Step [c] w O (w.setCell ⟨a, 2, none⟩ (.int .u32 (s : Int))) O := by
  obtain ⟨g, cap, hb, hr⟩ := h
  refine ⟨⟨g, cap, ?_, ?_⟩, (Step.refl [c] w O).setCell (p := ⟨a, 2, none⟩) (.inl (by simp [hb.2])) _⟩
  · simpa using hb.setCell 2 (.int .u32 (s : Int))
  · exact hr.setCell_other (p := ⟨a, 2, none⟩) (fun e1 => hr.ne hb.1 (by decide) (by simpa [Value.ownBlock] using e1)) _
theorem EncRaw.cells {w : World} {O : Paint} {c a : Nat} {e : Enc} (h : EncRaw w O c a e) : w.cell? ⟨a, 2, none⟩ = some (.int .u32 (e.size : Int)) ∧ w.frozen? ⟨a, 2, none⟩ = false ∧ a < w.heap.size ∧ O a = c := by
  obtain ⟨g, cap, hb, hr⟩ := h
  obtain ⟨_, _, h2, _, _, f2⟩ := three hb.1
  exact ⟨h2, f2, hb.lt, hb.2⟩
theorem EncRaw.other {w : World} {O : Paint} {c a : Nat} {e : Enc} (h : EncRaw w O c a e) {p : Addr} (hp : O p.block ≠ c) (u : Value) : EncRaw (w.setCell p u) O c a e := h.step (Step.store w O p u) (by simpa using Ne.symm hp)
theorem EncRaw.drewN {w : World} {O : Paint} {c a : Nat} {e : Enc} (h : EncRaw w O c a e) (n : Nat) : EncRaw (w.drewN n) O c a e := h.step ((Step.refl [] w O).drewN n) (by simp)
theorem EncRaw.drew {w : World} {O : Paint} {c a : Nat} {e : Enc} (h : EncRaw w O c a e) : EncRaw w.drew O c a e := h.step ((Step.refl [] w O).drew) (by simp)
/-- What a bit does to the encoder; the probability's cell is set ahead of it. -/
def Bitten (w : World) (O : Paint) (c a : Nat) (q : Addr) (p b : Nat) (e : Enc) (x : Ending) (w' : World) : Prop :=
  x = .returned (.tuple #[]) ∧ ∃ O', Step [c] (w.setCell q (.int .u16 ((learn p b : Nat) : Int))) O w' O' ∧ EncAt w' O' c a (e.bit p b)
theorem EncRaw.apart {w w1 : World} {O : Paint} {c : Nat} {q : Addr} {v : Value} (hs : Step [c] w O w1 O) (hO : O q.block ≠ c) (hq : w.cell? q = some v) (hf : w.frozen? q = false) : w1.cell? q = some v ∧ w1.frozen? q = false :=
  have hl := block_lt_of_cell hq
  ⟨(hs.cell hl (by simpa using hO)).trans hq, (hs.frozen hl (by simpa using hO)).trans hf⟩
set_option maxHeartbeats 400000 in
theorem encbit0 {w : World} {O : Paint} {c a : Nat} {e : Enc} {q : Addr} {p : Nat} (h : EncAt w O c a e) (ht : e.turns ≤ 999990) (hq : w.cell? q = some (.int .u16 (p : Int))) (hf : w.frozen? q = false) (hO : O q.block ≠ c) (h1 : 1 ≤ p) (h2 : p ≤ 2047) :
    Calls Try.prog 112 #[.pointer (some ⟨a, 0, none⟩), .pointer (some q), .int .i64 0] w (Bitten w O c a q p 0 e) := by
  obtain ⟨hraw, hfine⟩ := h
  have hb := bit_raw (b := 0) hfine h1 h2
  rw [if_pos rfl] at hb
  have HRAW := Lib.hid hraw
  have HF := Lib.hid (fine_bit (b := 0) hfine h1 h2)
  have HBE := Lib.hid (show e.bit p 0 = widen ⟨e.low, e.size / 2048 * p, e.turns⟩ from rfl)
  have HBD := Lib.hid (fun W => border_any e.size p W hfine.2.1 h2)
  obtain ⟨hc2, hf2, hal, hoa⟩ := hraw.cells
  have HO := Lib.hid hO
  have hne : q.block ≠ a := fun e1 => hO (by rw [e1]; exact hoa)
  generalize e.size / 2048 * p = B at *
  have HB := Lib.hid hb
  clear hraw hfine hb hoa hO
  go_enter Try.func112, Try.ntmps112
  go_wp2_with fail
  refine (isprob_any hq h1 h2).mono ?_
  rintro x w1 ⟨rfl, rfl⟩
  go_wp2_with fail
  go_quiet ((go_at_call 118; exact Calls.quiet_of_same (still (HBD.out _))))
  go_wp2_with fail
  obtain ⟨k1, k2⟩ := (HRAW.out.drewN nq).width B
  have hS : Step [c] w O ((w.drewN nq).setCell ⟨a, 2, none⟩ (.int .u32 (B : Int))) O := k2.from_drewN
  obtain ⟨c1, c2⟩ := EncRaw.apart hS HO.out hq hf
  generalize (w.drewN nq).setCell ⟨a, 2, none⟩ (.int .u32 (B : Int)) = W1 at *
  refine (learn_dev c1 c2 h1 h2 (b := 0) (by omega)).mono ?_
  rintro x w2 ⟨rfl, rfl⟩
  have k3 := (k1.other HO.out (.int .u16 ((learn p 0 : Nat) : Int))).drew
  have hS2 := (hS.setCell_both (p := q) (by simpa using HO.out) (.int .u16 ((learn p 0 : Nat) : Int))).drew
  generalize (W1.setCell q (.int .u16 ((learn p 0 : Nat) : Int))).drew = W2 at *
  have K3 := Lib.hid k3
  have HS2 := Lib.hid hS2
  clear k1 k2 k3 hS hS2 c1 c2
  go_wp2_with fail
  refine (turn_any K3.out HB.out (by simp only; omega)).mono ?_
  rintro x w3 ⟨rfl, O3, hst, hen⟩
  have HST := Lib.hid hst
  have HEN := Lib.hid hen
  clear hst hen
  go_wp2
  first | go_end0 | (simp only [Exit.inBlock, Exit.then]; refine bodyPost_ret (results_none rfl _ _ _) rfl ?_) | refine bodyPost_ret (results_none rfl _ _ _) rfl ?_
  exact ⟨rfl, O3, HS2.out.trans HST.out, by rw [HBE.out]; exact HEN.out, HF.out⟩
set_option maxHeartbeats 400000 in
theorem encbit1 {w : World} {O : Paint} {c a : Nat} {e : Enc} {q : Addr} {p : Nat} (h : EncAt w O c a e) (ht : e.turns ≤ 999990) (hq : w.cell? q = some (.int .u16 (p : Int))) (hf : w.frozen? q = false) (hO : O q.block ≠ c) (h1 : 1 ≤ p) (h2 : p ≤ 2047) :
    Calls Try.prog 112 #[.pointer (some ⟨a, 0, none⟩), .pointer (some q), .int .i64 1] w (Bitten w O c a q p 1 e) := by
  obtain ⟨hraw, hfine⟩ := h
  have hb := bit_raw (b := 1) hfine h1 h2
  rw [if_neg (by omega)] at hb
  have hbl := bound_lt hfine.1 h2
  have HRAW := Lib.hid hraw
  have HF := Lib.hid (fine_bit (b := 1) hfine h1 h2)
  have HBE := Lib.hid (show e.bit p 1 = widen ⟨e.low + e.size / 2048 * p, e.size - e.size / 2048 * p, e.turns⟩ from rfl)
  have HBD := Lib.hid (fun W => border_any e.size p W hfine.2.1 h2)
  obtain ⟨hc2, hf2, hal, hoa⟩ := hraw.cells
  have HO := Lib.hid hO
  have hne : q.block ≠ a := fun e1 => hO (by rw [e1]; exact hoa)
  generalize e.size / 2048 * p = B at *
  have hsz : e.size < 4294967296 := hfine.2.1
  have HL : Hid (e.low + B < 256 ^ (e.turns + 4)) := Lib.hid (by have := hfine.2.2; omega)
  have HB := Lib.hid hb
  clear hraw hfine hb hoa hO
  go_enter Try.func112, Try.ntmps112
  go_wp2_with fail
  refine (isprob_any hq h1 h2).mono ?_
  rintro x w1 ⟨rfl, rfl⟩
  go_wp2_with fail
  go_quiet ((go_at_call 118; exact Calls.quiet_of_same (still (HBD.out _))))
  go_wp2_with fail
  refine (raise_any (HRAW.out.drewN nq) (by omega) B (by omega) HL.out).mono ?_
  rintro x w1 ⟨rfl, hS1, hE1⟩
  have hS1' : Step [c] w O w1 O := hS1.from_drewN
  obtain ⟨m2, mf2, mal, moa⟩ := hE1.cells
  simp only at m2
  have HS1 := Lib.hid hS1'
  have HE1 := Lib.hid hE1
  have hBs : (B : Int) < (e.size : Int) := by omega
  have hBs2 : (e.size : Int) < 4294967296 := by omega
  clear hS1 hS1' hE1 moa
  have HSUB := Lib.hid (show (e.size : Int) - (B : Int) = ((e.size - B : Nat) : Int) by omega)
  go_wp2_with fail
  rw [HSUB.out]
  obtain ⟨k1, k2⟩ := HE1.out.width (e.size - B)
  have hS := HS1.out.trans k2
  obtain ⟨c1, c2⟩ := EncRaw.apart hS HO.out hq hf
  generalize w1.setCell ⟨a, 2, none⟩ (.int .u32 ((e.size - B : Nat) : Int)) = W1 at *
  refine (learn_dev c1 c2 h1 h2 (b := 1) (by omega)).mono ?_
  rintro x w2 ⟨rfl, rfl⟩
  have k3 := (k1.other HO.out (.int .u16 ((learn p 1 : Nat) : Int))).drew
  have hS2 := (hS.setCell_both (p := q) (by simpa using HO.out) (.int .u16 ((learn p 1 : Nat) : Int))).drew
  generalize (W1.setCell q (.int .u16 ((learn p 1 : Nat) : Int))).drew = W2 at *
  have K3 := Lib.hid k3
  have HS2 := Lib.hid hS2
  clear k1 k2 k3 hS hS2 c1 c2
  go_wp2_with fail
  refine (turn_any K3.out HB.out (by simp only; omega)).mono ?_
  rintro x w3 ⟨rfl, O3, hst, hen⟩
  have HST := Lib.hid hst
  have HEN := Lib.hid hen
  clear hst hen
  go_wp2
  first | go_end0 | (simp only [Exit.inBlock, Exit.then]; refine bodyPost_ret (results_none rfl _ _ _) rfl ?_) | refine bodyPost_ret (results_none rfl _ _ _) rfl ?_
  exact ⟨rfl, O3, HS2.out.trans HST.out, by rw [HBE.out]; exact HEN.out, HF.out⟩
theorem encbit {w : World} {O : Paint} {c a : Nat} {e : Enc} {q : Addr} {p b : Nat} (h : EncAt w O c a e) (ht : e.turns ≤ 999990) (hq : w.cell? q = some (.int .u16 (p : Int))) (hf : w.frozen? q = false) (hO : O q.block ≠ c) (h1 : 1 ≤ p) (h2 : p ≤ 2047) (hb : b ≤ 1) :
    Calls Try.prog 112 #[.pointer (some ⟨a, 0, none⟩), .pointer (some q), .int .i64 (b : Int)] w (Bitten w O c a q p b e) := by
  by_cases h0 : b = 0
  · subst h0; exact encbit0 h ht hq hf hO h1 h2
  · obtain rfl : b = 1 := by omega
    exact encbit1 h ht hq hf hO h1 h2
end Go.Proofs.Ytakbocaemlgbaaa.Rc
