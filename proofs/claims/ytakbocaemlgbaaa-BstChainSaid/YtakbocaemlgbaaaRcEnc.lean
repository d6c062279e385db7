/-
  Contracts of the developers' encoder of layer 3: what an encoder is in memory ('EncAt'), and what each of its calls does.
-/
import Derived.Test.YtakbocaemlgbaaaRcBase
namespace Go.Proofs.Ytakbocaemlgbaaa.Rc
open Go.RowKit

/-- Block a is an encoder with these numbers; it, and its bytes, belong to c. -/
def EncRaw (w : World) (O : Paint) (c a : Nat) (e : Enc) : Prop := ∃ g cap,
  Blk w O c a (.cells #[.slice (some ⟨g, 0, none⟩) (e.turns + 1) cap, .int .u32 ((e.low % 4294967296 : Nat) : Int), .int .u32 (e.size : Int)] 103 (0, 0)) ∧
  Held w O c 5 (.slice (some ⟨g, 0, none⟩) (e.turns + 1) cap) ((0 :: be e.turns (e.low / 4294967296)).map byte)
/-- Such an encoder, between two calls. -/
def EncAt (w : World) (O : Paint) (c a : Nat) (e : Enc) : Prop := EncRaw w O c a e ∧ Fine e
theorem EncRaw.step {cs : List Nat} {w w' : World} {O O' : Paint} {c a : Nat} {e : Enc} (h : EncRaw w O c a e) (hs : Step cs w O w' O') (hc : c ∉ cs) : EncRaw w' O' c a e := by
  obtain ⟨g, cap, h1, h2⟩ := h
  exact ⟨g, cap, h1.step hs hc, h2.step hs hc⟩
theorem EncAt.step {cs : List Nat} {w w' : World} {O O' : Paint} {c a : Nat} {e : Enc} (h : EncAt w O c a e) (hs : Step cs w O w' O') (hc : c ∉ cs) : EncAt w' O' c a e := ⟨h.1.step hs hc, h.2⟩
theorem three {w : World} {X : Nat} {a b c : Value} {t : TypeId} (h : w.heap[X]? = some (.cells #[a, b, c] t (0, 0))) :
    w.cell? ⟨X, 0, none⟩ = some a ∧ w.cell? ⟨X, 1, none⟩ = some b ∧ w.cell? ⟨X, 2, none⟩ = some c ∧ w.frozen? ⟨X, 0, none⟩ = false ∧ w.frozen? ⟨X, 1, none⟩ = false ∧ w.frozen? ⟨X, 2, none⟩ = false :=
  ⟨by simp [World.cell?, h], by simp [World.cell?, h], by simp [World.cell?, h], by simp [World.frozen?, h], by simp [World.frozen?, h], by simp [World.frozen?, h]⟩
theorem raise_yes {w : World} {O : Paint} {c a : Nat} {e : Enc} (h : EncRaw w O c a e) (n : Nat) (hn : n < 4294967296) (hv : e.low % 4294967296 + n < 4294967296) :
    Calls Try.prog 119 #[.pointer (some ⟨a, 0, none⟩), .int .u32 (n : Int)] w fun x w' => x = .returned (.tuple #[]) ∧ Step [c] w O w' O ∧ EncRaw w' O c a ⟨e.low + n, e.size, e.turns⟩ := by
  obtain ⟨g, cap, hb, hr⟩ := h
  obtain ⟨h0, h1, h2, f0, f1, f2⟩ := three hb.1
  have HB := Lib.hid hb
  have HR := Lib.hid hr
  have HM := Lib.hid (show (e.low + n) % 4294967296 = e.low % 4294967296 + n by omega)
  have HD := Lib.hid (show (e.low + n) / 4294967296 = e.low / 4294967296 by omega)
  clear hb hr h0 f0 h2 f2
  have hlo : e.low % 4294967296 < 4294967296 := by omega
  generalize e.low % 4294967296 = lo at *
  go_enter Try.func119, Try.ntmps119
  go_wp2
  first | go_end0 | (simp only [Exit.inBlock, Exit.then]; refine bodyPost_ret (results_none rfl _ _ _) rfl ?_) | refine bodyPost_ret (results_none rfl _ _ _) rfl ?_
  refine ⟨rfl, (Step.refl [c] w O).setCell (p := ⟨a, 1, none⟩) (.inl (by simp [HB.out.2])) _, g, cap, ?_, ?_⟩
  · have := HB.out.setCell 1 (.int .u32 ((lo : Int) + (n : Int)))
    simp only [HM.out]
    simpa using this
  · simp only [HD.out]
    exact HR.out.setCell_other (p := ⟨a, 1, none⟩) (fun e1 => HR.out.ne HB.out.1 (by decide) (by simpa [Value.ownBlock] using e1)) _
/-- Within the loop that carries: j bytes are done. -/
def Raising (w : World) (O : Paint) (c a g cap t H j : Nat) (low size : Int) (wr : World) : Prop :=
  Blk wr O c a (.cells #[.slice (some ⟨g, 0, none⟩) (t + 1) cap, .int .u32 low, .int .u32 size] 103 (0, 0)) ∧
  Held wr O c 5 (.slice (some ⟨g, 0, none⟩) (t + 1) cap) ((0 :: mix t j H 1).map byte) ∧ Step [c] w O wr O
theorem Raising.set {w wr : World} {O : Paint} {c a g cap t H j q : Nat} {low size y : Int} (h : Raising w O c a g cap t H j low size wr) (hq : q + j = t) (hq1 : 1 ≤ q) (hc : carry j H 1 = 1) (hy : y = ((H / 256 ^ j % 256 + 1) % 256 : Nat)) : Raising w O c a g cap t H (j + 1) low size (wr.setCell ⟨g, q, none⟩ (.int .u8 y)) := by
  obtain ⟨h1, h2, h3⟩ := h
  refine ⟨h1.setCell_other (p := ⟨g, q, none⟩) (h2.ne h1.1 (by decide)) _, ?_, h3.setCell (p := ⟨g, q, none⟩) (.inl (by simp [h2.paint g rfl])) _⟩
  have hs := h2.set q (.int .u8 y)
  have hm := mix_set t j H 1 (by omega)
  rw [show t - 1 - j = q - 1 from by omega] at hm
  have hb : Value.int .u8 y = byte (UInt8.ofNat ((H + 1) / 256 ^ j)) := by
    unfold byte
    have hd := digit_sum j H 1
    rw [hc] at hd
    rw [hy]
    have hx : (UInt8.ofNat ((H + 1) / 256 ^ j)).toNat = (H + 1) / 256 ^ j % 256 := by simp
    rw [hx, hd, Nat.add_comm]
  rw [hb] at hs ⊢
  rw [← List.map_set] at hs
  obtain ⟨q', rfl⟩ : ∃ q', q = q' + 1 := ⟨q - 1, by omega⟩
  rw [List.set_cons_succ] at hs
  simp only [Nat.add_sub_cancel] at hm
  rw [hm] at hs
  exact hs
theorem Raising.cell {w wr : World} {O : Paint} {c a g cap t H j q : Nat} {low size : Int} (h : Raising w O c a g cap t H j low size wr) (hq : q + j = t) (hq1 : 1 ≤ q) : wr.cell? ⟨g, q, none⟩ = some (.int .u8 ((H / 256 ^ j % 256 : Nat) : Int)) := by
  refine h.2.1.cell ?_
  obtain ⟨q', rfl⟩ : ∃ q', q = q' + 1 := ⟨q - 1, by omega⟩
  have := mix_at t j H 1 (by omega)
  rw [show t - 1 - j = q' from by omega] at this
  simp [this, byte]
theorem carried (t H j : Nat) (hj : j < t) (hc : carry j H 1 = 1) (hz : H / 256 ^ j % 256 ≠ 255) : mix t (j + 1) H 1 = be t (H + 1) := by
  have h0 : carry (j + 1) H 1 = 0 := by rw [carry_succ, hc]; omega
  have hd : (H + 1) / 256 ^ (j + 1) = H / 256 ^ (j + 1) := by
    unfold carry at h0
    have hp : 0 < 256 ^ (j + 1) := Nat.pow_pos (by omega)
    have e : (H + 1) / 256 ^ (j + 1) = (H % 256 ^ (j + 1) + 1) / 256 ^ (j + 1) + H / 256 ^ (j + 1) := by
      rw [← Nat.add_mul_div_left _ _ hp]
      congr 1
      have := Nat.mod_add_div H (256 ^ (j + 1))
      omega
    rw [e, h0, Nat.zero_add]
  unfold mix
  have := be_split (t - (j + 1)) (j + 1) (H + 1)
  rw [show t - (j + 1) + (j + 1) = t from by omega, hd] at this
  exact this.symm
theorem carries (H j : Nat) (hc : carry j H 1 = 1) (hz : H / 256 ^ j % 256 = 255) : carry (j + 1) H 1 = 1 := by
  rw [carry_succ, hc, hz]
theorem carry_out (t H : Nat) (h : H + 1 < 256 ^ t) : carry t H 1 ≠ 1 := by
  unfold carry
  rw [Nat.mod_eq_of_lt (by omega), Nat.div_eq_of_lt h]; omega
set_option maxHeartbeats 400000 in
theorem raise_no {w : World} {O : Paint} {c a : Nat} {e : Enc} (h : EncRaw w O c a e) (ht : e.turns ≤ 1000000) (n : Nat) (hn : n < 4294967296) (hv : 4294967296 ≤ e.low % 4294967296 + n) (hl : e.low + n < 256 ^ (e.turns + 4)) :
    Calls Try.prog 119 #[.pointer (some ⟨a, 0, none⟩), .int .u32 (n : Int)] w fun x w' => x = .returned (.tuple #[]) ∧ Step [c] w O w' O ∧ EncRaw w' O c a ⟨e.low + n, e.size, e.turns⟩ := by
  obtain ⟨g, cap, hb, hr⟩ := h
  obtain ⟨h0, h1, h2, f0, f1, f2⟩ := three hb.1
  have HM := Lib.hid (show (((e.low + n) % 4294967296 : Nat) : Int) = ((e.low % 4294967296 : Nat) : Int) + (n : Int) - 4294967296 by omega)
  have HD := Lib.hid (show (e.low + n) / 4294967296 = e.low / 4294967296 + 1 by omega)
  have hlo : e.low % 4294967296 < 4294967296 := by omega
  have HH : Hid (e.low / 4294967296 + 1 < 256 ^ e.turns) := Lib.hid (by
    rw [← HD.out, Nat.div_lt_iff_lt_mul (by omega), show (4294967296 : Nat) = 256 ^ 4 from rfl, ← Nat.pow_add]; exact hl)
  obtain ⟨lo, s, t⟩ := e
  simp only at *
  generalize lo / 4294967296 = H at *
  have HB := Lib.hid hb
  have HR := Lib.hid hr
  have HL := Lib.hid hl
  clear hb hr h2 f2 hl
  go_enter Try.func119, Try.ntmps119
  go_wp2
  have H0 : Hid (Raising w O c a g cap t H 0 (((lo : Int) + (n : Int)) % 4294967296) (s : Int) (w.setCell ⟨a, 1, none⟩ (.int .u32 (((lo : Int) + (n : Int)) % 4294967296)))) := Lib.hid (by
    refine ⟨?_, ?_, (Step.refl [c] w O).setCell (p := ⟨a, 1, none⟩) (.inl (by simp [HB.out.2])) _⟩
    · simpa using HB.out.setCell 1 (.int .u32 (((lo : Int) + (n : Int)) % 4294967296))
    · rw [mix_zero]
      exact HR.out.setCell_other (p := ⟨a, 1, none⟩) (fun e1 => HR.out.ne HB.out.1 (by decide) (by simpa [Value.ownBlock] using e1)) _)
  have HMI := Lib.hid (show (((lo + n) % 4294967296 : Nat) : Int) = ((lo : Int) + (n : Int)) % 4294967296 by omega)
  clear h0 f0 h1 f1 hlo hv
  go_loopw [4] (fun i wr => ∃ q j : Nat, q + j = t ∧ i = .int .i64 (q : Int) ∧ carry j H 1 = 1 ∧ Raising w O c a g cap t H j (((lo : Int) + (n : Int)) % 4294967296) (s : Int) wr) (fun i _ => (intOf i).toNat)
  case atStart => exact ⟨t, 0, rfl, rfl, by rw [carry_zero], H0.out⟩
  case round =>
    clear H0
    obtain ⟨q, j, hq, rfl, hc, hra⟩ := hrel
    have hq1 : 1 ≤ q := by
      rcases Nat.lt_or_ge 0 q with h | h
      · exact h
      · obtain rfl : q = 0 := by omega
        rw [Nat.zero_add] at hq
        subst hq
        exact absurd hc (carry_out j H HH.out)
    have hcell := hra.cell hq hq1
    have hfr := hra.2.1.free q
    have hset := fun y hy => hra.set (y := y) hq hq1 hc hy
    obtain ⟨h0, h1, h2, f0, f1, f2⟩ := three hra.1.1
    have hbl : a ≠ g := fun e1 => hra.2.1.ne hra.1.1 (by decide) e1.symm
    have HSet := Lib.hid hset
    have HC := Lib.hid hc
    have HQ := Lib.hid hq
    have hqt : q ≤ t := by omega
    clear hset hc hra h1 h2 f0 f1 f2 hq
    have hx : H / 256 ^ j % 256 < 256 := by omega
    by_cases hz : H / 256 ^ j % 256 = 255
    · have HZ := Lib.hid (carries H j HC.out hz)
      have HY := Lib.hid (HSet.out 0 (by rw [hz]; rfl))
      rw [hz] at hcell
      clear hz hx HSet
      go_wp2
      go_roundw
      case rel => exact ⟨q - 1, j + 1, by have := HQ.out; omega, by go_num, HZ.out, HY.out⟩
      case measure => simp [intOf]; omega
    · have HZ := Lib.hid (carried t H j (by have := HQ.out; omega) HC.out hz)
      have HY := Lib.hid (HSet.out (((H / 256 ^ j % 256 : Nat) : Int) + 1) (by omega))
      clear HSet
      generalize H / 256 ^ j % 256 = x at *
      have hx2 : x < 255 := by omega
      clear hz
      go_wp2
      first | go_end0 | (simp only [Exit.inBlock, Exit.then]; refine bodyPost_ret (results_none rfl _ _ _) rfl ?_) | refine bodyPost_ret (results_none rfl _ _ _) rfl ?_
      obtain ⟨y1, y2, y3⟩ := HY.out
      refine ⟨rfl, y3, g, cap, ?_, ?_⟩
      · simp only [HMI.out]; exact y1
      · rw [HZ.out] at y2
        simp only [HD.out]; exact y2
theorem raise_any {w : World} {O : Paint} {c a : Nat} {e : Enc} (h : EncRaw w O c a e) (ht : e.turns ≤ 1000000) (n : Nat) (hn : n < 4294967296) (hl : e.low + n < 256 ^ (e.turns + 4)) :
    Calls Try.prog 119 #[.pointer (some ⟨a, 0, none⟩), .int .u32 (n : Int)] w fun x w' => x = .returned (.tuple #[]) ∧ Step [c] w O w' O ∧ EncRaw w' O c a ⟨e.low + n, e.size, e.turns⟩ := by
  by_cases hv : e.low % 4294967296 + n < 4294967296
  · exact raise_yes h n hn hv
  · exact raise_no h ht n hn (by omega) hl
end Go.Proofs.Ytakbocaemlgbaaa.Rc
