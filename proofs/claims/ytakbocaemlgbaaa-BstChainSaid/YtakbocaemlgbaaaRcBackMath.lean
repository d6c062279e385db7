/-
  Plain mathematics of layer 3: what was encoded is decoded again. F is the last Low, T its turns: the decoder of F's bytes follows the encoder, step by step. No program is named here.
-/
import Derived.Test.YtakbocaemlgbaaaRcDecMath
namespace Go.Proofs.Ytakbocaemlgbaaa.Rc

/-- F lies within the encoder's range, seen from T turns. -/
def Ahead (e : Enc) (F T : Nat) : Prop := e.turns ≤ T ∧ e.low * 256 ^ (T - e.turns) ≤ F ∧ F < (e.low + e.size) * 256 ^ (T - e.turns)
/-- The decoder stands where the encoder stood. -/
def Follows (d : Dec) (e : Enc) (F T : Nat) (more : List UInt8) : Prop := d.bad = false ∧ d.size = e.size ∧ d.rest = be (T - e.turns) F ++ more ∧ d.code + e.low = F / 256 ^ (T - e.turns)

theorem ahead_self {e : Enc} (h : 1 ≤ e.size) : Ahead e e.low e.turns := by
  refine ⟨Nat.le_refl _, ?_, ?_⟩
  · rw [Nat.sub_self]; simp
  · rw [Nat.sub_self]; simp; omega
theorem ahead_within {e e1 : Enc} {F T : Nat} (h : Ahead e1 F T) (ht : e1.turns = e.turns) (hl : e.low ≤ e1.low) (hh : e1.low + e1.size ≤ e.low + e.size) : Ahead e F T := by
  obtain ⟨h1, h2, h3⟩ := h
  rw [ht] at h1 h2 h3
  exact ⟨h1, Nat.le_trans (Nat.mul_le_mul_right _ hl) h2, Nat.lt_of_lt_of_le h3 (Nat.mul_le_mul_right _ hh)⟩
theorem pow_step {T t : Nat} (h : t + 1 ≤ T) : 256 ^ (T - t) = 256 * 256 ^ (T - (t + 1)) := by
  rw [show T - t = (T - (t + 1)) + 1 from by omega, Nat.pow_succ, Nat.mul_comm]
theorem ahead_turn {e : Enc} {F T : Nat} (h : Ahead (turn e) F T) : Ahead e F T := by
  unfold turn at h
  split at h
  · obtain ⟨h1, h2, h3⟩ := h
    simp only at h1 h2 h3
    refine ⟨by omega, ?_, ?_⟩
    · rw [pow_step h1, ← Nat.mul_assoc]; exact h2
    · rw [pow_step h1, ← Nat.mul_assoc, Nat.add_mul]; exact h3
  · exact h
theorem ahead_widen {e : Enc} {F T : Nat} (h : Ahead (widen e) F T) : Ahead e F T := ahead_turn (ahead_turn (ahead_turn h))
theorem code_lt {d : Dec} {e : Enc} {F T : Nat} {more : List UInt8} (hf : Follows d e F T more) (ha : Ahead e F T) : d.code < e.size := by
  have hp : 0 < 256 ^ (T - e.turns) := Nat.pow_pos (by omega)
  have h1 : F / 256 ^ (T - e.turns) < e.low + e.size := by
    rw [Nat.div_lt_iff_lt_mul hp]; exact ha.2.2
  have := hf.2.2.2
  omega
theorem follows_turn {d : Dec} {e : Enc} {F T : Nat} {more : List UInt8} (hf : Follows d e F T more) (ha : Ahead (turn e) F T) : Follows (turnD d) (turn e) F T more := by
  have hc := code_lt hf (ahead_turn ha)
  obtain ⟨rest, code, size, bad⟩ := d
  obtain ⟨f1, f2, f3, f4⟩ := hf
  simp only at f1 f2 f3 f4 hc
  by_cases hs : e.size < 16777216
  · unfold turn at ha ⊢
    rw [if_pos hs] at ha ⊢
    obtain ⟨a1, _, _⟩ := ha
    simp only at a1
    rw [turnD_lo _ (show (Dec.mk rest code size bad).size < 16777216 by show size < _; omega)]
    have hsp := be_split 1 (T - (e.turns + 1)) F
    rw [show 1 + (T - (e.turns + 1)) = T - e.turns from by omega, be_one] at hsp
    rw [hsp] at f3
    simp only [List.cons_append, List.nil_append] at f3
    have hb : (Dec.mk rest code size bad).byte = F / 256 ^ (T - (e.turns + 1)) % 256 := by rw [f3]; simp [Dec.byte]
    have hn : (Dec.mk rest code size bad).next = ⟨be (T - (e.turns + 1)) F ++ more, code, size, bad⟩ := by rw [f3]; simp [Dec.next]
    rw [hb, hn]
    have hd : F / 256 ^ (T - e.turns) = F / 256 ^ (T - (e.turns + 1)) / 256 := by rw [pow_step a1, Nat.mul_comm, Nat.div_div_eq_div_mul]
    rw [hd] at f4
    refine ⟨f1, by show size * 256 = e.size * 256; rw [f2], rfl, ?_⟩
    show (256 * code + F / 256 ^ (T - (e.turns + 1)) % 256) % 4294967296 + e.low * 256 = F / 256 ^ (T - (e.turns + 1))
    generalize F / 256 ^ (T - (e.turns + 1)) = X at *
    rw [Nat.mod_eq_of_lt (by omega)]
    omega
  · have ht : turn e = e := by unfold turn; rw [if_neg hs]
    have htd : turnD ⟨rest, code, size, bad⟩ = ⟨rest, code, size, bad⟩ := by unfold turnD; rw [if_neg (by show ¬ size < _; omega)]
    rw [ht, htd]
    exact ⟨f1, f2, f3, f4⟩
theorem follows_widen {d : Dec} {e : Enc} {F T : Nat} {more : List UInt8} (hf : Follows d e F T more) (ha : Ahead (widen e) F T) : Follows (wide d) (widen e) F T more :=
  follows_turn (follows_turn (follows_turn hf (ahead_turn (ahead_turn ha))) (ahead_turn ha)) ha

theorem ahead_bit {e : Enc} {F T p b : Nat} (hf : Fine e) (hp : p ≤ 2047) (h : Ahead (e.bit p b) F T) : Ahead e F T := by
  have hl := bound_lt hf.1 hp
  rw [bit_eq] at h
  have h1 := ahead_widen h
  split at h1
  · exact ahead_within h1 rfl (Nat.le_refl _) (by show e.low + e.size / 2048 * p ≤ _; omega)
  · exact ahead_within h1 rfl (by show e.low ≤ e.low + _; omega) (by show e.low + e.size / 2048 * p + (e.size - e.size / 2048 * p) ≤ _; omega)
theorem follows_bit {d : Dec} {e : Enc} {F T p b : Nat} {more : List UInt8} (hfi : Fine e) (hp : p ≤ 2047) (hb : b ≤ 1) (hf : Follows d e F T more) (h : Ahead (e.bit p b) F T) :
    d.bitOf p = b ∧ Follows (d.getBit p) (e.bit p b) F T more := by
  have hl := bound_lt hfi.1 hp
  have h0 := h
  rw [bit_eq] at h0
  have h1 := ahead_widen h0
  obtain ⟨f1, f2, f3, f4⟩ := hf
  have hpw : 0 < 256 ^ (T - e.turns) := Nat.pow_pos (by omega)
  by_cases hb0 : b = 0
  · subst hb0
    rw [if_pos rfl] at h0 h1
    have hx : F / 256 ^ (T - e.turns) < e.low + e.size / 2048 * p := by rw [Nat.div_lt_iff_lt_mul hpw]; exact h1.2.2
    have hc : d.code < d.size / 2048 * p := by rw [f2]; omega
    refine ⟨by unfold Dec.bitOf; rw [if_pos hc], ?_⟩
    unfold Dec.getBit
    rw [if_pos hc, bit_eq, if_pos rfl]
    refine follows_widen ⟨f1, by show d.size / 2048 * p = e.size / 2048 * p; rw [f2], f3, f4⟩ h0
  · obtain rfl : b = 1 := by omega
    rw [if_neg (by omega)] at h0 h1
    have hx : e.low + e.size / 2048 * p ≤ F / 256 ^ (T - e.turns) := by rw [Nat.le_div_iff_mul_le hpw]; exact h1.2.1
    have hc : ¬ d.code < d.size / 2048 * p := by rw [f2]; omega
    refine ⟨by unfold Dec.bitOf; rw [if_neg hc], ?_⟩
    unfold Dec.getBit
    rw [if_neg hc, bit_eq, if_neg (by omega)]
    refine follows_widen ⟨f1, by show d.size - d.size / 2048 * p = e.size - e.size / 2048 * p; rw [f2], f3, ?_⟩ h0
    show d.code - d.size / 2048 * p + (e.low + e.size / 2048 * p) = F / 256 ^ (T - e.turns)
    rw [f2] at hc ⊢; omega
theorem ahead_direct {e : Enc} {F T b : Nat} (h : Ahead (e.direct b) F T) : Ahead e F T := by
  have h1 := ahead_widen h
  refine ahead_within h1 rfl ?_ ?_
  · show e.low ≤ if b = 1 then e.low + e.size / 2 else e.low
    split <;> omega
  · show (if b = 1 then e.low + e.size / 2 else e.low) + e.size / 2 ≤ e.low + e.size
    split <;> omega
theorem follows_direct {d : Dec} {e : Enc} {F T b : Nat} {more : List UInt8} (hb : b ≤ 1) (hf : Follows d e F T more) (h : Ahead (e.direct b) F T) :
    d.directOf = b ∧ Follows d.getDirect (e.direct b) F T more := by
  have h1 := ahead_widen h
  obtain ⟨f1, f2, f3, f4⟩ := hf
  have hpw : 0 < 256 ^ (T - e.turns) := Nat.pow_pos (by omega)
  by_cases hb0 : b = 0
  · subst hb0
    have hx : F / 256 ^ (T - e.turns) < e.low + e.size / 2 := by rw [Nat.div_lt_iff_lt_mul hpw]; exact h1.2.2
    have hc : d.code < d.size / 2 := by rw [f2]; omega
    refine ⟨by unfold Dec.directOf; rw [if_pos hc], ?_⟩
    unfold Dec.getDirect
    rw [if_pos hc]
    exact follows_widen ⟨f1, by show d.size / 2 = e.size / 2; rw [f2], f3, f4⟩ h
  · obtain rfl : b = 1 := by omega
    have hx : e.low + e.size / 2 ≤ F / 256 ^ (T - e.turns) := by rw [Nat.le_div_iff_mul_le hpw]; exact h1.2.1
    have hc : ¬ d.code < d.size / 2 := by rw [f2]; omega
    refine ⟨by unfold Dec.directOf; rw [if_neg hc], ?_⟩
    unfold Dec.getDirect
    rw [if_neg hc]
    refine follows_widen ⟨f1, by show d.size / 2 = e.size / 2; rw [f2], f3, ?_⟩ h
    show d.code - d.size / 2 + (e.low + e.size / 2) = F / 256 ^ (T - e.turns)
    rw [f2] at hc ⊢; omega
theorem ahead_part {e : Enc} {F T a b c : Nat} (h2 : a + b ≤ c) (h : Ahead (e.part a b c) F T) : Ahead e F T := by
  have h1 := ahead_widen h
  have hm : e.size / c * (a + b) ≤ e.size := Nat.le_trans (Nat.mul_le_mul_left _ h2) (Nat.div_mul_le_self _ _)
  rw [Nat.mul_add] at hm
  exact ahead_within h1 rfl (by show e.low ≤ e.low + _; omega) (by show e.low + e.size / c * a + e.size / c * b ≤ e.low + e.size; omega)
theorem follows_part {d : Dec} {e : Enc} {F T a b c : Nat} {more : List UInt8} (hfi : Fine e) (h1 : 1 ≤ b) (h2 : a + b ≤ c) (h3 : c ≤ 65536) (hf : Follows d e F T more) (h : Ahead (e.part a b c) F T) :
    a ≤ d.whereIn c ∧ d.whereIn c < a + b ∧ Follows (d.take a b c) (e.part a b c) F T more := by
  have ha := ahead_widen h
  obtain ⟨f1, f2, f3, f4⟩ := hf
  have hpw : 0 < 256 ^ (T - e.turns) := Nat.pow_pos (by omega)
  have hr : 1 ≤ e.size / c := by rw [Nat.le_div_iff_mul_le (by omega)]; have := hfi.1; omega
  have hm : e.size / c * (a + b) ≤ e.size := Nat.le_trans (Nat.mul_le_mul_left _ h2) (Nat.div_mul_le_self _ _)
  have hlo : e.low + e.size / c * a ≤ F / 256 ^ (T - e.turns) := by rw [Nat.le_div_iff_mul_le hpw]; exact ha.2.1
  have hhi : F / 256 ^ (T - e.turns) < e.low + e.size / c * a + e.size / c * b := by rw [Nat.div_lt_iff_lt_mul hpw]; exact ha.2.2
  have c1 : e.size / c * a ≤ d.code := by omega
  have c2 : d.code < e.size / c * (a + b) := by rw [Nat.mul_add]; omega
  have q1 : a ≤ d.code / (e.size / c) := by rw [Nat.le_div_iff_mul_le (by omega), Nat.mul_comm]; exact c1
  have q2 : d.code / (e.size / c) < a + b := by rw [Nat.div_lt_iff_lt_mul (by omega), Nat.mul_comm]; exact c2
  have hw : d.whereIn c = d.code / (e.size / c) := by
    unfold Dec.whereIn
    rw [f2, Nat.min_eq_left (by omega)]
  refine ⟨by rw [hw]; exact q1, by rw [hw]; exact q2, ?_⟩
  have hsz := hfi.2.1
  have hcm : (d.code + 4294967296 - e.size / c * a % 4294967296) % 4294967296 = d.code - e.size / c * a := by
    have l1 : e.size / c * a < 4294967296 := by omega
    rw [Nat.mod_eq_of_lt l1, show d.code + 4294967296 - e.size / c * a = (d.code - e.size / c * a) + 4294967296 from by omega, Nat.add_mod_right, Nat.mod_eq_of_lt (by omega)]
  unfold Dec.take
  rw [f2, hcm]
  refine follows_widen ⟨f1, rfl, f3, ?_⟩ h
  show d.code - e.size / c * a + (e.low + e.size / c * a) = F / 256 ^ (T - e.turns)
  omega
/-- The decoder of F's bytes begins where the encoder began. -/
theorem follows_start {F T : Nat} {more : List UInt8} (h : Ahead Enc.start F T) : Follows (Dec.read (0 :: be (T + 4) F ++ more)) Enc.start F T more := by
  have h4 : be (T + 4) F = be 4 (F / 256 ^ T) ++ be T F := by rw [Nat.add_comm]; exact be_split 4 T F
  have hX : F / 256 ^ T < 4294967296 := by
    have := h.2.2
    simp [Enc.start] at this
    rw [Nat.div_lt_iff_lt_mul (Nat.pow_pos (by omega))]
    have : 4294967295 * 256 ^ T ≤ 4294967296 * 256 ^ T := Nat.mul_le_mul_right _ (by omega)
    omega
  rw [h4]
  generalize hFX : F / 256 ^ T = X at *
  have hb : be 4 X = [UInt8.ofNat (X / 256 / 256 / 256), UInt8.ofNat (X / 256 / 256), UInt8.ofNat (X / 256), UInt8.ofNat X] := rfl
  rw [hb]
  refine ⟨rfl, rfl, ?_, ?_⟩
  · show be T F ++ more = be (T - 0) F ++ more
    rw [Nat.sub_zero]
  · show 256 * (256 * (256 * (256 * 0 + (UInt8.ofNat (X / 256 / 256 / 256)).toNat) + (UInt8.ofNat (X / 256 / 256)).toNat) + (UInt8.ofNat (X / 256)).toNat) + (UInt8.ofNat X).toNat + 0 = F / 256 ^ (T - 0)
    rw [Nat.sub_zero, hFX]
    simp
    omega
/-- Behind the last step nothing is left. -/
theorem follows_end {d : Dec} {e : Enc} {more : List UInt8} (hf : Follows d e e.low e.turns more) : d.rest = more ∧ d.code = 0 ∧ d.bad = false := by
  obtain ⟨f1, _, f3, f4⟩ := hf
  rw [Nat.sub_self] at f3 f4
  refine ⟨by simpa [be] using f3, ?_, f1⟩
  simp at f4; omega
end Go.Proofs.Ytakbocaemlgbaaa.Rc
