/-
  Plain mathematics of layer 3 (ranges): the encoder as numbers (Low, Range, turns), its steps, its bytes (Low, the highest byte first), and what always holds of it. No program is named here.
-/
namespace Go.Proofs.Ytakbocaemlgbaaa.Rc

/-- n bytes of a number, the highest first. -/
def be : Nat → Nat → List UInt8
  | 0, _ => []
  | n + 1, L => be n (L / 256) ++ [UInt8.ofNat L]
theorem be_length (n : Nat) : ∀ L, (be n L).length = n := by
  induction n with
  | zero => intro L; rfl
  | succ n ih => intro L; simp [be, ih]
theorem be_split (a b : Nat) : ∀ L, be (a + b) L = be a (L / 256 ^ b) ++ be b L := by
  induction b with
  | zero => intro L; simp [be]
  | succ b ih =>
    intro L
    show be (a + b) (L / 256) ++ [UInt8.ofNat L] = be a (L / 256 ^ (b + 1)) ++ (be b (L / 256) ++ [UInt8.ofNat L])
    rw [ih, Nat.div_div_eq_div_mul, show 256 * 256 ^ b = 256 ^ (b + 1) from by rw [Nat.pow_succ, Nat.mul_comm], List.append_assoc]
theorem be_one (L : Nat) : be 1 L = [UInt8.ofNat L] := rfl
theorem be_zero (n : Nat) : be n 0 = List.replicate n 0 := by
  induction n with
  | zero => rfl
  | succ n ih => rw [be, Nat.zero_div, ih, List.replicate_succ']; rfl
theorem be_shift (n L : Nat) : be (n + 1) (256 * L) = be n L ++ [0] := by
  rw [be, Nat.mul_div_cancel_left L (by omega)]
  congr 2
  apply UInt8.toNat_inj.1
  simp
/-- The sum of a number, half done: the last j bytes are those of the sum. -/
def mix (k j L n : Nat) : List UInt8 := be (k - j) (L / 256 ^ j) ++ be j (L + n)
/-- What is left to be added behind j bytes. -/
def carry (j L n : Nat) : Nat := (L % 256 ^ j + n) / 256 ^ j
theorem mix_zero (k L n : Nat) : mix k 0 L n = be k L := by simp [mix, be]
theorem mix_all (k L n : Nat) : mix k k L n = be k (L + n) := by simp [mix, be]
theorem mix_length (k j L n : Nat) (h : j ≤ k) : (mix k j L n).length = k := by simp [mix, be_length]; omega
theorem carry_zero (L n : Nat) : carry 0 L n = n := by simp [carry, Nat.mod_one]
theorem carry_succ (j L n : Nat) : carry (j + 1) L n = (carry j L n + L / 256 ^ j % 256) / 256 := by
  unfold carry
  have hp : 0 < 256 ^ j := Nat.pow_pos (by omega)
  rw [Nat.pow_succ, Nat.mod_mul, ← Nat.div_div_eq_div_mul]
  congr 1
  rw [show L % 256 ^ j + 256 ^ j * (L / 256 ^ j % 256) + n = (L % 256 ^ j + n) + 256 ^ j * (L / 256 ^ j % 256) from by omega, Nat.add_mul_div_left _ _ hp]
theorem digit_sum (j L n : Nat) : (L + n) / 256 ^ j % 256 = (carry j L n + L / 256 ^ j % 256) % 256 := by
  unfold carry
  have hp : 0 < 256 ^ j := Nat.pow_pos (by omega)
  have e : (L + n) / 256 ^ j = (L % 256 ^ j + n) / 256 ^ j + L / 256 ^ j := by
    rw [← Nat.add_mul_div_left _ _ hp]
    congr 1
    have := Nat.mod_add_div L (256 ^ j)
    omega
  rw [e]; omega
theorem mix_at (k j L n : Nat) (h : j < k) : (mix k j L n)[k - 1 - j]? = some (UInt8.ofNat (L / 256 ^ j)) := by
  unfold mix
  rw [show k - j = (k - 1 - j) + 1 from by omega, be_split (k - 1 - j) 1, be_one, List.append_assoc, List.getElem?_append_right (by rw [be_length]; omega), be_length]
  simp
theorem mix_set (k j L n : Nat) (h : j < k) : (mix k j L n).set (k - 1 - j) (UInt8.ofNat ((L + n) / 256 ^ j)) = mix k (j + 1) L n := by
  unfold mix
  rw [show k - j = (k - 1 - j) + 1 from by omega, be_split (k - 1 - j) 1, be_one, List.append_assoc]
  rw [show j + 1 = 1 + j from by omega, be_split 1 j (L + n), be_one, show k - (1 + j) = k - 1 - j from by omega]
  rw [List.set_append_right _ _ (by rw [be_length]; omega), be_length, Nat.sub_self]
  rw [show 256 ^ (1 + j) = 256 ^ j * 256 from by rw [Nat.add_comm, Nat.pow_succ], Nat.div_div_eq_div_mul, Nat.pow_one]
  rfl

/-- The encoder as numbers. -/
structure Enc where
  low : Nat
  size : Nat
  turns : Nat
def Enc.start : Enc := ⟨0, 4294967295, 0⟩
def turn (e : Enc) : Enc := if e.size < 16777216 then ⟨e.low * 256, e.size * 256, e.turns + 1⟩ else e
def widen (e : Enc) : Enc := turn (turn (turn e))
def Enc.bit (e : Enc) (p b : Nat) : Enc := if b = 0 then widen ⟨e.low, e.size / 2048 * p, e.turns⟩ else widen ⟨e.low + e.size / 2048 * p, e.size - e.size / 2048 * p, e.turns⟩
def Enc.direct (e : Enc) (b : Nat) : Enc := widen ⟨if b = 1 then e.low + e.size / 2 else e.low, e.size / 2, e.turns⟩
def Enc.part (e : Enc) (start size total : Nat) : Enc := widen ⟨e.low + e.size / total * start, e.size / total * size, e.turns⟩
def Enc.bytes (e : Enc) : List UInt8 := 0 :: be (e.turns + 4) e.low
def learn (p b : Nat) : Nat := if b = 0 then p + (2048 - p) / 32 else p - p / 32

/-- What holds of an encoder ahead of its widening. -/
def Raw (e : Enc) : Prop := 1 ≤ e.size ∧ e.size < 4294967296 ∧ e.low + e.size ≤ 256 ^ (e.turns + 4)
/-- What always holds of an encoder. -/
def Fine (e : Enc) : Prop := 16777216 ≤ e.size ∧ e.size < 4294967296 ∧ e.low + e.size ≤ 256 ^ (e.turns + 4)
theorem fine_start : Fine Enc.start := by simp [Fine, Enc.start]
theorem turn_raw {e : Enc} (h : Raw e) : Raw (turn e) := by
  unfold turn; split
  · obtain ⟨h1, h2, h3⟩ := h
    refine ⟨by show 1 ≤ e.size * 256; omega, by show e.size * 256 < _; omega, ?_⟩
    show e.low * 256 + e.size * 256 ≤ 256 ^ (e.turns + 1 + 4)
    rw [show e.turns + 1 + 4 = (e.turns + 4) + 1 from by omega, Nat.pow_succ, ← Nat.add_mul]
    exact Nat.mul_le_mul_right _ h3
  · exact h
theorem turn_size (e : Enc) : (turn e).size = if e.size < 16777216 then e.size * 256 else e.size := by unfold turn; split <;> rfl
theorem widen_fine {e : Enc} (h : Raw e) : Fine (widen e) := by
  have h3 := turn_raw (turn_raw (turn_raw h))
  refine ⟨?_, h3.2.1, h3.2.2⟩
  have h1 := h.1
  unfold widen
  rw [turn_size, turn_size, turn_size]
  (repeat' split) <;> omega
theorem widen_keep {e : Enc} (h : 16777216 ≤ e.size) : widen e = e := by
  have ht : turn e = e := by unfold turn; rw [if_neg (by omega)]
  unfold widen; rw [ht, ht, ht]
theorem fine_raw {e : Enc} (h : Fine e) : Raw e := ⟨by have := h.1; omega, h.2.1, h.2.2⟩
theorem bound_lt {s p : Nat} (hs : 16777216 ≤ s) (hp : p ≤ 2047) : s / 2048 * p < s := by
  have h1 : s / 2048 * p ≤ s / 2048 * 2047 := Nat.mul_le_mul_left _ hp
  have h2 : s / 2048 * 2048 ≤ s := Nat.div_mul_le_self s 2048
  have h3 : 8192 ≤ s / 2048 := by omega
  omega
theorem bound_pos {s p : Nat} (hs : 16777216 ≤ s) (hp : 1 ≤ p) : 1 ≤ s / 2048 * p := by
  have h3 : 1 ≤ s / 2048 := by omega
  exact Nat.mul_pos h3 hp
theorem bit_raw {e : Enc} (h : Fine e) {p b : Nat} (h1 : 1 ≤ p) (h2 : p ≤ 2047) : Raw (if b = 0 then ⟨e.low, e.size / 2048 * p, e.turns⟩ else ⟨e.low + e.size / 2048 * p, e.size - e.size / 2048 * p, e.turns⟩) := by
  obtain ⟨a, b', c⟩ := h
  have hl := bound_lt a h2
  have hp := bound_pos a h1
  split
  · exact ⟨hp, by show e.size / 2048 * p < _; omega, by show e.low + e.size / 2048 * p ≤ 256 ^ (e.turns + 4); omega⟩
  · exact ⟨by show 1 ≤ e.size - e.size / 2048 * p; omega, by show e.size - _ < _; omega, by show e.low + e.size / 2048 * p + (e.size - e.size / 2048 * p) ≤ 256 ^ (e.turns + 4); omega⟩
theorem bit_eq (e : Enc) (p b : Nat) : e.bit p b = widen (if b = 0 then ⟨e.low, e.size / 2048 * p, e.turns⟩ else ⟨e.low + e.size / 2048 * p, e.size - e.size / 2048 * p, e.turns⟩) := by
  unfold Enc.bit; split <;> rfl
theorem fine_bit {e : Enc} (h : Fine e) {p b : Nat} (h1 : 1 ≤ p) (h2 : p ≤ 2047) : Fine (e.bit p b) := by
  rw [bit_eq]; exact widen_fine (bit_raw h h1 h2)
theorem direct_raw {e : Enc} (h : Fine e) (b : Nat) : Raw ⟨if b = 1 then e.low + e.size / 2 else e.low, e.size / 2, e.turns⟩ := by
  obtain ⟨a, b', c⟩ := h
  refine ⟨by show 1 ≤ e.size / 2; omega, by show e.size / 2 < _; omega, ?_⟩
  show (if b = 1 then e.low + e.size / 2 else e.low) + e.size / 2 ≤ 256 ^ (e.turns + 4)
  split <;> omega
theorem fine_direct {e : Enc} (h : Fine e) (b : Nat) : Fine (e.direct b) := widen_fine (direct_raw h b)
theorem part_raw {e : Enc} (h : Fine e) {start size total : Nat} (h1 : 1 ≤ size) (h2 : start + size ≤ total) (h3 : total ≤ 65536) : Raw ⟨e.low + e.size / total * start, e.size / total * size, e.turns⟩ := by
  obtain ⟨a, b', c⟩ := h
  have hr : 1 ≤ e.size / total := by
    rw [Nat.le_div_iff_mul_le (by omega)]; omega
  have hm : e.size / total * (start + size) ≤ e.size := Nat.le_trans (Nat.mul_le_mul_left _ h2) (Nat.div_mul_le_self _ _)
  rw [Nat.mul_add] at hm
  refine ⟨Nat.mul_pos hr h1, ?_, ?_⟩
  · show e.size / total * size < _; omega
  · show e.low + e.size / total * start + e.size / total * size ≤ 256 ^ (e.turns + 4); omega
theorem fine_part {e : Enc} (h : Fine e) {start size total : Nat} (h1 : 1 ≤ size) (h2 : start + size ≤ total) (h3 : total ≤ 65536) : Fine (e.part start size total) := widen_fine (part_raw h h1 h2 h3)
/-- Probabilities stay within 31 and 2017, once they began at 1024. -/
theorem learn_in {p b : Nat} (h1 : 31 ≤ p) (h2 : p ≤ 2017) : 31 ≤ learn p b ∧ learn p b ≤ 2017 := by
  unfold learn; split <;> omega
theorem turns_turn (e : Enc) : (turn e).turns ≤ e.turns + 1 := by unfold turn; split <;> simp
theorem turns_widen (e : Enc) : (widen e).turns ≤ e.turns + 3 := by
  have h1 := turns_turn e
  have h2 := turns_turn (turn e)
  have h3 := turns_turn (turn (turn e))
  unfold widen; omega
end Go.Proofs.Ytakbocaemlgbaaa.Rc
namespace Go.Proofs.Ytakbocaemlgbaaa.Rc
theorem carry_le (j L n : Nat) : carry j L n ≤ n := by
  unfold carry
  have hp : 0 < 256 ^ j := Nat.pow_pos (by omega)
  have hx : L % 256 ^ j < 256 ^ j := Nat.mod_lt _ hp
  rw [Nat.div_le_iff_le_mul_add_pred hp]
  generalize 256 ^ j = P at *
  have : n ≤ P * n := Nat.le_mul_of_pos_left n hp
  omega
end Go.Proofs.Ytakbocaemlgbaaa.Rc
namespace Go.Proofs.Ytakbocaemlgbaaa.Rc
/-- So many turns, where they are wanted. -/
def turnN : Nat → Enc → Enc
  | 0, e => e
  | r + 1, e => turnN r (turn e)
theorem turnN_keep (r : Nat) {e : Enc} (h : 16777216 ≤ e.size) : turnN r e = e := by
  have ht : turn e = e := by unfold turn; rw [if_neg (by omega)]
  induction r with
  | zero => rfl
  | succ r ih => rw [turnN, ht, ih]
end Go.Proofs.Ytakbocaemlgbaaa.Rc
namespace Go.Proofs.Ytakbocaemlgbaaa.Rc
theorem turn_lo (lo s t : Nat) (h : s < 16777216) : turn ⟨lo, s, t⟩ = ⟨lo * 256, s * 256, t + 1⟩ := by
  unfold turn; rw [if_pos h]
end Go.Proofs.Ytakbocaemlgbaaa.Rc
namespace Go.Proofs.Ytakbocaemlgbaaa.Rc
/-- The bit of a number that is i places from the lowest one. -/
def bitAt (v i : Nat) : Nat := v / 2 ^ i % 2
theorem bitAt_le (v i : Nat) : bitAt v i ≤ 1 := by unfold bitAt; omega
/-- Direct bits of a number, the highest of n first: i of them are done. -/
def directN (v n : Nat) (e : Enc) : Nat → Enc
  | 0 => e
  | i + 1 => (directN v n e i).direct (bitAt v (n - 1 - i))
theorem fine_directN {e : Enc} (h : Fine e) (v n : Nat) : ∀ i, Fine (directN v n e i)
  | 0 => h
  | i + 1 => fine_direct (fine_directN h v n i) _
theorem direct_turns (e : Enc) (b : Nat) : (e.direct b).turns ≤ e.turns + 3 := turns_widen _
theorem directN_turns (e : Enc) (v n : Nat) : ∀ i, (directN v n e i).turns ≤ e.turns + 3 * i
  | 0 => Nat.le_refl _
  | i + 1 => by
    have h1 := directN_turns e v n i
    have h2 := direct_turns (directN v n e i) (bitAt v (n - 1 - i))
    show ((directN v n e i).direct _).turns ≤ _
    omega
theorem part_turns (e : Enc) (a b c : Nat) : (e.part a b c).turns ≤ e.turns + 3 := turns_widen _
theorem bit_turns (e : Enc) (p b : Nat) : (e.bit p b).turns ≤ e.turns + 3 := by
  rw [bit_eq]
  refine Nat.le_trans (turns_widen _) ?_
  split <;> exact Nat.le_refl _
end Go.Proofs.Ytakbocaemlgbaaa.Rc
