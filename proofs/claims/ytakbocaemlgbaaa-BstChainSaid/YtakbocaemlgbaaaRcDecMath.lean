/-
  Plain mathematics of layer 3: the decoder as numbers, its steps, and what always holds of it. No program is named here.
-/
import Derived.Test.YtakbocaemlgbaaaRcMath
namespace Go.Proofs.Ytakbocaemlgbaaa.Rc
structure Dec where
  rest : List UInt8
  code : Nat
  size : Nat
  bad : Bool
/-- The next byte, 0 where there is none. -/
def Dec.byte (d : Dec) : Nat := match d.rest with
  | [] => 0
  | b :: _ => b.toNat
/-- Behind the next byte. -/
def Dec.next (d : Dec) : Dec := match d.rest with
  | [] => { d with bad := true }
  | _ :: r => { d with rest := r }
def turnD (d : Dec) : Dec := if d.size < 16777216 then { d.next with size := d.size * 256, code := (256 * d.code + d.byte) % 4294967296 } else d
def wide (d : Dec) : Dec := turnD (turnD (turnD d))
def Dec.bitOf (d : Dec) (p : Nat) : Nat := if d.code < d.size / 2048 * p then 0 else 1
def Dec.getBit (d : Dec) (p : Nat) : Dec := if d.code < d.size / 2048 * p then wide { d with size := d.size / 2048 * p } else wide { d with code := d.code - d.size / 2048 * p, size := d.size - d.size / 2048 * p }
def Dec.directOf (d : Dec) : Nat := if d.code < d.size / 2 then 0 else 1
def Dec.getDirect (d : Dec) : Dec := if d.code < d.size / 2 then wide { d with size := d.size / 2 } else wide { d with code := d.code - d.size / 2, size := d.size / 2 }
def Dec.whereIn (d : Dec) (total : Nat) : Nat := min (d.code / (d.size / total)) (total - 1)
def Dec.take (d : Dec) (start size total : Nat) : Dec := wide { d with code := (d.code + 4294967296 - d.size / total * start % 4294967296) % 4294967296, size := d.size / total * size }
def RawD (d : Dec) : Prop := 1 ≤ d.size ∧ d.size < 4294967296 ∧ d.code < 4294967296
def FineD (d : Dec) : Prop := 16777216 ≤ d.size ∧ d.size < 4294967296 ∧ d.code < 4294967296
theorem next_size (d : Dec) : d.next.size = d.size := by unfold Dec.next; split <;> rfl
theorem next_code (d : Dec) : d.next.code = d.code := by unfold Dec.next; split <;> rfl
theorem next_len (d : Dec) : d.next.rest.length ≤ d.rest.length := by
  unfold Dec.next; split
  · exact Nat.le_refl _
  · rename_i r h; rw [h]; simp
theorem turnD_size (d : Dec) : (turnD d).size = if d.size < 16777216 then d.size * 256 else d.size := by unfold turnD; split <;> rfl
theorem turnD_raw {d : Dec} (h : RawD d) : RawD (turnD d) := by
  obtain ⟨h1, h2, h3⟩ := h
  unfold turnD; split
  · exact ⟨by show 1 ≤ d.size * 256; omega, by show d.size * 256 < 4294967296; omega, Nat.mod_lt _ (by omega)⟩
  · exact ⟨h1, h2, h3⟩
theorem wide_fine {d : Dec} (h : RawD d) : FineD (wide d) := by
  have h3 := turnD_raw (turnD_raw (turnD_raw h))
  refine ⟨?_, h3.2.1, h3.2.2⟩
  have h1 := h.1
  unfold wide
  rw [turnD_size, turnD_size, turnD_size]
  (repeat' split) <;> omega
def turnDN : Nat → Dec → Dec
  | 0, e => e
  | r + 1, e => turnDN r (turnD e)
theorem turnDN_keep (r : Nat) {e : Dec} (h : 16777216 ≤ e.size) : turnDN r e = e := by
  have ht : turnD e = e := by unfold turnD; rw [if_neg (by omega)]
  induction r with
  | zero => rfl
  | succ r ih => rw [turnDN, ht, ih]
theorem turnD_lo (d : Dec) (h : d.size < 16777216) : turnD d = { d.next with size := d.size * 256, code := (256 * d.code + d.byte) % 4294967296 } := by
  unfold turnD; rw [if_pos h]
theorem getBit_raw {d : Dec} (h : FineD d) {p : Nat} (h1 : 1 ≤ p) (h2 : p ≤ 2047) : RawD (if d.code < d.size / 2048 * p then { d with size := d.size / 2048 * p } else { d with code := d.code - d.size / 2048 * p, size := d.size - d.size / 2048 * p }) := by
  obtain ⟨a, b, c⟩ := h
  have hl := bound_lt a h2
  have hp := bound_pos a h1
  split
  · exact ⟨hp, by show d.size / 2048 * p < 4294967296; omega, c⟩
  · exact ⟨by show 1 ≤ d.size - d.size / 2048 * p; omega, by show d.size - d.size / 2048 * p < 4294967296; omega, by show d.code - _ < 4294967296; omega⟩
theorem fine_getBit {d : Dec} (h : FineD d) {p : Nat} (h1 : 1 ≤ p) (h2 : p ≤ 2047) : FineD (d.getBit p) := by
  have hr := getBit_raw h h1 h2
  unfold Dec.getBit
  split
  · rename_i hc; rw [if_pos hc] at hr; exact wide_fine hr
  · rename_i hc; rw [if_neg hc] at hr; exact wide_fine hr
theorem getDirect_raw {d : Dec} (h : FineD d) : RawD (if d.code < d.size / 2 then { d with size := d.size / 2 } else { d with code := d.code - d.size / 2, size := d.size / 2 }) := by
  obtain ⟨a, b, c⟩ := h
  split
  · exact ⟨by show 1 ≤ d.size / 2; omega, by show d.size / 2 < 4294967296; omega, c⟩
  · exact ⟨by show 1 ≤ d.size / 2; omega, by show d.size / 2 < 4294967296; omega, by show d.code - _ < 4294967296; omega⟩
theorem fine_getDirect {d : Dec} (h : FineD d) : FineD d.getDirect := by
  have hr := getDirect_raw h
  unfold Dec.getDirect
  split
  · rename_i hc; rw [if_pos hc] at hr; exact wide_fine hr
  · rename_i hc; rw [if_neg hc] at hr; exact wide_fine hr
theorem take_raw {d : Dec} (h : FineD d) {start size total : Nat} (h1 : 1 ≤ size) (h2 : start + size ≤ total) (h3 : total ≤ 65536) : RawD { d with code := (d.code + 4294967296 - d.size / total * start % 4294967296) % 4294967296, size := d.size / total * size } := by
  obtain ⟨a, b', c⟩ := h
  have hr : 1 ≤ d.size / total := by
    rw [Nat.le_div_iff_mul_le (by omega)]; omega
  have hm : d.size / total * (start + size) ≤ d.size := Nat.le_trans (Nat.mul_le_mul_left _ h2) (Nat.div_mul_le_self _ _)
  rw [Nat.mul_add] at hm
  exact ⟨Nat.mul_pos hr h1, by show d.size / total * size < 4294967296; omega, Nat.mod_lt _ (by omega)⟩
theorem fine_take {d : Dec} (h : FineD d) {start size total : Nat} (h1 : 1 ≤ size) (h2 : start + size ≤ total) (h3 : total ≤ 65536) : FineD (d.take start size total) := wide_fine (take_raw h h1 h2 h3)
def stepD (d : Dec) : Dec := { d.next with code := 256 * d.code + d.byte }
/-- A decoder of bytes. -/
def readN : Nat → Dec → Dec
  | 0, d => d
  | n + 1, d => stepD (readN n d)
def Dec.fresh (s : List UInt8) : Dec := ⟨s, 0, 4294967295, false⟩
def Dec.read (s : List UInt8) : Dec := if (Dec.fresh s).byte = 0 then readN 4 (Dec.fresh s).next else { readN 4 (Dec.fresh s).next with bad := true }
theorem byte_lt (d : Dec) : d.byte < 256 := by
  unfold Dec.byte; split
  · omega
  · rename_i b _ _; exact b.toNat_lt
theorem readN_len (n : Nat) (d : Dec) : (readN n d).rest.length ≤ d.rest.length := by
  induction n with
  | zero => exact Nat.le_refl _
  | succ n ih => exact Nat.le_trans (next_len _) ih
theorem readN_size (n : Nat) (d : Dec) : (readN n d).size = d.size := by
  induction n with
  | zero => rfl
  | succ n ih => rw [readN]; show (readN n d).next.size = _; rw [next_size, ih]
theorem readN_code (n : Nat) (d : Dec) (h : d.code = 0) : (readN n d).code < 256 ^ n := by
  induction n with
  | zero => show d.code < 1; omega
  | succ n ih =>
    show 256 * (readN n d).code + (readN n d).byte < 256 ^ (n + 1)
    have := byte_lt (readN n d)
    rw [Nat.pow_succ]; omega
theorem fine_read (s : List UInt8) : FineD (Dec.read s) := by
  have hc := readN_code 4 (Dec.fresh s).next (by rw [next_code]; rfl)
  have hz := readN_size 4 (Dec.fresh s).next
  rw [next_size] at hz
  have hz' : (readN 4 (Dec.fresh s).next).size = 4294967295 := hz
  unfold Dec.read
  split
  · exact ⟨by rw [hz']; omega, by rw [hz']; omega, by omega⟩
  · exact ⟨by show 16777216 ≤ (readN 4 (Dec.fresh s).next).size; rw [hz']; omega, by show (readN 4 (Dec.fresh s).next).size < _; rw [hz']; omega, by show (readN 4 (Dec.fresh s).next).code < _; omega⟩
/-- Direct bits, i of them: the decoder behind them, and their number. -/
def gotN (d : Dec) : Nat → Dec × Nat
  | 0 => (d, 0)
  | i + 1 => ((gotN d i).1.getDirect, 2 * (gotN d i).2 + (gotN d i).1.directOf)
theorem directOf_le (d : Dec) : d.directOf ≤ 1 := by unfold Dec.directOf; split <;> omega
theorem bitOf_le (d : Dec) (p : Nat) : d.bitOf p ≤ 1 := by unfold Dec.bitOf; split <;> omega
theorem fine_gotN {d : Dec} (h : FineD d) : ∀ i, FineD (gotN d i).1
  | 0 => h
  | i + 1 => fine_getDirect (fine_gotN h i)
theorem gotN_lt (d : Dec) : ∀ i, (gotN d i).2 < 2 ^ i
  | 0 => Nat.one_pos
  | i + 1 => by
    have h1 := gotN_lt d i
    have h2 := directOf_le (gotN d i).1
    show 2 * (gotN d i).2 + (gotN d i).1.directOf < 2 ^ (i + 1)
    rw [Nat.pow_succ]; omega
end Go.Proofs.Ytakbocaemlgbaaa.Rc
