/-
  Layer 23, mathematics: the primes, their roots, and the constants of the rounds, as the document reckons them.
-/
import Derived.WalkKit
set_option linter.unusedVariables false
set_option maxHeartbeats 4000000
namespace Go.Proofs.YtoabeohfbikpcaaDoor.Sh
/-- Is a number whole: from a divisor on. -/
def wl (n : Nat) : Nat → Nat → Bool → Bool
  | 0, _, b => b
  | f + 1, d, b => if d * d ≤ n then wl n f (d + 1) (if n % d = 0 then false else b) else b
theorem wl_done {n d : Nat} (h : ¬ d * d ≤ n) (f : Nat) (b : Bool) : wl n f d b = b := by
  cases f with
  | zero => rfl
  | succ f => rw [wl, if_neg h]
theorem wl_step {n d : Nat} (h : d * d ≤ n) (f : Nat) (b : Bool) : wl n (f + 1) d b = wl n f (d + 1) (if n % d = 0 then false else b) := by rw [wl, if_pos h]
def isP (n : Nat) : Bool := wl n n 2 true
/-- The next prime, from a number on. -/
def nx : Nat → Nat → Option Nat
  | 0, _ => none
  | f + 1, n => if isP n = true then some n else nx f (n + 1)
theorem nx_le : ∀ {f n p : Nat}, nx f n = some p → n ≤ p
  | 0, _, _, h => by cases h
  | f + 1, n, p, h => by
    rw [nx] at h
    split at h
    · cases h; omega
    · have := nx_le h; omega
theorem nx_no {f n p : Nat} (h : nx f n = some p) (hp : isP n = false) : ∃ g, nx g (n + 1) = some p := by
  cases f with
  | zero => cases h
  | succ f => rw [nx, if_neg (by simp [hp])] at h; exact ⟨f, h⟩
theorem nx_yes {f n p : Nat} (h : nx f n = some p) (hp : isP n = true) : p = n := by
  cases f with
  | zero => cases h
  | succ f => rw [nx, if_pos hp] at h; cases h; rfl
/-- The primes, from 1 on: the one ahead of the first is 1. -/
def prs : Nat → Nat
  | 0 => 1
  | k + 1 => (nx 50 (prs k + 1)).getD 0
theorem prs_all : ((List.range 64).all fun k => nx 50 (prs k + 1) == some (prs (k + 1)) && decide (prs (k + 1) ≤ 311)) = true := by decide +kernel
theorem prs_next {k : Nat} (h : k < 64) : nx 50 (prs k + 1) = some (prs (k + 1)) ∧ prs (k + 1) ≤ 311 := by
  have := List.all_eq_true.1 prs_all k (List.mem_range.2 h)
  simp only [Bool.and_eq_true, beq_iff_eq, decide_eq_true_eq] at this
  exact this
/-- Words of 64 bits. -/
def w64 (n : Nat) : Nat := n % 18446744073709551616
def add (l : List Nat) (i v : Nat) : List Nat := l.set i (w64 (l.getD i 0 + v))
/-- One digit's products. -/
def mul1 (d0 d1 : Nat) (out l : List Nat) (i : Nat) : List Nat := add (add l i (w64 (out.getD i 0 * d0))) (i + 1) (w64 (out.getD i 0 * d1))
def mulN (d0 d1 : Nat) (out : List Nat) : Nat → List Nat
  | 0 => [0, 0, 0, 0, 0, 0, 0, 0]
  | i + 1 => mul1 d0 d1 out (mulN d0 d1 out i) i
/-- One digit's carry. -/
def car1 (l : List Nat) (i : Nat) : List Nat := (add l (i + 1) (l.getD i 0 / 262144)).set i ((add l (i + 1) (l.getD i 0 / 262144)).getD i 0 % 262144)
def carN (l : List Nat) : Nat → List Nat
  | 0 => l
  | i + 1 => car1 (carN l i) i
def mul (d0 d1 : Nat) (out : List Nat) : List Nat := carN (mulN d0 d1 out 6) 7
/-- The power, as digits of 18 bits. -/
def pows (x : Nat) : Nat → List Nat
  | 0 => [x % 262144, x / 262144, 0, 0, 0, 0, 0, 0]
  | f + 1 => mul (x % 262144) (x / 262144) (pows x f)
/-- Digits of a number, from a place on: the list, and what is left of the number. -/
def digN (v a : Nat) : Nat → List Nat × Nat
  | 0 => ([0, 0, 0, 0, 0, 0, 0, 0], v)
  | i + 1 => ((digN v a i).1.set (a + i) ((digN v a i).2 % 262144), (digN v a i).2 / 262144)
def goalOf (p f : Nat) : List Nat := (digN (w64 (p * 2 ^ (32 * f % 18))) (32 * f / 18) (8 - 32 * f / 18)).1
/-- Compared from the highest digit on: i digits are left. -/
def cmp (a b : List Nat) : Nat → Bool
  | 0 => true
  | i + 1 => if a.getD i 0 = b.getD i 0 then cmp a b i else decide (a.getD i 0 < b.getD i 0)
def most (x p f : Nat) : Bool := cmp (pows x (f - 1)) (goalOf p f) 8
/-- The root, bit by bit: i bits are left. -/
def rootN (p f : Nat) : Nat → Nat
  | 0 => 0
  | k + 1 => if most (rootN p f k + 2 ^ (35 - k)) p f = true then rootN p f k + 2 ^ (35 - k) else rootN p f k
def md (x : Nat) : Nat := x % 4294967296
def root (p f : Nat) : Nat := md (rootN p f 36)
/-- The value of digits of 18 bits: the lowest i of them. -/
def val (l : List Nat) : Nat → Nat
  | 0 => 0
  | i + 1 => val l i + l.getD i 0 * 262144 ^ i
theorem val_lt {l : List Nat} : ∀ {i : Nat}, (∀ j, j < i → l.getD j 0 < 262144) → val l i < 262144 ^ i
  | 0, _ => by simp [val]
  | i + 1, h => by
    have h1 := val_lt (l := l) (i := i) (fun j hj => h j (by omega))
    have h2 := h i (by omega)
    have h3 : (l.getD i 0 + 1) * 262144 ^ i ≤ 262144 * 262144 ^ i := Nat.mul_le_mul_right _ (by omega)
    rw [val, Nat.pow_succ, Nat.mul_comm (262144 ^ i)]
    rw [Nat.add_mul, Nat.one_mul] at h3
    omega
theorem cmp_val {a b : List Nat} : ∀ {i : Nat}, (∀ j, j < i → a.getD j 0 < 262144) → (∀ j, j < i → b.getD j 0 < 262144) → cmp a b i = decide (val a i ≤ val b i)
  | 0, _, _ => by simp [cmp, val]
  | i + 1, ha, hb => by
    have h1 := cmp_val (a := a) (b := b) (i := i) (fun j hj => ha j (by omega)) (fun j hj => hb j (by omega))
    have ha1 := val_lt (l := a) (i := i) (fun j hj => ha j (by omega))
    have hb1 := val_lt (l := b) (i := i) (fun j hj => hb j (by omega))
    rw [cmp, val, val]
    generalize 262144 ^ i = M at *
    by_cases he : a.getD i 0 = b.getD i 0
    · rw [if_pos he, h1, he]
      congr 1
      apply propext
      omega
    · rw [if_neg he]
      congr 1
      apply propext
      generalize a.getD i 0 = x at *
      generalize b.getD i 0 = y at *
      rcases Nat.lt_or_gt_of_ne he with h | h
      · have : (x + 1) * M ≤ y * M := Nat.mul_le_mul_right _ (by omega)
        rw [Nat.add_mul, Nat.one_mul] at this
        constructor <;> intro <;> omega
      · have : (y + 1) * M ≤ x * M := Nat.mul_le_mul_right _ (by omega)
        rw [Nat.add_mul, Nat.one_mul] at this
        constructor <;> intro <;> omega
theorem val_cons (x : Nat) (l : List Nat) : ∀ i, val (x :: l) (i + 1) = x + 262144 * val l i
  | 0 => by simp [val]
  | i + 1 => by
    have h := val_cons x l i
    rw [val, h, val, List.getD_cons_succ, Nat.mul_add, Nat.pow_succ]
    rw [Nat.mul_left_comm 262144, Nat.mul_comm (262144 ^ i) 262144]
    omega
theorem horner (o V a b : Nat) : (o + 262144 * V) * (a + b * 262144) = o * a + 262144 * (o * b + V * (a + b * 262144)) := by
  rw [Nat.add_mul, Nat.mul_add o, Nat.mul_add 262144, Nat.mul_assoc 262144, ← Nat.mul_assoc o, Nat.mul_comm (o * b)]
  omega
theorem w64_is {x : Nat} (h : x ≤ 1000000000000000) : w64 x = x := Nat.mod_eq_of_lt (by omega)
theorem mulN_is {a b o0 o1 o2 o3 o4 o5 : Nat} (a0 : o0 * a ≤ 68718952449) (a1 : o1 * a ≤ 68718952449) (a2 : o2 * a ≤ 68718952449) (a3 : o3 * a ≤ 68718952449) (a4 : o4 * a ≤ 68718952449) (a5 : o5 * a ≤ 68718952449)
    (b0 : o0 * b ≤ 68718952449) (b1 : o1 * b ≤ 68718952449) (b2 : o2 * b ≤ 68718952449) (b3 : o3 * b ≤ 68718952449) (b4 : o4 * b ≤ 68718952449) (b5 : o5 * b ≤ 68718952449) :
    mulN a b [o0, o1, o2, o3, o4, o5, 0, 0] 6 = [o0 * a, o0 * b + o1 * a, o1 * b + o2 * a, o2 * b + o3 * a, o3 * b + o4 * a, o4 * b + o5 * a, o5 * b, 0] := by
  have hw : ∀ x, x ≤ 68718952449 → w64 x = x := fun x hx => w64_is (by omega)
  have hs : ∀ x y, x ≤ 68718952449 → y ≤ 68718952449 → w64 (x + y) = x + y := fun x y hx hy => w64_is (by omega)
  simp [mulN, mul1, add, hw, hs, a0, a1, a2, a3, a4, a5, b0, b1, b2, b3, b4, b5]
/-- The digits' carries. -/
theorem car_is {c0 c1 c2 c3 c4 c5 c6 : Nat} (h0 : c0 ≤ 140000000000) (h1 : c1 ≤ 140000000000) (h2 : c2 ≤ 140000000000) (h3 : c3 ≤ 140000000000) (h4 : c4 ≤ 140000000000) (h5 : c5 ≤ 140000000000) (h6 : c6 ≤ 140000000000) :
    ∃ d0 d1 d2 d3 d4 d5 d6 d7, carN [c0, c1, c2, c3, c4, c5, c6, 0] 7 = [d0, d1, d2, d3, d4, d5, d6, d7] ∧ d0 < 262144 ∧ d1 < 262144 ∧ d2 < 262144 ∧ d3 < 262144 ∧ d4 < 262144 ∧ d5 < 262144 ∧ d6 < 262144 ∧ d7 ≤ 534080 ∧
      d0 + 262144 * (d1 + 262144 * (d2 + 262144 * (d3 + 262144 * (d4 + 262144 * (d5 + 262144 * (d6 + 262144 * d7)))))) = c0 + 262144 * (c1 + 262144 * (c2 + 262144 * (c3 + 262144 * (c4 + 262144 * (c5 + 262144 * c6))))) := by
  have hs : ∀ x y : Nat, x ≤ 140000000000 → y ≤ 150000000000 → w64 (x + y / 262144) = x + y / 262144 := fun x y hx hy => w64_is (by omega)
  obtain ⟨k1, e1⟩ : ∃ k, k = c1 + c0 / 262144 := ⟨_, rfl⟩
  obtain ⟨k2, e2⟩ : ∃ k, k = c2 + k1 / 262144 := ⟨_, rfl⟩
  obtain ⟨k3, e3⟩ : ∃ k, k = c3 + k2 / 262144 := ⟨_, rfl⟩
  obtain ⟨k4, e4⟩ : ∃ k, k = c4 + k3 / 262144 := ⟨_, rfl⟩
  obtain ⟨k5, e5⟩ : ∃ k, k = c5 + k4 / 262144 := ⟨_, rfl⟩
  obtain ⟨k6, e6⟩ : ∃ k, k = c6 + k5 / 262144 := ⟨_, rfl⟩
  have q1 : w64 (c1 + c0 / 262144) = k1 := by rw [hs _ _ h1 (by omega), e1]
  have q2 : w64 (c2 + k1 / 262144) = k2 := by rw [hs _ _ h2 (by omega), e2]
  have q3 : w64 (c3 + k2 / 262144) = k3 := by rw [hs _ _ h3 (by omega), e3]
  have q4 : w64 (c4 + k3 / 262144) = k4 := by rw [hs _ _ h4 (by omega), e4]
  have q5 : w64 (c5 + k4 / 262144) = k5 := by rw [hs _ _ h5 (by omega), e5]
  have q6 : w64 (c6 + k5 / 262144) = k6 := by rw [hs _ _ h6 (by omega), e6]
  have q7 : w64 (k6 / 262144) = k6 / 262144 := w64_is (by omega)
  refine ⟨c0 % 262144, k1 % 262144, k2 % 262144, k3 % 262144, k4 % 262144, k5 % 262144, k6 % 262144, k6 / 262144, ?_, by omega, by omega, by omega, by omega, by omega, by omega, by omega, by omega, ?_⟩
  · simp [carN, car1, add, q1, q2, q3, q4, q5, q6, q7]
  · rw [e6, e5, e4, e3, e2, e1] at *
    omega
theorem val8 (c0 c1 c2 c3 c4 c5 c6 c7 : Nat) : val [c0, c1, c2, c3, c4, c5, c6, c7] 8 = c0 + 262144 * (c1 + 262144 * (c2 + 262144 * (c3 + 262144 * (c4 + 262144 * (c5 + 262144 * (c6 + 262144 * c7)))))) := by
  rw [val_cons, val_cons, val_cons, val_cons, val_cons, val_cons, val_cons, val_cons, val]
  omega
/-- A product, by digits. -/
theorem mul_is {a b o0 o1 o2 o3 o4 o5 : Nat} (ha : a < 262144) (hb : b < 262144) (h0 : o0 < 262144) (h1 : o1 < 262144) (h2 : o2 < 262144) (h3 : o3 < 262144) (h4 : o4 < 262144) (h5 : o5 < 262144) :
    ∃ d0 d1 d2 d3 d4 d5 d6 d7, mul a b [o0, o1, o2, o3, o4, o5, 0, 0] = [d0, d1, d2, d3, d4, d5, d6, d7] ∧ d0 < 262144 ∧ d1 < 262144 ∧ d2 < 262144 ∧ d3 < 262144 ∧ d4 < 262144 ∧ d5 < 262144 ∧ d6 < 262144 ∧
      d0 + 262144 * (d1 + 262144 * (d2 + 262144 * (d3 + 262144 * (d4 + 262144 * (d5 + 262144 * (d6 + 262144 * d7)))))) = (o0 + 262144 * (o1 + 262144 * (o2 + 262144 * (o3 + 262144 * (o4 + 262144 * o5))))) * (a + b * 262144) := by
  have key : ∀ x y : Nat, x < 262144 → y < 262144 → x * y ≤ 68718952449 := fun x y hx hy => by
    have := Nat.mul_le_mul (show x ≤ 262143 by omega) (show y ≤ 262143 by omega)
    omega
  have a0 := key o0 a h0 ha
  have a1 := key o1 a h1 ha
  have a2 := key o2 a h2 ha
  have a3 := key o3 a h3 ha
  have a4 := key o4 a h4 ha
  have a5 := key o5 a h5 ha
  have b0 := key o0 b h0 hb
  have b1 := key o1 b h1 hb
  have b2 := key o2 b h2 hb
  have b3 := key o3 b h3 hb
  have b4 := key o4 b h4 hb
  have b5 := key o5 b h5 hb
  unfold mul
  rw [mulN_is a0 a1 a2 a3 a4 a5 b0 b1 b2 b3 b4 b5]
  have e : (o0 + 262144 * (o1 + 262144 * (o2 + 262144 * (o3 + 262144 * (o4 + 262144 * o5))))) * (a + b * 262144) = o0 * a + 262144 * ((o0 * b + o1 * a) + 262144 * ((o1 * b + o2 * a) + 262144 * ((o2 * b + o3 * a) + 262144 * ((o3 * b + o4 * a) + 262144 * ((o4 * b + o5 * a) + 262144 * (o5 * b)))))) := by
    rw [horner, horner, horner, horner, horner, Nat.mul_add o5, ← Nat.mul_assoc o5, Nat.mul_comm (o5 * b) 262144]
    simp only [Nat.add_assoc]
  rw [e]
  obtain ⟨d0, d1, d2, d3, d4, d5, d6, d7, h, g0, g1, g2, g3, g4, g5, g6, _, g⟩ := car_is (c0 := o0 * a) (c1 := o0 * b + o1 * a) (c2 := o1 * b + o2 * a) (c3 := o2 * b + o3 * a) (c4 := o3 * b + o4 * a) (c5 := o4 * b + o5 * a) (c6 := o5 * b) (by omega) (by omega) (by omega) (by omega) (by omega) (by omega) (by omega)
  exact ⟨d0, d1, d2, d3, d4, d5, d6, d7, h, g0, g1, g2, g3, g4, g5, g6, g⟩
theorem halves (x : Nat) : x % 262144 + x / 262144 * 262144 = x := by omega
theorem pow2_is {x : Nat} (h : x < 68719476736) : ∃ d0 d1 d2 d3, pows x 1 = [d0, d1, d2, d3, 0, 0, 0, 0] ∧ d0 < 262144 ∧ d1 < 262144 ∧ d2 < 262144 ∧ d3 < 262144 ∧ d0 + 262144 * (d1 + 262144 * (d2 + 262144 * d3)) = x * x := by
  obtain ⟨d0, d1, d2, d3, d4, d5, d6, d7, e, g0, g1, g2, g3, g4, g5, g6, g⟩ := mul_is (a := x % 262144) (b := x / 262144) (o0 := x % 262144) (o1 := x / 262144) (o2 := 0) (o3 := 0) (o4 := 0) (o5 := 0) (by omega) (by omega) (by omega) (by omega) (by omega) (by omega) (by omega) (by omega)
  have hx : x * x ≤ 68719476735 * 68719476735 := Nat.mul_le_mul (by omega) (by omega)
  rw [halves, show x % 262144 + 262144 * (x / 262144 + 262144 * (0 + 262144 * (0 + 262144 * (0 + 262144 * 0)))) = x by omega] at g
  generalize x * x = y at *
  obtain rfl : d4 = 0 := by omega
  obtain rfl : d5 = 0 := by omega
  obtain rfl : d6 = 0 := by omega
  obtain rfl : d7 = 0 := by omega
  exact ⟨d0, d1, d2, d3, e, g0, g1, g2, g3, by omega⟩
theorem pow3_is {x : Nat} (h : x < 68719476736) : ∃ d0 d1 d2 d3 d4 d5, pows x 2 = [d0, d1, d2, d3, d4, d5, 0, 0] ∧ d0 < 262144 ∧ d1 < 262144 ∧ d2 < 262144 ∧ d3 < 262144 ∧ d4 < 262144 ∧ d5 < 262144 ∧ d0 + 262144 * (d1 + 262144 * (d2 + 262144 * (d3 + 262144 * (d4 + 262144 * d5)))) = x * x * x := by
  obtain ⟨o0, o1, o2, o3, eo, h0, h1, h2, h3, ho⟩ := pow2_is h
  obtain ⟨d0, d1, d2, d3, d4, d5, d6, d7, e, g0, g1, g2, g3, g4, g5, g6, g⟩ := mul_is (a := x % 262144) (b := x / 262144) (o0 := o0) (o1 := o1) (o2 := o2) (o3 := o3) (o4 := 0) (o5 := 0) (by omega) (by omega) h0 h1 h2 h3 (by omega) (by omega)
  have hx : x * x ≤ 68719476735 * 68719476735 := Nat.mul_le_mul (by omega) (by omega)
  have hy : x * x * x ≤ 68719476735 * 68719476735 * 68719476735 := Nat.mul_le_mul hx (by omega)
  rw [halves, show o0 + 262144 * (o1 + 262144 * (o2 + 262144 * (o3 + 262144 * (0 + 262144 * 0)))) = x * x by omega] at g
  rw [pows, eo, e]
  generalize x * x * x = y at *
  obtain rfl : d6 = 0 := by omega
  obtain rfl : d7 = 0 := by omega
  exact ⟨d0, d1, d2, d3, d4, d5, rfl, g0, g1, g2, g3, g4, g5, by omega⟩
theorem goal2_is {p : Nat} (h : p ≤ 311) : goalOf p 2 = [0, 0, 0, p * 1024 % 262144, p * 1024 / 262144, 0, 0, 0] := by
  have e : w64 (p * 1024) = p * 1024 := w64_is (by omega)
  have e2 : p * 1024 / 262144 % 262144 = p * 1024 / 262144 := by omega
  have e3 : p * 1024 / 262144 / 262144 = 0 := by omega
  unfold goalOf
  simp [digN, e, e2, e3]
theorem goal3_is {p : Nat} (h : p ≤ 311) : goalOf p 3 = [0, 0, 0, 0, 0, p * 64, 0, 0] := by
  have e : w64 (p * 64) = p * 64 := w64_is (by omega)
  have e2 : p * 64 % 262144 = p * 64 := by omega
  have e3 : p * 64 / 262144 = 0 := by omega
  unfold goalOf
  simp [digN, e, e2, e3]
theorem lt8 {c0 c1 c2 c3 c4 c5 c6 c7 : Nat} (h0 : c0 < 262144) (h1 : c1 < 262144) (h2 : c2 < 262144) (h3 : c3 < 262144) (h4 : c4 < 262144) (h5 : c5 < 262144) (h6 : c6 < 262144) (h7 : c7 < 262144) : ∀ j, j < 8 → [c0, c1, c2, c3, c4, c5, c6, c7].getD j 0 < 262144 := by
  intro j hj
  match j, hj with
  | 0, _ => exact h0
  | 1, _ => exact h1
  | 2, _ => exact h2
  | 3, _ => exact h3
  | 4, _ => exact h4
  | 5, _ => exact h5
  | 6, _ => exact h6
  | 7, _ => exact h7
theorem most2_is {x p : Nat} (hx : x < 68719476736) (hp : p ≤ 311) : most x p 2 = decide (x * x ≤ p * 18446744073709551616) := by
  obtain ⟨d0, d1, d2, d3, e, g0, g1, g2, g3, g⟩ := pow2_is hx
  unfold most
  rw [show pows x (2 - 1) = pows x 1 from rfl, e, goal2_is hp, cmp_val (lt8 g0 g1 g2 g3 (by omega) (by omega) (by omega) (by omega)) (lt8 (by omega) (by omega) (by omega) (by omega) (by omega) (by omega) (by omega) (by omega)), val8, val8]
  have e1 : d0 + 262144 * (d1 + 262144 * (d2 + 262144 * (d3 + 262144 * (0 + 262144 * (0 + 262144 * (0 + 262144 * 0)))))) = x * x := by rw [← g]; simp
  have e2 : 0 + 262144 * (0 + 262144 * (0 + 262144 * (p * 1024 % 262144 + 262144 * (p * 1024 / 262144 + 262144 * (0 + 262144 * (0 + 262144 * 0)))))) = p * 18446744073709551616 := by omega
  rw [e1, e2]
theorem most3_is {x p : Nat} (hx : x < 68719476736) (hp : p ≤ 311) : most x p 3 = decide (x * x * x ≤ p * 79228162514264337593543950336) := by
  obtain ⟨d0, d1, d2, d3, d4, d5, e, g0, g1, g2, g3, g4, g5, g⟩ := pow3_is hx
  unfold most
  rw [show pows x (3 - 1) = pows x 2 from rfl, e, goal3_is hp, cmp_val (lt8 g0 g1 g2 g3 g4 g5 (by omega) (by omega)) (lt8 (by omega) (by omega) (by omega) (by omega) (by omega) (by omega) (by omega) (by omega)), val8, val8]
  have e1 : d0 + 262144 * (d1 + 262144 * (d2 + 262144 * (d3 + 262144 * (d4 + 262144 * (d5 + 262144 * (0 + 262144 * 0)))))) = x * x * x := by rw [← g]; simp
  have e2 : 0 + 262144 * (0 + 262144 * (0 + 262144 * (0 + 262144 * (0 + 262144 * (p * 64 + 262144 * (0 + 262144 * 0)))))) = p * 79228162514264337593543950336 := by omega
  rw [e1, e2]
/-- What is found bit by bit: the greatest number that still is. -/
theorem rootN_is {p f v : Nat} (hv : v < 68719476736) (hm : ∀ x, x < 68719476736 → (most x p f = true ↔ x ≤ v)) : ∀ k, k ≤ 36 → ∃ q, rootN p f k = q * 2 ^ (36 - k) ∧ q * 2 ^ (36 - k) ≤ v ∧ v < (q + 1) * 2 ^ (36 - k)
  | 0, _ => ⟨0, by simp [rootN], by simp, by simpa using hv⟩
  | k + 1, hk => by
    obtain ⟨q, e, h1, h2⟩ := rootN_is hv hm k (by omega)
    have e2 : 2 ^ (36 - k) = 2 * 2 ^ (35 - k) := by rw [show 36 - k = 35 - k + 1 by omega, Nat.pow_succ, Nat.mul_comm]
    have e3 : 36 - (k + 1) = 35 - k := by omega
    rw [e2] at e h1 h2
    rw [rootN, e3, e]
    have hM := Nat.two_pow_pos (35 - k)
    have hle : (q + 1) * (2 * 2 ^ (35 - k)) ≤ 68719476736 := by
      have h36 : 2 ^ (35 - k) * 2 ^ (k + 1) = 68719476736 := by rw [← Nat.pow_add, show 35 - k + (k + 1) = 36 by omega]
      generalize 2 ^ (35 - k) = M at *
      have hq : q < 2 ^ k := by
        apply Nat.lt_of_not_le
        intro hc
        have : 2 ^ k * (2 * M) ≤ q * (2 * M) := Nat.mul_le_mul_right _ hc
        rw [Nat.pow_succ] at h36
        have e5 : 2 ^ k * (2 * M) = M * (2 ^ k * 2) := by simp [Nat.mul_comm, Nat.mul_assoc]
        omega
      have : (q + 1) * (2 * M) ≤ 2 ^ k * (2 * M) := Nat.mul_le_mul_right _ hq
      have e5 : 2 ^ k * (2 * M) = 68719476736 := by rw [← h36, Nat.pow_succ]; simp [Nat.mul_comm, Nat.mul_assoc]
      omega
    generalize 2 ^ (35 - k) = M at *
    have e4 : q * (2 * M) + M = (2 * q + 1) * M := by rw [Nat.add_mul, Nat.one_mul, Nat.mul_assoc 2, Nat.mul_left_comm 2]
    have e6 : q * (2 * M) = (2 * q) * M := by rw [Nat.mul_assoc 2, Nat.mul_left_comm 2]
    have e7 : (q + 1) * (2 * M) = (2 * q + 2) * M := by rw [← Nat.mul_assoc, Nat.add_mul, Nat.one_mul, Nat.mul_comm q 2]
    have e8 : (2 * q + 1 + 1) * M = (2 * q + 2) * M := rfl
    have e9 : (2 * q + 2) * M = (2 * q + 1) * M + M := by rw [show 2 * q + 2 = 2 * q + 1 + 1 from rfl, Nat.add_mul (2 * q + 1), Nat.one_mul]
    rw [e4, e6]
    have hx : (2 * q + 1) * M < 68719476736 := by omega
    by_cases hc : (2 * q + 1) * M ≤ v
    · rw [if_pos ((hm _ hx).2 hc)]
      exact ⟨2 * q + 1, rfl, hc, by rw [e8]; omega⟩
    · rw [if_neg (fun h => hc ((hm _ hx).1 h))]
      exact ⟨2 * q, rfl, by omega, by omega⟩
theorem rootN_end {p f v k : Nat} (hk : k = 36) (hv : v < 68719476736) (hm : ∀ x, x < 68719476736 → (most x p f = true ↔ x ≤ v)) : rootN p f k = v := by
  obtain ⟨q, e, g1, g2⟩ := rootN_is hv hm k (by omega)
  have h1 : 2 ^ (36 - k) = 1 := by rw [show 36 - k = 0 by omega, Nat.pow_zero]
  rw [h1] at e g1 g2
  omega
theorem root_end {p f v : Nat} (hv : v < 68719476736) (hm : ∀ x, x < 68719476736 → (most x p f = true ↔ x ≤ v)) : root p f = md v := congrArg md (rootN_end rfl hv hm)
theorem root2_is {p v : Nat} (hp : p ≤ 311) (hv : v < 68719476736) (h1 : v * v ≤ p * 18446744073709551616) (h2 : p * 18446744073709551616 < (v + 1) * (v + 1)) : root p 2 = md v := by
  have hm : ∀ x, x < 68719476736 → (most x p 2 = true ↔ x ≤ v) := fun x hx => by
    rw [most2_is hx hp, decide_eq_true_eq]
    constructor
    · intro h
      apply Nat.le_of_not_lt
      intro hc
      have : (v + 1) * (v + 1) ≤ x * x := Nat.mul_le_mul hc hc
      omega
    · intro h
      have : x * x ≤ v * v := Nat.mul_le_mul h h
      omega
  exact root_end hv hm
theorem root3_is {p v : Nat} (hp : p ≤ 311) (hv : v < 68719476736) (h1 : v * v * v ≤ p * 79228162514264337593543950336) (h2 : p * 79228162514264337593543950336 < (v + 1) * (v + 1) * (v + 1)) : root p 3 = md v := by
  have hm : ∀ x, x < 68719476736 → (most x p 3 = true ↔ x ≤ v) := fun x hx => by
    rw [most3_is hx hp, decide_eq_true_eq]
    constructor
    · intro h
      apply Nat.le_of_not_lt
      intro hc
      have : (v + 1) * (v + 1) * (v + 1) ≤ x * x * x := Nat.mul_le_mul (Nat.mul_le_mul hc hc) hc
      omega
    · intro h
      have : x * x * x ≤ v * v * v := Nat.mul_le_mul (Nat.mul_le_mul h h) h
      omega
  exact root_end hv hm
def hTab : List (Nat × Nat) := [(2, 6074000999), (3, 7439101573), (5, 9603838834), (7, 11363415354), (11, 14244795007), (13, 15485724812), (17, 17708603819), (19, 18721328409)]
def kTab : List (Nat × Nat) := [(2, 5411319704), (3, 6194414737), (5, 7344290767), (7, 8215976869), (11, 9551921755), (13, 10098905585), (17, 11043570340), (19, 11460697813), (23, 12214315672), (29, 13195500289), (31, 13492127166), (37, 14311783875), (41, 14809980276), (43, 15046980094), (47, 15499789991), (53, 16133124468), (59, 16720292289), (61, 16907126662), (67, 17444216262), (71, 17784676812), (73, 17950125167), (79, 18429019306), (83, 18734950876), (89, 19175934170), (97, 19734090066), (101, 20001703533), (103, 20132865992), (107, 20390182855), (109, 20516441075), (113, 20764397895), (127, 21588763473), (131, 21813078375), (137, 22141143685), (139, 22248366392), (149, 22769593852), (151, 22871018771), (157, 23170020180), (163, 23461497531), (167, 23651862830), (173, 23931792517), (179, 24205322401), (181, 24295138891), (191, 24734567280), (193, 24820601251), (197, 24990902297), (199, 25075189284), (211, 25569408389), (223, 26045227120), (227, 26200031510), (229, 26276752392), (233, 26428864332), (239, 26653801653), (241, 26727943347), (251, 27092625994), (257, 27306805839), (263, 27517677555), (269, 27725365998), (271, 27793908591), (277, 27997534228), (281, 28131656200), (283, 28198240250), (293, 28526537963), (307, 28973835255), (311, 29099129074)]
theorem hTab_ok : (hTab.all fun z => decide (z.1 ≤ 311) && decide (z.2 < 68719476736) && decide (z.2 * z.2 ≤ z.1 * 18446744073709551616) && decide (z.1 * 18446744073709551616 < (z.2 + 1) * (z.2 + 1))) = true := by decide +kernel
theorem kTab_ok : (kTab.all fun z => decide (z.1 ≤ 311) && decide (z.2 < 68719476736) && decide (z.2 * z.2 * z.2 ≤ z.1 * 79228162514264337593543950336) && decide (z.1 * 79228162514264337593543950336 < (z.2 + 1) * (z.2 + 1) * (z.2 + 1))) = true := by decide +kernel
theorem kTab_prs : kTab.map (·.1) = (List.range 64).map fun i => prs (i + 1) := by decide +kernel
theorem hTab_prs : hTab.map (·.1) = (List.range 8).map fun i => prs (i + 1) := by decide +kernel
/-- The constants of the rounds, and what the sums begin with. -/
def kL : List Nat := kTab.map fun z => md z.2
def hL : List Nat := hTab.map fun z => md z.2
theorem k_root {i : Nat} (h : i < 64) : root (prs (i + 1)) 3 = kL.getD i 0 := by
  have hl : kTab.length = 64 := rfl
  obtain ⟨z, hz⟩ : ∃ z, kTab[i]? = some z := ⟨_, List.getElem?_eq_getElem (by omega)⟩
  have h1 := List.all_eq_true.1 kTab_ok z (List.mem_of_getElem? hz)
  simp only [Bool.and_eq_true, decide_eq_true_eq] at h1
  have h2 : (kTab.map (·.1))[i]? = ((List.range 64).map fun i => prs (i + 1))[i]? := by rw [kTab_prs]
  rw [List.getElem?_map, List.getElem?_map, hz, List.getElem?_eq_getElem (by simpa using h)] at h2
  simp only [Option.map_some, Option.some.injEq, List.getElem_range] at h2
  rw [← h2, root3_is h1.1.1.1 h1.1.1.2 h1.1.2 h1.2]
  simp [kL, List.getD, hz]
theorem h_root {i : Nat} (h : i < 8) : root (prs (i + 1)) 2 = hL.getD i 0 := by
  have hl : hTab.length = 8 := rfl
  obtain ⟨z, hz⟩ : ∃ z, hTab[i]? = some z := ⟨_, List.getElem?_eq_getElem (by omega)⟩
  have h1 := List.all_eq_true.1 hTab_ok z (List.mem_of_getElem? hz)
  simp only [Bool.and_eq_true, decide_eq_true_eq] at h1
  have h2 : (hTab.map (·.1))[i]? = ((List.range 8).map fun i => prs (i + 1))[i]? := by rw [hTab_prs]
  rw [List.getElem?_map, List.getElem?_map, hz, List.getElem?_eq_getElem (by simpa using h)] at h2
  simp only [Option.map_some, Option.some.injEq, List.getElem_range] at h2
  rw [← h2, root2_is h1.1.1.1 h1.1.1.2 h1.1.2 h1.2]
  simp [hL, List.getD, hz]
theorem kL_is : kL = [1116352408, 1899447441, 3049323471, 3921009573, 961987163, 1508970993, 2453635748, 2870763221, 3624381080, 310598401, 607225278, 1426881987, 1925078388, 2162078206, 2614888103, 3248222580, 3835390401, 4022224774, 264347078, 604807628, 770255983, 1249150122, 1555081692, 1996064986, 2554220882, 2821834349, 2952996808, 3210313671, 3336571891, 3584528711, 113926993, 338241895, 666307205, 773529912, 1294757372, 1396182291, 1695183700, 1986661051, 2177026350, 2456956037, 2730485921, 2820302411, 3259730800, 3345764771, 3516065817, 3600352804, 4094571909, 275423344, 430227734, 506948616, 659060556, 883997877, 958139571, 1322822218, 1537002063, 1747873779, 1955562222, 2024104815, 2227730452, 2361852424, 2428436474, 2756734187, 3204031479, 3329325298] := by decide +kernel
theorem hL_is : hL = [1779033703, 3144134277, 1013904242, 2773480762, 1359893119, 2600822924, 528734635, 1541459225] := by decide +kernel
/-- A word turned to the right, bit by bit. -/
def tr1 (x : Nat) : Nat := x / 2 + x % 2 * 2147483648
def tr : Nat → Nat → Nat
  | 0, x => x
  | n + 1, x => tr1 (tr n x)
def dn : Nat → Nat → Nat
  | 0, x => x
  | n + 1, x => dn n x / 2
theorem tr1_lt {x : Nat} (h : x < 4294967296) : tr1 x < 4294967296 := by unfold tr1; omega
theorem tr_lt {x : Nat} (h : x < 4294967296) : ∀ n, tr n x < 4294967296
  | 0 => h
  | n + 1 => tr1_lt (tr_lt h n)
theorem dn_le (x : Nat) : ∀ n, dn n x ≤ x
  | 0 => Nat.le_refl _
  | n + 1 => Nat.le_trans (Nat.div_le_self _ _) (dn_le x n)
theorem dn_is (x : Nat) : ∀ n, dn n x = x / 2 ^ n
  | 0 => by simp [dn]
  | n + 1 => by rw [dn, dn_is x n, Nat.div_div_eq_div_mul, Nat.pow_succ]
/-- Turned by n bits: the upper ones come down, the lower ones go to the top. -/
theorem tr_is {x : Nat} (h : x < 4294967296) : ∀ n, n ≤ 32 → tr n x = x / 2 ^ n + x % 2 ^ n * 2 ^ (32 - n)
  | 0, _ => by simp [tr, Nat.mod_one]
  | n + 1, hn => by
    rw [tr, tr_is h n (by omega), tr1]
    have e1 : 2 ^ (32 - n) = 2 * 2 ^ (31 - n) := by rw [show 32 - n = 31 - n + 1 by omega, Nat.pow_succ, Nat.mul_comm]
    have e2 : 32 - (n + 1) = 31 - n := by omega
    have e3 : 2 ^ n * 2 ^ (31 - n) = 2147483648 := by rw [← Nat.pow_add, show n + (31 - n) = 31 by omega]
    have e4 : x / 2 ^ (n + 1) = x / 2 ^ n / 2 := by rw [Nat.div_div_eq_div_mul, Nat.pow_succ]
    have e5 : x % 2 ^ (n + 1) = x % 2 ^ n + 2 ^ n * (x / 2 ^ n % 2) := by rw [Nat.pow_succ, Nat.mod_mul]
    rw [e1, e2, e4, e5]
    generalize x / 2 ^ n = q
    generalize x % 2 ^ n = r
    generalize 2 ^ (31 - n) = M at *
    generalize 2 ^ n = L at *
    have e6 : r * (2 * M) = 2 * (r * M) := by rw [Nat.mul_left_comm]
    have e7 : (r + L * (q % 2)) * M = r * M + q % 2 * 2147483648 := by rw [Nat.add_mul, Nat.mul_comm L, Nat.mul_assoc, e3]
    rw [e6, e7]
    omega
end Go.Proofs.YtoabeohfbikpcaaDoor.Sh
