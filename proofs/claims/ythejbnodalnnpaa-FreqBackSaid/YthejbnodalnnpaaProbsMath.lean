/-
  Plain mathematics of layer 4: numbers bit by bit, by a tree of probabilities. No program is named here.
-/
import Derived.Test.YthejbnodalnnpaaRcBackMath
namespace Go.Proofs.Ythejbnodalnnpaa.Rc
/-- An encoder, a tree, a place in it. -/
structure Tr where
  e : Enc
  l : List Nat
  m : Nat
def Tr.at (s : Tr) (k b : Nat) : Tr := ⟨s.e.bit (s.l.getD k 0) b, s.l.set k (learn (s.l.getD k 0) b), 2 * s.m + b⟩
def Tr.step (s : Tr) (b : Nat) : Tr := s.at s.m b
/-- Every probability lies within its bounds. -/
def Probs (l : List Nat) : Prop := ∀ x ∈ l, 31 ≤ x ∧ x ≤ 2017
theorem probs_get {l : List Nat} (h : Probs l) {k : Nat} (hk : k < l.length) : 31 ≤ l.getD k 0 ∧ l.getD k 0 ≤ 2017 := by
  have e : l.getD k 0 = l[k] := by simp [List.getD, hk]
  rw [e]; exact h _ (List.getElem_mem hk)
theorem probs_set {l : List Nat} (h : Probs l) (k : Nat) {x : Nat} (hx : 31 ≤ x ∧ x ≤ 2017) : Probs (l.set k x) := by
  intro y hy
  rcases List.mem_or_eq_of_mem_set hy with h1 | rfl
  · exact h y h1
  · exact hx
theorem probs_new (n : Nat) : Probs (List.replicate n 1024) := by
  intro x hx
  rw [List.eq_of_mem_replicate hx]; omega
/-- What holds behind i bits. -/
def Tr.Ok (s : Tr) (N i : Nat) : Prop := Fine s.e ∧ Probs s.l ∧ s.l.length = N ∧ s.m < 2 ^ (i + 1)
theorem at_ok {s : Tr} {N i k b : Nat} (h : s.Ok N i) (hk : k < N) (hb : b ≤ 1) : (s.at k b).Ok N (i + 1) := by
  obtain ⟨h1, h2, h3, h4⟩ := h
  have hp := probs_get h2 (by omega : k < s.l.length)
  refine ⟨fine_bit h1 (by omega) (by omega), probs_set h2 _ (learn_in hp.1 hp.2), by simp [Tr.at, h3], ?_⟩
  show 2 * s.m + b < 2 ^ (i + 1 + 1)
  rw [Nat.pow_succ]; omega
theorem at_turns (s : Tr) (k b : Nat) : (s.at k b).e.turns ≤ s.e.turns + 3 := by
  show (s.e.bit _ b).turns ≤ _
  rw [bit_eq]
  refine Nat.le_trans (turns_widen _) ?_
  split <;> exact Nat.le_refl _
/-- A number of n bits put, i bits of it done. -/
def putN (back : Bool) (n v : Nat) (s : Tr) : Nat → Tr
  | 0 => s
  | i + 1 => (putN back n v s i).step (if back then bitAt v i else bitAt v (n - 1 - i))
theorem putN_ok (back : Bool) (n v : Nat) {s : Tr} (h : s.Ok (2 ^ n) 0) : ∀ i, i ≤ n → (putN back n v s i).Ok (2 ^ n) i := by
  intro i
  induction i with
  | zero => intro _; exact h
  | succ i ih =>
    intro hi
    have h1 := ih (by omega)
    have hm : (putN back n v s i).m < 2 ^ n := Nat.lt_of_lt_of_le h1.2.2.2 (Nat.pow_le_pow_right (by omega) hi)
    refine at_ok h1 hm ?_
    split <;> exact bitAt_le _ _
theorem putN_turns (back : Bool) (n v : Nat) (s : Tr) : ∀ i, (putN back n v s i).e.turns ≤ s.e.turns + 3 * i := by
  intro i
  induction i with
  | zero => exact Nat.le_refl _
  | succ i ih =>
    have := at_turns (putN back n v s i) (putN back n v s i).m (if back then bitAt v i else bitAt v (n - 1 - i))
    show ((putN back n v s i).step _).e.turns ≤ _
    unfold Tr.step; omega
/-- The place of a bit beside another byte's. -/
def place (m : Nat) (like : Bool) (c : Nat) : Nat := if like then m + 256 + 256 * c else m
/-- A byte put beside another one, k bits of it done: and whether they are like. -/
def likeN (v o : Nat) (s : Tr) : Nat → Tr × Bool
  | 0 => (s, true)
  | k + 1 => ((likeN v o s k).1.at (place (likeN v o s k).1.m (likeN v o s k).2 (bitAt o (7 - k))) (bitAt v (7 - k)), (likeN v o s k).2 && (bitAt v (7 - k) == bitAt o (7 - k)))
theorem place_lt {m k c : Nat} {like : Bool} (hm : m < 2 ^ (k + 1)) (hk : k < 8) (hc : c ≤ 1) : place m like c < 768 := by
  have : 2 ^ (k + 1) ≤ 2 ^ 8 := Nat.pow_le_pow_right (by omega) (by omega)
  unfold place; split <;> omega
theorem likeN_ok (v o N : Nat) (hN : 768 ≤ N) {s : Tr} (h : s.Ok N 0) : ∀ k, k ≤ 8 → (likeN v o s k).1.Ok N k := by
  intro k
  induction k with
  | zero => intro _; exact h
  | succ k ih =>
    intro hk
    have h1 := ih (by omega)
    have hp := place_lt (like := (likeN v o s k).2) h1.2.2.2 (by omega : k < 8) (bitAt_le o (7 - k))
    exact at_ok h1 (by omega) (bitAt_le _ _)
theorem likeN_turns (v o : Nat) (s : Tr) : ∀ k, (likeN v o s k).1.e.turns ≤ s.e.turns + 3 * k := by
  intro k
  induction k with
  | zero => exact Nat.le_refl _
  | succ k ih =>
    have := at_turns (likeN v o s k).1 (place (likeN v o s k).1.m (likeN v o s k).2 (bitAt o (7 - k))) (bitAt v (7 - k))
    show ((likeN v o s k).1.at _ _).e.turns ≤ _
    omega
end Go.Proofs.Ythejbnodalnnpaa.Rc
