/-
  Plain mathematics of layer 3: steps one behind the other; what was encoded is decoded again, step by step. 
-/
import Derived.Test.YtocoehjggkkoeaaProbsMath
import Derived.Test.YtocoehjggkkoeaaRcLaws
namespace Go.Proofs.Ytocoehjggkkoeaa.Rc
/-- An encoder, and four probabilities. -/
structure Es where
  e : Enc
  pl : List Nat
def Es.step (s : Es) (x : St) : Es :=
  if x.what % 5 = 3 then ⟨directN x.v (x.n % 33) s.e (x.n % 33), s.pl⟩
  else if x.what % 5 = 4 then ⟨s.e.part x.A x.B x.C, s.pl⟩
  else ⟨s.e.bit (s.pl.getD (x.which % 4) 0) (x.v % 2), s.pl.set (x.which % 4) (learn (s.pl.getD (x.which % 4) 0) (x.v % 2))⟩
def encN (f : Nat → St) : Nat → Es
  | 0 => ⟨Enc.start, [1024, 1024, 1024, 1024]⟩
  | k + 1 => (encN f k).step (f k)
def Es.Ok (s : Es) : Prop := Fine s.e ∧ Probs s.pl ∧ s.pl.length = 4
theorem step_ok {s : Es} {x : St} (h : s.Ok) (hx : x.Ok) : (s.step x).Ok := by
  obtain ⟨h1, h2, h3⟩ := h
  unfold Es.step
  split
  · exact ⟨fine_directN h1 _ _ _, h2, h3⟩
  · split
    · obtain ⟨p1, p2, p3, _⟩ := St.parts hx
      exact ⟨fine_part h1 p1 p2 p3, h2, h3⟩
    · have hp := probs_get h2 (show x.which % 4 < s.pl.length by omega)
      exact ⟨fine_bit h1 (by omega) (by omega), probs_set h2 _ (learn_in hp.1 hp.2), by simp [h3]⟩
theorem step_turns (s : Es) (x : St) : (s.step x).e.turns ≤ s.e.turns + 96 := by
  unfold Es.step
  split
  · have := directN_turns s.e x.v (x.n % 33) (x.n % 33)
    show (directN _ _ _ _).turns ≤ _
    omega
  · split
    · have := part_turns s.e x.A x.B x.C
      show (s.e.part _ _ _).turns ≤ _
      omega
    · have := bit_turns s.e (s.pl.getD (x.which % 4) 0) (x.v % 2)
      show (s.e.bit _ _).turns ≤ _
      omega
theorem encN_ok (f : Nat → St) : ∀ k, (∀ i, i < k → (f i).Ok) → (encN f k).Ok
  | 0, _ => ⟨fine_start, probs_new 4, rfl⟩
  | k + 1, h => step_ok (encN_ok f k (fun i hi => h i (by omega))) (h k (by omega))
theorem encN_turns (f : Nat → St) : ∀ k, (encN f k).e.turns ≤ 96 * k
  | 0 => Nat.le_refl _
  | k + 1 => by
    have h1 := encN_turns f k
    have h2 := step_turns (encN f k) (f k)
    show ((encN f k).step (f k)).e.turns ≤ _
    omega
theorem ahead_directN {e : Enc} {F T v n : Nat} : ∀ i, Ahead (directN v n e i) F T → Ahead e F T
  | 0, h => h
  | i + 1, h => ahead_directN i (ahead_direct h)
theorem ahead_step {s : Es} {x : St} {F T : Nat} (hs : s.Ok) (hx : x.Ok) (h : Ahead (s.step x).e F T) : Ahead s.e F T := by
  obtain ⟨h1, h2, h3⟩ := hs
  unfold Es.step at h
  split at h
  · exact ahead_directN _ h
  · split at h
    · obtain ⟨p1, p2, p3, _⟩ := St.parts hx
      exact ahead_part p2 h
    · have hp := probs_get h2 (show x.which % 4 < s.pl.length by omega)
      exact ahead_bit h1 (by omega) h
/-- The last Low lies within every encoder's range ahead of it. -/
theorem ahead_encN (f : Nat → St) (N : Nat) (hx : ∀ i, i < N → (f i).Ok) (k : Nat) (hk : k ≤ N) : Ahead (encN f k).e (encN f N).e.low (encN f N).e.turns := by
  obtain ⟨d, rfl⟩ : ∃ d, N = k + d := ⟨N - k, by omega⟩
  clear hk
  have key : ∀ F T d k, (∀ i, i < k + d → (f i).Ok) → Ahead (encN f (k + d)).e F T → Ahead (encN f k).e F T := by
    intro F T d
    induction d with
    | zero => intro k _ h; exact h
    | succ d ih =>
      intro k hx h
      have h1 := ih (k + 1) (fun i hi => hx i (by omega)) (by rw [show k + 1 + d = k + (d + 1) from by omega]; exact h)
      exact ahead_step (encN_ok f k (fun i hi => hx i (by omega))) (hx k (by omega)) h1
  exact key _ _ d k hx (ahead_self (by have := (encN_ok f (k + d) hx).1.1; omega))
theorem top_bits (v n i : Nat) (hi : i + 1 ≤ n) : v / 2 ^ (n - (i + 1)) % 2 ^ (i + 1) = 2 * (v / 2 ^ (n - i) % 2 ^ i) + bitAt v (n - 1 - i) := by
  have e : v / 2 ^ (n - i) = v / 2 ^ (n - (i + 1)) / 2 := by
    rw [Nat.div_div_eq_div_mul, ← Nat.pow_succ, show (n - (i + 1)).succ = n - i from by omega]
  rw [e, show n - 1 - i = n - (i + 1) from by omega]
  unfold bitAt
  generalize v / 2 ^ (n - (i + 1)) = u
  rw [Nat.pow_succ, Nat.mul_comm (2 ^ i) 2, Nat.mod_mul]
  omega
theorem follows_directN {d : Dec} {e : Enc} {F T v n : Nat} {more : List UInt8} (hf : Follows d e F T more) : ∀ i, i ≤ n → Ahead (directN v n e i) F T →
    (gotN d i).2 = v / 2 ^ (n - i) % 2 ^ i ∧ Follows (gotN d i).1 (directN v n e i) F T more
  | 0, _, _ => ⟨by show 0 = _; rw [Nat.pow_zero, Nat.mod_one], hf⟩
  | i + 1, hi, h => by
    have ha := ahead_direct h
    obtain ⟨h1, h2⟩ := follows_directN hf i (by omega) ha
    obtain ⟨h3, h4⟩ := follows_direct (bitAt_le v (n - 1 - i)) h2 h
    refine ⟨?_, h4⟩
    show 2 * (gotN d i).2 + (gotN d i).1.directOf = _
    rw [h1, h3, top_bits v n i hi]
theorem follows_direct_all {d : Dec} {e : Enc} {F T v n : Nat} {more : List UInt8} (hf : Follows d e F T more) (h : Ahead (directN v n e n) F T) :
    (gotN d n).2 = v % 2 ^ n ∧ Follows (gotN d n).1 (directN v n e n) F T more := by
  obtain ⟨h1, h2⟩ := follows_directN hf n (Nat.le_refl _) h
  rw [Nat.sub_self, Nat.pow_zero, Nat.div_one] at h1
  exact ⟨h1, h2⟩
end Go.Proofs.Ytocoehjggkkoeaa.Rc
