/-
  Plain mathematics of the statement FreqBack: what was put is got again.
-/
import Derived.Test.YthejbnodalnnpaaFreqLock
import Derived.Test.YthejbnodalnnpaaRcBackMath
namespace Go.Proofs.Ythejbnodalnnpaa.Fq
open Rc (Enc Dec Ahead Follows Fine ahead_part follows_part ahead_self)
theorem sign_of_part {N : Nat → Bool} {s wh b : Nat} : ∀ (l : List (Nat × Nat)) (st a n : Nat), Tab b l → partOf N s l st = some (a, n) → a ≤ wh → wh < a + n → signOf N wh l st = some (s, a, n)
  | [], st, a, n, _, h, _, _ => by simp [partOf] at h
  | x :: l, st, a, n, ht, h, h1, h2 => by
    have htl : Tab b l := fun y hy => ht y (List.mem_cons_of_mem _ hy)
    unfold partOf at h
    unfold signOf
    by_cases hx : N x.1
    · rw [if_pos hx] at h ⊢
      exact sign_of_part l st a n htl h h1 h2
    · rw [if_neg hx] at h ⊢
      by_cases hs : x.1 = s
      · rw [if_pos hs] at h
        simp only [Option.some.injEq, Prod.mk.injEq] at h
        obtain ⟨rfl, rfl⟩ := h
        rw [if_pos h2, hs]
      · rw [if_neg hs] at h
        have := (part_bound N s l (st + x.2) a n htl h).1
        rw [if_neg (by omega)]
        exact sign_of_part l (st + x.2) a n htl h h1 h2
theorem sign_none {N : Nat → Bool} {wh : Nat} : ∀ (l : List (Nat × Nat)) (st : Nat), st + total (allow N l) ≤ wh → signOf N wh l st = none
  | [], st, _ => rfl
  | x :: l, st, h => by
    unfold signOf
    rw [allow_cons] at h
    by_cases hx : N x.1
    · rw [if_pos hx] at h ⊢
      exact sign_none l st h
    · rw [if_neg hx] at h ⊢
      simp only [total] at h
      rw [if_neg (by omega)]
      exact sign_none l (st + x.2) (by omega)
/-- What was put in a table is got of it. -/
theorem getD_back {N : Nat → Bool} {s b F T : Nat} {l : List (Nat × Nat)} {e : Enc} {d : Dec} {more : List UInt8} (hfi : Fine e) (ht : Tab b l) (hal : allOf N l ≤ 65536) (hf : Follows d e F T more) (h : Ahead (putE e l N s).1 F T) :
    (getD d l N).2 = ((if (putE e l N s).2 then s else 0), (putE e l N s).2) ∧ Follows (getD d l N).1 (putE e l N s).1 F T more := by
  have hno : 1 ≤ noneOf N l := by unfold noneOf; omega
  have hae : allOf N l = total (allow N l) + noneOf N l := rfl
  unfold putE at h ⊢
  cases hp : partOf N s l 0 with
  | none =>
    rw [hp] at h
    simp only at h
    obtain ⟨h1, h2, h3⟩ := follows_part hfi hno (by omega) hal hf h
    have hs := sign_none (N := N) (wh := d.whereIn (allOf N l)) l 0 (by omega)
    unfold getD
    rw [hs]
    exact ⟨rfl, h3⟩
  | some r =>
    obtain ⟨a, n⟩ := r
    rw [hp] at h
    simp only at h
    have hb := part_bound N s l 0 a n ht hp
    obtain ⟨h1, h2, h3⟩ := follows_part hfi hb.2.1 (by omega) hal hf h
    have hs := sign_of_part l 0 a n ht hp h1 h2
    unfold getD
    rw [hs]
    exact ⟨rfl, h3⟩
/-- The encoder and the table behind so many entries. -/
def runE (f : Nat → Asked) (L : List (Nat × Nat)) : Nat → Enc × List (Nat × Nat)
  | 0 => (Enc.start, L)
  | k + 1 => stepE (runE f L k).1 (runE f L k).2 (f k)
/-- Did the table have the sign? -/
def okE (l : List (Nat × Nat)) (x : Asked) : Bool := if x.any then true else (partR x.N x.sign l).2.2
theorem stepE_form {e : Enc} {l : List (Nat × Nat)} (ht : Tab 120 l) (hl : l.length ≤ 541) (x : Asked) (hx : x.sign < 256) :
    (stepE e l x).1 = e ∨ ∃ a b c, (stepE e l x).1 = e.part a b c ∧ 1 ≤ b ∧ a + b ≤ c ∧ c ≤ 65536 := by
  unfold stepE
  by_cases ha : x.any
  · rw [if_pos ha]
    by_cases hn : x.N x.sign
    · rw [if_pos hn]; exact .inl rfl
    · rw [if_neg hn]
      have h1 := free_lt (by simpa using hn) hx
      have h2 := cnt_free x.N 256
      exact .inr ⟨_, _, _, rfl, Nat.le_refl _, h1, by omega⟩
  · rw [if_neg ha]
    have hb := partR_bound (N := x.N) (s := x.sign) ht
    right
    refine ⟨(partR x.N x.sign l).1, (partR x.N x.sign l).2.1, allOf x.N l, ?_, hb.1, hb.2, all_le x.N ht hl⟩
    show (putE e l x.N x.sign).1 = _
    rw [putE_eq]
theorem stepE_tab {e : Enc} {l : List (Nat × Nat)} (ht : Tab 120 l) (x : Asked) (hx : x.sign < 256) : Tab 120 (stepE e l x).2 ∧ (stepE e l x).2.length ≤ l.length + 1 := by
  unfold stepE
  by_cases ha : x.any
  · rw [if_pos ha]
    by_cases hn : x.N x.sign
    · rw [if_pos hn]; exact ⟨ht, by show l.length ≤ _; omega⟩
    · rw [if_neg hn]; exact ⟨ht, by simp⟩
  · rw [if_neg ha]
    exact ⟨tab_add ht hx, add_length _ _⟩
theorem runE_ok (f : Nat → Asked) (L : List (Nat × Nat)) (hL : Tab 120 L) (h3 : L.length ≤ 300) : ∀ k, k ≤ 60 → (∀ i, i < k → (f i).sign < 256) → Fine (runE f L k).1 ∧ Tab 120 (runE f L k).2 ∧ (runE f L k).2.length ≤ 300 + k ∧ (runE f L k).1.turns ≤ 3 * k
  | 0, _, _ => ⟨Rc.fine_start, hL, by show L.length ≤ 300 + 0; omega, by show Enc.start.turns ≤ 3 * 0; decide⟩
  | k + 1, hk, h => by
    obtain ⟨h1, h2, h4, h5⟩ := runE_ok f L hL h3 k (by omega) (fun i hi => h i (by omega))
    have hx := h k (by omega)
    obtain ⟨k1, k2⟩ := stepE_tab (e := (runE f L k).1) h2 (f k) hx
    have k3 : Fine (stepE (runE f L k).1 (runE f L k).2 (f k)).1 ∧ (stepE (runE f L k).1 (runE f L k).2 (f k)).1.turns ≤ (runE f L k).1.turns + 3 := by
      rcases stepE_form (e := (runE f L k).1) h2 (by omega) (f k) hx with e | ⟨a, b, c, e, b1, b2, b3⟩
      · rw [e]; exact ⟨h1, by omega⟩
      · rw [e]; exact ⟨Rc.fine_part h1 b1 b2 b3, Rc.part_turns _ _ _ _⟩
    exact ⟨k3.1, k1, by show (stepE _ _ _).2.length ≤ _; omega, by show (stepE _ _ _).1.turns ≤ _; omega⟩
theorem ahead_runE (f : Nat → Asked) (L : List (Nat × Nat)) (hL : Tab 120 L) (h3 : L.length ≤ 300) (N : Nat) (hN : N ≤ 60) (hx : ∀ i, i < N → (f i).sign < 256) (k : Nat) (hk : k ≤ N) : Ahead (runE f L k).1 (runE f L N).1.low (runE f L N).1.turns := by
  obtain ⟨d, rfl⟩ : ∃ d, N = k + d := ⟨N - k, by omega⟩
  have key : ∀ F T d k, k + d ≤ 60 → (∀ i, i < k + d → (f i).sign < 256) → Ahead (runE f L (k + d)).1 F T → Ahead (runE f L k).1 F T := by
    intro F T d
    induction d with
    | zero => intro k _ _ h; exact h
    | succ d ih =>
      intro k hk6 hx h
      have h1 := ih (k + 1) (by omega) (fun i hi => hx i (by omega)) (by rw [show k + 1 + d = k + (d + 1) from by omega]; exact h)
      obtain ⟨g1, g2, g4, g5⟩ := runE_ok f L hL h3 k (by omega) (fun i hi => hx i (by omega))
      have h2 : Ahead (stepE (runE f L k).1 (runE f L k).2 (f k)).1 F T := h1
      rcases stepE_form (e := (runE f L k).1) g2 (by omega) (f k) (hx k (by omega)) with e | ⟨a, b, c, e, b1, b2, b3⟩
      · rw [e] at h2; exact h2
      · rw [e] at h2; exact ahead_part b2 h2
  exact key _ _ d k hN hx (ahead_self (by have := (runE_ok f L hL h3 (k + d) hN hx).1.1; omega))
end Go.Proofs.Ythejbnodalnnpaa.Fq
