/-
  Plain mathematics of layer 4: what was put by trees is got again, number by number. No program is named here but for the decoder's state (Td).
-/
import Derived.Test.YtjfoolhgjnnhgaaProbsBackDev
namespace Go.Proofs.Ytjfoolhgjnnhgaa.Rc
theorem putN_ahead {back : Bool} {n v F T : Nat} {s : Tr} (hs : s.Ok (2 ^ n) 0) (h : Ahead (putN back n v s n).e F T) : ∀ d i, i + d = n → Ahead (putN back n v s i).e F T := by
  intro d
  induction d with
  | zero => intro i hi; rw [Nat.add_zero] at hi; rw [hi]; exact h
  | succ d ih =>
    intro i hi
    have h1 := ih (i + 1) (by omega)
    have hok := putN_ok back n v hs i (by omega)
    have hm : (putN back n v s i).m < 2 ^ n := Nat.lt_of_lt_of_le hok.2.2.2 (Nat.pow_le_pow_right (by omega) (by omega))
    have hp := probs_get hok.2.1 (show (putN back n v s i).m < (putN back n v s i).l.length by rw [hok.2.2.1]; exact hm)
    exact ahead_bit hok.1 (show (putN back n v s i).l.getD (putN back n v s i).m 0 ≤ 2047 by omega) h1
/-- One step of a tree: the decoder follows. -/
theorem follow_at {s : Tr} {sd : Td} {N i q b v F T : Nat} {more : List UInt8} (hok : s.Ok N i) (hq : q < N) (hb : b ≤ 1) (hl : sd.l = s.l) (hm : sd.m = s.m) (hf : Follows sd.d s.e F T more) (ha : Ahead (s.at q b).e F T) :
    sd.bit q = b ∧ (sd.at q v).l = (s.at q b).l ∧ (sd.at q v).m = (s.at q b).m ∧ Follows (sd.at q v).d (s.at q b).e F T more := by
  have hp := probs_get hok.2.1 (show q < s.l.length by rw [hok.2.2.1]; exact hq)
  obtain ⟨h1, h2⟩ := follows_bit hok.1 (show s.l.getD q 0 ≤ 2047 by omega) hb hf ha
  have hbit : sd.bit q = b := by show sd.d.bitOf (sd.l.getD q 0) = b; rw [hl]; exact h1
  refine ⟨hbit, ?_, ?_, ?_⟩
  · show sd.l.set q (learn (sd.l.getD q 0) (sd.bit q)) = s.l.set q (learn (s.l.getD q 0) b)
    rw [hbit, hl]
  · show 2 * sd.m + sd.bit q = 2 * s.m + b
    rw [hbit, hm]
  · show Follows (sd.d.getBit (sd.l.getD q 0)) _ F T more
    rw [hl]; exact h2
/-- What of a number is got behind i bits. -/
def gotV (back : Bool) (n v i : Nat) : Nat := if back then v % 2 ^ i else v / 2 ^ (n - i)
theorem gotV_step (back : Bool) (n v i : Nat) (hi : i < n) :
    (if back then gotV back n v i + (if back then bitAt v i else bitAt v (n - 1 - i)) * 2 ^ i else 2 * gotV back n v i + (if back then bitAt v i else bitAt v (n - 1 - i))) = gotV back n v (i + 1) := by
  cases back
  · simp only [gotV, Bool.false_eq_true, if_false]
    unfold bitAt
    have e : n - i = (n - (i + 1)) + 1 := by omega
    have e2 : n - 1 - i = n - (i + 1) := by omega
    rw [e, e2, Nat.pow_succ, ← Nat.div_div_eq_div_mul]
    omega
  · simp only [gotV, if_true]
    unfold bitAt
    rw [Nat.mod_pow_succ, Nat.mul_comm]
theorem follow_putN {back : Bool} {n v F T : Nat} {s : Tr} {sd : Td} {more : List UInt8} (hs : s.Ok (2 ^ n) 0) (hv : v < 2 ^ n) (h : Ahead (putN back n v s n).e F T) (hl : sd.l = s.l) (hm : sd.m = s.m) (hv0 : sd.v = 0) (hf : Follows sd.d s.e F T more) :
    ∀ i, i ≤ n → (getN back sd i).l = (putN back n v s i).l ∧ (getN back sd i).m = (putN back n v s i).m ∧ (getN back sd i).v = gotV back n v i ∧ Follows (getN back sd i).d (putN back n v s i).e F T more := by
  intro i
  induction i with
  | zero =>
    intro _
    refine ⟨hl, hm, ?_, hf⟩
    show sd.v = _
    rw [hv0]
    unfold gotV
    cases back
    · simp only [Bool.false_eq_true, if_false, Nat.sub_zero]; rw [Nat.div_eq_of_lt hv]
    · simp only [if_true, Nat.pow_zero]; omega
  | succ i ih =>
    intro hi
    obtain ⟨h1, h2, h3, h4⟩ := ih (by omega)
    have hok := putN_ok back n v hs i (by omega)
    have hmm : (putN back n v s i).m < 2 ^ n := Nat.lt_of_lt_of_le hok.2.2.2 (Nat.pow_le_pow_right (by omega) (by omega))
    have ha := putN_ahead hs h (n - (i + 1)) (i + 1) (by omega)
    have hb : (if back then bitAt v i else bitAt v (n - 1 - i)) ≤ 1 := by split <;> exact bitAt_le _ _
    obtain ⟨k1, k2, k3, k4⟩ := follow_at (v := (if back then (getN back sd i).v + (getN back sd i).bit (getN back sd i).m * 2 ^ i else 2 * (getN back sd i).v + (getN back sd i).bit (getN back sd i).m)) hok hmm hb h1 h2 h4 ha
    rw [← h2] at k1 k2 k3 k4
    refine ⟨?_, ?_, ?_, ?_⟩
    · show ((getN back sd i).at (getN back sd i).m _).l = ((putN back n v s i).at (putN back n v s i).m _).l
      rw [← h2]; exact k2
    · show ((getN back sd i).at (getN back sd i).m _).m = ((putN back n v s i).at (putN back n v s i).m _).m
      rw [← h2]; exact k3
    · rw [← gotV_step back n v i (by omega), ← h3]
      show (if back then _ else _) = _
      rw [k1]
    · show Follows ((getN back sd i).at (getN back sd i).m _).d ((putN back n v s i).at (putN back n v s i).m _).e F T more
      rw [← h2]; exact k4
theorem likeN_ahead {v o N F T : Nat} {s : Tr} (hN : 768 ≤ N) (hs : s.Ok N 0) (h : Ahead (likeN v o s 8).1.e F T) : ∀ d i, i + d = 8 → Ahead (likeN v o s i).1.e F T := by
  intro d
  induction d with
  | zero => intro i hi; rw [Nat.add_zero] at hi; rw [hi]; exact h
  | succ d ih =>
    intro i hi
    have h1 := ih (i + 1) (by omega)
    have hok := likeN_ok v o N hN hs i (by omega)
    have hpl := place_lt (like := (likeN v o s i).2) hok.2.2.2 (show i < 8 by omega) (bitAt_le o (7 - i))
    have hp := probs_get hok.2.1 (show place (likeN v o s i).1.m (likeN v o s i).2 (bitAt o (7 - i)) < (likeN v o s i).1.l.length by rw [hok.2.2.1]; omega)
    exact ahead_bit hok.1 (show (likeN v o s i).1.l.getD (place (likeN v o s i).1.m (likeN v o s i).2 (bitAt o (7 - i))) 0 ≤ 2047 by omega) h1
theorem follow_likeN {v o N F T : Nat} {s : Tr} {sd : Td} {more : List UInt8} (hN : 768 ≤ N) (hs : s.Ok N 0) (h : Ahead (likeN v o s 8).1.e F T) (hl : sd.l = s.l) (hm : sd.m = s.m) (hf : Follows sd.d s.e F T more) :
    ∀ i, i ≤ 8 → (gotLike o sd i).1.l = (likeN v o s i).1.l ∧ (gotLike o sd i).1.m = (likeN v o s i).1.m ∧ (gotLike o sd i).2 = (likeN v o s i).2 ∧ Follows (gotLike o sd i).1.d (likeN v o s i).1.e F T more := by
  intro i
  induction i with
  | zero => intro _; exact ⟨hl, hm, rfl, hf⟩
  | succ i ih =>
    intro hi
    obtain ⟨h1, h2, h3, h4⟩ := ih (by omega)
    have hok := likeN_ok v o N hN hs i (by omega)
    have hpl := place_lt (like := (likeN v o s i).2) hok.2.2.2 (show i < 8 by omega) (bitAt_le o (7 - i))
    have ha := likeN_ahead hN hs h (8 - (i + 1)) (i + 1) (by omega)
    obtain ⟨k1, k2, k3, k4⟩ := follow_at (v := (gotLike o sd i).1.v) hok (show place (likeN v o s i).1.m (likeN v o s i).2 (bitAt o (7 - i)) < N by omega) (bitAt_le v (7 - i)) h1 h2 h4 ha
    have hpe : place (gotLike o sd i).1.m (gotLike o sd i).2 (bitAt o (7 - i)) = place (likeN v o s i).1.m (likeN v o s i).2 (bitAt o (7 - i)) := by rw [h2, h3]
    refine ⟨?_, ?_, ?_, ?_⟩
    · show ((gotLike o sd i).1.at (place (gotLike o sd i).1.m (gotLike o sd i).2 (bitAt o (7 - i))) _).l = _
      rw [hpe]; exact k2
    · show ((gotLike o sd i).1.at (place (gotLike o sd i).1.m (gotLike o sd i).2 (bitAt o (7 - i))) _).m = _
      rw [hpe]; exact k3
    · show ((gotLike o sd i).2 && ((gotLike o sd i).1.bit (place (gotLike o sd i).1.m (gotLike o sd i).2 (bitAt o (7 - i))) == bitAt o (7 - i))) = _
      rw [hpe, k1, h3]; rfl
    · show Follows ((gotLike o sd i).1.at (place (gotLike o sd i).1.m (gotLike o sd i).2 (bitAt o (7 - i))) _).d _ F T more
      rw [hpe]; exact k4
theorem likeN_m {v o : Nat} {s : Tr} (hv : v < 256) (hm : s.m = 1) : ∀ k, k ≤ 8 → (likeN v o s k).1.m = 2 ^ k + v / 2 ^ (8 - k) := by
  intro k
  induction k with
  | zero => intro _; show s.m = _; rw [hm]; simp; omega
  | succ k ih =>
    intro hk
    show 2 * (likeN v o s k).1.m + bitAt v (7 - k) = _
    rw [ih (by omega)]
    unfold bitAt
    have e : 8 - k = (8 - (k + 1)) + 1 := by omega
    have e2 : 7 - k = 8 - (k + 1) := by omega
    rw [e, e2, Nat.pow_succ, Nat.pow_succ, ← Nat.div_div_eq_div_mul]
    omega
/-- An encoder and three trees. -/
structure Bk where
  e : Enc
  a : List Nat
  b : List Nat
  c : List Nat
def Bk.s1 (s : Bk) (n v : Nat) : Tr := putN false n v ⟨s.e, s.a, 1⟩ n
def Bk.s2 (s : Bk) (n v : Nat) : Tr := putN true n v ⟨(s.s1 n v).e, s.b, 1⟩ n
def Bk.s3 (s : Bk) (n v x y : Nat) : Tr := (likeN x y ⟨(s.s2 n v).e, s.c, 1⟩ 8).1
def Bk.step (s : Bk) (n x y : Nat) : Bk := ⟨(s.s3 n (x % 2 ^ n) x y).e, (s.s1 n (x % 2 ^ n)).l, (s.s2 n (x % 2 ^ n)).l, (s.s3 n (x % 2 ^ n) x y).l⟩
def bkN (n : Nat) (f : Nat → Nat × Nat) : Nat → Bk
  | 0 => ⟨Enc.start, List.replicate (2 ^ n) 1024, List.replicate (2 ^ n) 1024, List.replicate 1024 1024⟩
  | k + 1 => (bkN n f k).step n (f k).1 (f k).2
def Bk.Ok (s : Bk) (n : Nat) : Prop := Fine s.e ∧ (Probs s.a ∧ s.a.length = 2 ^ n) ∧ (Probs s.b ∧ s.b.length = 2 ^ n) ∧ (Probs s.c ∧ s.c.length = 1024)
theorem one_lt : 1 < 2 ^ (0 + 1) := by omega
theorem Bk.Ok.ok1 {s : Bk} {n : Nat} (h : s.Ok n) : (⟨s.e, s.a, 1⟩ : Tr).Ok (2 ^ n) 0 := ⟨h.1, h.2.1.1, h.2.1.2, one_lt⟩
theorem Bk.Ok.ok2 {s : Bk} {n v : Nat} (h : s.Ok n) : (⟨(s.s1 n v).e, s.b, 1⟩ : Tr).Ok (2 ^ n) 0 := ⟨(putN_ok false n v h.ok1 n (Nat.le_refl _)).1, h.2.2.1.1, h.2.2.1.2, one_lt⟩
theorem Bk.Ok.ok3 {s : Bk} {n v : Nat} (h : s.Ok n) : (⟨(s.s2 n v).e, s.c, 1⟩ : Tr).Ok 1024 0 := ⟨(putN_ok true n v h.ok2 n (Nat.le_refl _)).1, h.2.2.2.1, h.2.2.2.2, one_lt⟩
theorem Bk.Ok.step_ok {s : Bk} {n : Nat} (h : s.Ok n) (x y : Nat) : (s.step n x y).Ok n := by
  have h1 := putN_ok false n (x % 2 ^ n) h.ok1 n (Nat.le_refl _)
  have h2 := putN_ok true n (x % 2 ^ n) (h.ok2 (v := x % 2 ^ n)) n (Nat.le_refl _)
  have h3 := likeN_ok x y 1024 (by omega) (h.ok3 (v := x % 2 ^ n)) 8 (Nat.le_refl _)
  exact ⟨h3.1, ⟨h1.2.1, h1.2.2.1⟩, ⟨h2.2.1, h2.2.2.1⟩, ⟨h3.2.1, h3.2.2.1⟩⟩
theorem bkN_ok (n : Nat) (f : Nat → Nat × Nat) : ∀ k, (bkN n f k).Ok n
  | 0 => ⟨fine_start, ⟨probs_new _, List.length_replicate⟩, ⟨probs_new _, List.length_replicate⟩, ⟨probs_new _, List.length_replicate⟩⟩
  | k + 1 => (bkN_ok n f k).step_ok _ _
theorem Bk.turns1 (s : Bk) (n v : Nat) : (s.s1 n v).e.turns ≤ s.e.turns + 3 * n := putN_turns false n v _ n
theorem Bk.turns2 (s : Bk) (n v : Nat) : (s.s2 n v).e.turns ≤ s.e.turns + 6 * n := by
  have h1 := s.turns1 n v
  have h2 := putN_turns true n v ⟨(s.s1 n v).e, s.b, 1⟩ n
  show (putN true n v _ n).e.turns ≤ _
  simp only at h2; omega
theorem Bk.turns3 (s : Bk) (n v x y : Nat) : (s.s3 n v x y).e.turns ≤ s.e.turns + 6 * n + 24 := by
  have h1 := s.turns2 n v
  have h2 := likeN_turns x y ⟨(s.s2 n v).e, s.c, 1⟩ 8
  show (likeN x y _ 8).1.e.turns ≤ _
  simp only at h2; omega
theorem bkN_turns (n : Nat) (hn : n ≤ 8) (f : Nat → Nat × Nat) : ∀ k, (bkN n f k).e.turns ≤ 72 * k
  | 0 => Nat.le_refl _
  | k + 1 => by
    have h1 := bkN_turns n hn f k
    have h2 := (bkN n f k).turns3 n ((f k).1 % 2 ^ n) (f k).1 (f k).2
    show ((bkN n f k).s3 n _ _ _).e.turns ≤ _
    omega
theorem Bk.Ok.ahead2 {s : Bk} {n v x y F T : Nat} (h : s.Ok n) (ha : Ahead (s.s3 n v x y).e F T) : Ahead (s.s2 n v).e F T := likeN_ahead (by omega) (h.ok3 (v := v)) ha 8 0 (by omega)
theorem Bk.Ok.ahead1 {s : Bk} {n v F T : Nat} (h : s.Ok n) (ha : Ahead (s.s2 n v).e F T) : Ahead (s.s1 n v).e F T := putN_ahead (h.ok2 (v := v)) ha n 0 (by omega)
theorem Bk.Ok.ahead0 {s : Bk} {n v F T : Nat} (h : s.Ok n) (ha : Ahead (s.s1 n v).e F T) : Ahead s.e F T := putN_ahead h.ok1 ha n 0 (by omega)
theorem ahead_bkN (n : Nat) (f : Nat → Nat × Nat) (N k : Nat) (hk : k ≤ N) : Ahead (bkN n f k).e (bkN n f N).e.low (bkN n f N).e.turns := by
  obtain ⟨d, rfl⟩ : ∃ d, N = k + d := ⟨N - k, by omega⟩
  clear hk
  have key : ∀ F T d k, Ahead (bkN n f (k + d)).e F T → Ahead (bkN n f k).e F T := by
    intro F T d
    induction d with
    | zero => intro k h; exact h
    | succ d ih =>
      intro k h
      have h1 := ih (k + 1) (by rw [show k + 1 + d = k + (d + 1) from by omega]; exact h)
      have hok := bkN_ok n f k
      exact hok.ahead0 (hok.ahead1 (hok.ahead2 h1))
  exact key _ _ d k (ahead_self (by have := (bkN_ok n f (k + d)).1.1; omega))
end Go.Proofs.Ytjfoolhgjnnhgaa.Rc
