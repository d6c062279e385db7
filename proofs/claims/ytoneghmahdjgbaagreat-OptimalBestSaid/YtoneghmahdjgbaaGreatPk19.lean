/-
  Plain mathematics of layer 16: the cheapest ways to tell a text up to each of its places, and the least prices from each of its places on.
-/
import Derived.Test.YtoneghmahdjgbaaGreatPk04
import Derived.Test.YtoneghmahdjgbaaGreatPk11
import Derived.Test.YtoneghmahdjgbaaGreatPk18
import Derived.Lib.ItoaNum
set_option linter.unusedVariables false
namespace Go.Proofs.YtoneghmahdjgbaaGreat.Om
open Mt (mat allL mat_le mat_same)
open Bs (lim bstL)
open Ch (bt bt_at bt_lt)
open Gr (size1 pktB copied_take)
open Pc (Tb dbits)
open Pk (Pt Tells tells_nil Rp)
open Wnd (take_snoc)
/-- What a way costs, and its last piece. -/
abbrev Wy := Int × Nat × Nat
def offer (F : Nat → Wy) (e : Nat) (c : Int) (x : Nat × Nat) : Nat → Wy := fun i => if i = e ∧ c < (F i).1 then (c, x) else F i
/-- A piece that may be at p. -/
def Ok (s : ByteArray) (W : Int) (p : Nat) (x : Nat × Nat) : Prop := x = (0, 0) ∨ (2 ≤ x.1 ∧ 1 ≤ x.2 ∧ x.2 ≤ p ∧ (x.2 : Int) ≤ W ∧ x.1 ≤ mat (bt s) p (p - x.2) 0 (lim s p))
def pr (t : Tb) (x : Nat × Nat) : Int := if x = (0, 0) then t.l else t.cost x.1 x.2
theorem Ok.pos {s : ByteArray} {W : Int} {p : Nat} {x : Nat × Nat} (h : Ok s W p x) : 1 ≤ size1 x := by
  unfold size1
  rcases h with h | h
  · rw [if_pos h]; exact Nat.le_refl _
  · split
    · exact Nat.le_refl _
    · omega
theorem size1_n {n d : Nat} (h : 1 ≤ n) : size1 (n, d) = n := by
  unfold size1
  rw [if_neg (fun e => by cases e; omega)]
theorem pr_n {t : Tb} {n d : Nat} (h : 1 ≤ n) : pr t (n, d) = t.cost n d := by
  unfold pr
  rw [if_neg (fun e => by cases e; omega)]
/-- Offers at p of ways that cost h up to p. -/
structure Off (t : Tb) (s : ByteArray) (W : Int) (p : Nat) (h : Int) (F F' : Nat → Wy) : Prop where
  old : ∀ e, e ≤ p → F' e = F e
  less : ∀ e, (F' e).1 ≤ (F e).1
  new : ∀ e, F' e = F e ∨ ∃ x, Ok s W p x ∧ e = p + size1 x ∧ F' e = (h + pr t x, x)
section
variable {t : Tb} {s : ByteArray} {W : Int} {p : Nat} {h : Int} {F F' F'' : Nat → Wy}
theorem Off.refl : Off t s W p h F F := ⟨fun _ _ => rfl, fun _ => Int.le_refl _, fun _ => .inl rfl⟩
theorem Off.trans (a : Off t s W p h F F') (b : Off t s W p h F' F'') : Off t s W p h F F'' :=
  ⟨fun e he => (b.old e he).trans (a.old e he), fun e => Int.le_trans (b.less e) (a.less e), fun e => by
    rcases b.new e with h1 | h1
    · rw [h1]; exact a.new e
    · exact .inr h1⟩
theorem Off.one {x : Nat × Nat} (hx : Ok s W p x) : Off t s W p h F (offer F (p + size1 x) (h + pr t x) x) := by
  have h1 := hx.pos
  refine ⟨fun e he => ?_, fun e => ?_, fun e => ?_⟩
  · unfold offer; rw [if_neg (by omega)]
  · unfold offer
    split
    · rename_i h2; exact Int.le_of_lt h2.2
    · exact Int.le_refl _
  · unfold offer
    split
    · rename_i h2; exact .inr ⟨x, hx, h2.1, rfl⟩
    · exact .inl rfl
theorem offer_le (F : Nat → Wy) (e : Nat) (c : Int) (x : Nat × Nat) : (offer F e c x e).1 ≤ c := by
  unfold offer
  split
  · exact Int.le_refl _
  · rename_i h2
    exact Int.not_lt.1 (fun h3 => h2 ⟨rfl, h3⟩)
end
/-- Matches from so far back, of k lengths from a on. -/
def tellR (t : Tb) (p : Nat) (h : Int) (d a : Nat) : Nat → (Nat → Wy) → (Nat → Wy)
  | 0, F => F
  | k + 1, F => offer (tellR t p h d a k F) (p + (a + k)) (h + t.cost (a + k : Nat) d) (a + k, d)
def spans (t : Tb) (p : Nat) (h : Int) : Nat → List (Nat × Nat) → (Nat → Wy) → (Nat → Wy)
  | _, [], F => F
  | a, x :: l, F => spans t p h (x.1 + 1) l (tellR t p h x.2 a (x.1 + 1 - a) F)
def place (t : Tb) (s : ByteArray) (W : Int) (p : Nat) (F : Nat → Wy) : Nat → Wy := spans t p (F p).1 2 (bstL s W p) (offer F (p + 1) ((F p).1 + t.l) (0, 0))
def ways (t : Tb) (s : ByteArray) (W : Int) : Nat → (Nat → Wy)
  | 0 => fun e => ((e : Int) * t.l, 0, 0)
  | p + 1 => place t s W p (ways t s W p)
section
variable {t : Tb} {s : ByteArray} {W : Int} {p : Nat} {h : Int}
theorem tellR_off {d a : Nat} (ha : 1 ≤ a) : ∀ (k : Nat) (F : Nat → Wy), (∀ j, j < k → Ok s W p (a + j, d)) → Off t s W p h F (tellR t p h d a k F)
  | 0, F, _ => Off.refl
  | k + 1, F, hok => by
    refine (tellR_off ha k F (fun j hj => hok j (by omega))).trans ?_
    have := Off.one (t := t) (h := h) (F := tellR t p h d a k F) (hok k (by omega))
    rw [size1_n (by omega), pr_n (by omega)] at this
    exact this
theorem tellR_le {d a : Nat} (ha : 1 ≤ a) : ∀ (k : Nat) (F : Nat → Wy), (∀ j, j < k → Ok s W p (a + j, d)) → ∀ j, j < k → (tellR t p h d a k F (p + (a + j))).1 ≤ h + t.cost (a + j : Nat) d
  | 0, F, _, j, hj => by omega
  | k + 1, F, hok, j, hj => by
    by_cases e : j = k
    · subst e; exact offer_le _ _ _ _
    · have h1 := tellR_le ha k F (fun j hj => hok j (by omega)) j (by omega)
      have h2 := Off.one (t := t) (h := h) (F := tellR t p h d a k F) (hok k (by omega))
      rw [size1_n (by omega), pr_n (by omega)] at h2
      exact Int.le_trans (h2.less _) h1
end
theorem bitLen_up {x y : Nat} (h : x ≤ y) (hy : y < 18446744073709551616) : Lib.bitLen x ≤ Lib.bitLen y := by
  by_cases h0 : y = 0
  · subst h0
    obtain rfl : x = 0 := by omega
    exact Nat.le_refl _
  · obtain ⟨_, _, c⟩ := Lib.bitLenAux_bounds 64 y hy h0
    exact Lib.bitLenAux_le 64 x _ (by show x < 2 ^ (Lib.bitLenAux 64 y); omega)
theorem cost_up {t : Tb} (ht : t.good = true) (n : Int) {d d' : Nat} (h0 : 1 ≤ d) (h : d ≤ d') (hd : d' ≤ 1048576) : t.cost n d ≤ t.cost n d' := by
  obtain ⟨_, _, _, _, h5, _⟩ := t.good_range ht
  have hb : dbits (d : Int) ≤ dbits (d' : Int) := by
    unfold dbits
    rw [if_neg (by omega), if_neg (by omega)]
    exact bitLen_up (by omega) (by omega)
  unfold Tb.cost Tb.dist
  have : t.b * (dbits (d : Int) : Int) ≤ t.b * (dbits (d' : Int) : Int) := Int.mul_le_mul_of_nonneg_left (by omega) (by omega)
  omega
section
variable {t : Tb} {s : ByteArray} {W : Int} {p : Nat} {h : Int}
theorem spans_all (ht : t.good = true) (hp : p ≤ 1048576) : ∀ (x best : Nat) (F : Nat → Wy), x ≤ p → 1 ≤ best →
    Off t s W p h F (spans t p h (best + 1) (allL (bt s) p (lim s p) W x best) F) ∧ ∀ y n, y < x → ((p - y : Nat) : Int) ≤ W → best < n → n ≤ mat (bt s) p y 0 (lim s p) → (spans t p h (best + 1) (allL (bt s) p (lim s p) W x best) F (p + n)).1 ≤ h + t.cost n (p - y : Nat)
  | 0, best, F, _, _ => ⟨Off.refl, fun y n hy => by omega⟩
  | x + 1, best, F, hx, hb => by
    rw [allL]
    by_cases hw : ((p - x : Nat) : Int) ≤ W
    · rw [if_pos hw]
      by_cases hm : best < mat (bt s) p x 0 (lim s p)
      · rw [if_pos hm, spans]
        simp only
        generalize hM : mat (bt s) p x 0 (lim s p) = m at *
        have hok : ∀ j, j < m + 1 - (best + 1) → Ok s W p (best + 1 + j, p - x) := fun j hj => .inr ⟨by simp only; omega, by simp only; omega, by simp only; omega, hw, by simp only; rw [show p - (p - x) = x from by omega, hM]; omega⟩
        have o1 := tellR_off (t := t) (h := h) (show 1 ≤ best + 1 by omega) (m + 1 - (best + 1)) F hok
        have l1 := tellR_le (t := t) (h := h) (show 1 ≤ best + 1 by omega) (m + 1 - (best + 1)) F hok
        obtain ⟨o2, l2⟩ := spans_all ht hp x m (tellR t p h (p - x) (best + 1) (m + 1 - (best + 1)) F) (by omega) (by omega)
        refine ⟨o1.trans o2, fun y n hy hyw hn1 hn2 => ?_⟩
        by_cases hnm : n ≤ m
        · have h1 := l1 (n - (best + 1)) (by omega)
          rw [show best + 1 + (n - (best + 1)) = n from by omega] at h1
          have h2 := cost_up ht (n : Int) (show 1 ≤ p - x by omega) (show p - x ≤ p - y by omega) (by omega)
          have h3 := o2.less (p + n)
          omega
        · by_cases e : y = x
          · subst e; omega
          · exact l2 y n (by omega) hyw (by omega) hn2
      · rw [if_neg hm]
        obtain ⟨o2, l2⟩ := spans_all ht hp x best F (by omega) hb
        refine ⟨o2, fun y n hy hyw hn1 hn2 => ?_⟩
        by_cases e : y = x
        · subst e; omega
        · exact l2 y n (by omega) hyw hn1 hn2
    · rw [if_neg hw]
      exact ⟨Off.refl, fun y n hy hyw => by omega⟩
theorem place_off (ht : t.good = true) (hp : p ≤ 1048576) (F : Nat → Wy) : Off t s W p (F p).1 F (place t s W p F) ∧ (place t s W p F (p + 1)).1 ≤ (F p).1 + t.l ∧
    ∀ n d, 2 ≤ n → 1 ≤ d → d ≤ p → (d : Int) ≤ W → n ≤ mat (bt s) p (p - d) 0 (lim s p) → (place t s W p F (p + n)).1 ≤ (F p).1 + t.cost n d := by
  have o1 : Off t s W p (F p).1 F (offer F (p + 1) ((F p).1 + t.l) (0, 0)) := Off.one (t := t) (h := (F p).1) (F := F) (.inl rfl)
  have l1 := offer_le F (p + 1) ((F p).1 + t.l) (0, 0)
  obtain ⟨o2, l2⟩ := spans_all (s := s) (W := W) (h := (F p).1) ht hp p 1 (offer F (p + 1) ((F p).1 + t.l) (0, 0)) (Nat.le_refl _) (Nat.le_refl _)
  refine ⟨o1.trans o2, Int.le_trans (o2.less _) l1, fun n d hn hd hdp hdW hm => ?_⟩
  have := l2 (p - d) n (by omega) (by rw [show p - (p - d) = d from by omega]; exact hdW) (by omega) hm
  rw [show p - (p - d) = d from by omega] at this
  exact this
theorem ways_same (ht : t.good = true) (k : Nat) : ∀ m, k ≤ m → m ≤ 1048576 → ∀ e, e ≤ k → ways t s W m e = ways t s W k e
  | 0, hk, _, e, he => by obtain rfl : k = 0 := by omega
                          rfl
  | m + 1, hk, hm, e, he => by
    by_cases h1 : k = m + 1
    · subst h1; rfl
    · rw [ways, (place_off ht (by omega) _).1.old e (by omega)]
      exact ways_same ht k m (by omega) (by omega) e he
theorem ways_less (ht : t.good = true) (k : Nat) : ∀ m, k ≤ m → m ≤ 1048576 → ∀ e, (ways t s W m e).1 ≤ (ways t s W k e).1
  | 0, hk, _, e => by obtain rfl : k = 0 := by omega
                      exact Int.le_refl _
  | m + 1, hk, hm, e => by
    by_cases h1 : k = m + 1
    · subst h1; exact Int.le_refl _
    · exact Int.le_trans ((place_off ht (by omega) _).1.less e) (ways_less ht k m (by omega) (by omega) e)
theorem ways_zero (ht : t.good = true) (k : Nat) (hk : k ≤ 1048576) : (ways t s W k 0).1 = 0 := by
  rw [ways_same ht 0 k (Nat.zero_le _) hk 0 (Nat.le_refl _), ways]
  simp
theorem ways_inv (ht : t.good = true) : ∀ k, k ≤ 1048576 → ∀ e, ways t s W k e = ((e : Int) * t.l, 0, 0) ∨ ∃ p x, p < k ∧ Ok s W p x ∧ e = p + size1 x ∧ ways t s W k e = ((ways t s W k p).1 + pr t x, x)
  | 0, _, e => .inl rfl
  | k + 1, hk, e => by
    have ho := (place_off (s := s) (W := W) ht (show k ≤ 1048576 by omega) (ways t s W k)).1
    rcases ho.new e with h1 | ⟨x, h1, h2, h3⟩
    · rcases ways_inv ht k (by omega) e with h4 | ⟨p, x, h4, h5, h6, h7⟩
      · exact .inl (h1.trans h4)
      · refine .inr ⟨p, x, by omega, h5, h6, ?_⟩
        rw [ways_same ht k (k + 1) (by omega) hk p (by omega)]
        exact h1.trans h7
    · refine .inr ⟨k, x, by omega, h1, h2, ?_⟩
      rw [ways_same ht k (k + 1) (by omega) hk k (Nat.le_refl _)]
      exact h3
theorem ways_byte (ht : t.good = true) {N p : Nat} (hN : N ≤ 1048576) (hp : p < N) : (ways t s W N (p + 1)).1 ≤ (ways t s W N p).1 + t.l := by
  rw [ways_same ht (p + 1) N (by omega) hN (p + 1) (Nat.le_refl _), ways_same ht p N (by omega) hN p (Nat.le_refl _)]
  exact (place_off ht (by omega) _).2.1
theorem ways_match (ht : t.good = true) {N p : Nat} (hN : N ≤ 1048576) (hp : p < N) {n d : Nat} (h1 : 2 ≤ n) (h2 : 1 ≤ d) (h3 : d ≤ p) (h4 : (d : Int) ≤ W) (h5 : n ≤ mat (bt s) p (p - d) 0 (lim s p)) : (ways t s W N (p + n)).1 ≤ (ways t s W N p).1 + t.cost n d := by
  rw [ways_same ht p N (by omega) hN p (Nat.le_refl _)]
  exact Int.le_trans (ways_less ht (p + 1) N (by omega) hN (p + n)) ((place_off ht (by omega) _).2.2 n d h1 h2 h3 h4 h5)
/-- Each way ends in a piece that may be. -/
theorem ways_end (ht : t.good = true) {N e : Nat} (hN : N ≤ 1048576) (he : 1 ≤ e) (heN : e ≤ N) : ∃ x, Ok s W (e - size1 x) x ∧ size1 x ≤ e ∧ ways t s W N e = ((ways t s W N (e - size1 x)).1 + pr t x, x) := by
  rcases ways_inv (s := s) (W := W) ht N hN e with h1 | ⟨p, x, h1, h2, h3, h4⟩
  · refine ⟨(0, 0), .inl rfl, he, ?_⟩
    obtain ⟨k, rfl⟩ : ∃ k, e = k + 1 := ⟨e - 1, by omega⟩
    have a1 := ways_byte (s := s) (W := W) ht hN (show k < N by omega)
    have a2 := ways_less (s := s) (W := W) ht 0 N (Nat.zero_le _) hN k
    have a3 : (ways t s W 0 k).1 = (k : Int) * t.l := rfl
    rw [h1] at a1 ⊢
    have e1 : (((k + 1 : Nat) : Int)) * t.l = (k : Int) * t.l + t.l := by rw [show ((k + 1 : Nat) : Int) = (k : Int) + 1 from by omega, Int.add_mul, Int.one_mul]
    simp only at a1
    rw [e1] at a1
    have e2 : (ways t s W N k).1 = (k : Int) * t.l := by omega
    show (((k + 1 : Nat) : Int) * t.l, 0, 0) = ((ways t s W N (k + 1 - 1)).1 + pr t (0, 0), (0, 0))
    rw [e1, Nat.add_sub_cancel, e2]
    rfl
  · have hs : e - size1 x = p := by omega
    refine ⟨x, by rw [hs]; exact h2, by omega, by rw [hs]; exact h4⟩
end
/-- The least price at i, by matches of 2 to k + 1 bytes from so far back. -/
def bestN (t : Tb) (L : Nat → Int) (i d : Nat) : Nat → Int → Int
  | 0, b => b
  | k + 1, b => if t.cost (k + 2 : Nat) d + L (i + (k + 2)) < bestN t L i d k b then t.cost (k + 2 : Nat) d + L (i + (k + 2)) else bestN t L i d k b
/-- By matches from 1 to k back. -/
def bestD (t : Tb) (s : ByteArray) (L : Nat → Int) (i : Nat) : Nat → Int → Int
  | 0, b => b
  | k + 1, b => bestN t L i (k + 1) (mat (bt s) i (i - (k + 1)) 0 (lim s i) - 1) (bestD t s L i k b)
def dmax (W : Int) (i : Nat) : Nat := min i W.toNat
/-- The least prices of the last k places, from the end. -/
def least (t : Tb) (s : ByteArray) (W : Int) : Nat → (Nat → Int)
  | 0 => fun _ => 0
  | k + 1 => fun j => if j = s.size - (k + 1) then bestD t s (least t s W k) j (dmax W j) (t.l + least t s W k (j + 1)) else least t s W k j
section
variable {t : Tb} {s : ByteArray} {W : Int} {L : Nat → Int} {i : Nat}
theorem bestN_le {d : Nat} : ∀ (k : Nat) (b : Int), bestN t L i d k b ≤ b ∧ ∀ n, 2 ≤ n → n ≤ k + 1 → bestN t L i d k b ≤ t.cost n d + L (i + n)
  | 0, b => ⟨Int.le_refl _, fun n h1 h2 => by omega⟩
  | k + 1, b => by
    obtain ⟨h1, h2⟩ := bestN_le (d := d) k b
    rw [bestN]
    split
    · rename_i h3
      refine ⟨by omega, fun n a1 a2 => ?_⟩
      by_cases e : n = k + 2
      · subst e; exact Int.le_refl _
      · have := h2 n a1 (by omega); omega
    · rename_i h3
      refine ⟨h1, fun n a1 a2 => ?_⟩
      by_cases e : n = k + 2
      · subst e; omega
      · exact h2 n a1 (by omega)
theorem bestN_is {d : Nat} : ∀ (k : Nat) (b : Int), bestN t L i d k b = b ∨ ∃ n, 2 ≤ n ∧ n ≤ k + 1 ∧ bestN t L i d k b = t.cost n d + L (i + n)
  | 0, b => .inl rfl
  | k + 1, b => by
    rw [bestN]
    split
    · exact .inr ⟨k + 2, by omega, by omega, rfl⟩
    · rcases bestN_is (d := d) k b with h | ⟨n, a1, a2, a3⟩
      · exact .inl h
      · exact .inr ⟨n, a1, by omega, a3⟩
theorem bestD_le : ∀ (k : Nat) (b : Int), bestD t s L i k b ≤ b ∧ ∀ d n, 1 ≤ d → d ≤ k → 2 ≤ n → n ≤ mat (bt s) i (i - d) 0 (lim s i) → bestD t s L i k b ≤ t.cost n d + L (i + n)
  | 0, b => ⟨Int.le_refl _, fun d n h1 h2 => by omega⟩
  | k + 1, b => by
    obtain ⟨h1, h2⟩ := bestD_le k b
    rw [bestD]
    obtain ⟨g1, g2⟩ := bestN_le (t := t) (L := L) (i := i) (d := k + 1) (mat (bt s) i (i - (k + 1)) 0 (lim s i) - 1) (bestD t s L i k b)
    refine ⟨Int.le_trans g1 h1, fun d n a1 a2 a3 a4 => ?_⟩
    by_cases e : d = k + 1
    · subst e; exact g2 n a3 (by omega)
    · exact Int.le_trans g1 (h2 d n a1 (by omega) a3 a4)
theorem bestD_is : ∀ (k : Nat) (b : Int), bestD t s L i k b = b ∨ ∃ d n, 1 ≤ d ∧ d ≤ k ∧ 2 ≤ n ∧ n ≤ mat (bt s) i (i - d) 0 (lim s i) ∧ bestD t s L i k b = t.cost n d + L (i + n)
  | 0, b => .inl rfl
  | k + 1, b => by
    rw [bestD]
    rcases bestN_is (t := t) (L := L) (i := i) (d := k + 1) (mat (bt s) i (i - (k + 1)) 0 (lim s i) - 1) (bestD t s L i k b) with h | ⟨n, a1, a2, a3⟩
    · rw [h]
      rcases bestD_is k b with h | ⟨d, n, a1, a2, a3⟩
      · exact .inl h
      · exact .inr ⟨d, n, a1, by omega, a3⟩
    · exact .inr ⟨k + 1, n, by omega, Nat.le_refl _, a1, by omega, a3⟩
theorem least_same (k : Nat) : ∀ m, k ≤ m → m ≤ s.size → ∀ j, s.size - k ≤ j → least t s W m j = least t s W k j
  | 0, hk, _, j, hj => by obtain rfl : k = 0 := by omega
                          rfl
  | m + 1, hk, hm, j, hj => by
    by_cases h1 : k = m + 1
    · subst h1; rfl
    · rw [least]
      dsimp only
      rw [if_neg (by omega)]
      exact least_same k m (by omega) (by omega) j hj
theorem least_at (hi : i < s.size) : least t s W s.size i = bestD t s (least t s W (s.size - 1 - i)) i (dmax W i) (t.l + least t s W (s.size - 1 - i) (i + 1)) := by
  rw [least_same (s.size - 1 - i + 1) s.size (by omega) (Nat.le_refl _) i (by omega), least]
  dsimp only
  rw [if_pos (by omega)]
theorem least_later {j : Nat} (hi : i < s.size) (hj : i < j) : least t s W (s.size - 1 - i) j = least t s W s.size j := (least_same (s.size - 1 - i) s.size (by omega) (Nat.le_refl _) j (by omega)).symm
theorem least_piece (hi : i < s.size) {x : Nat × Nat} (hx : Ok s W i x) : least t s W s.size i ≤ pr t x + least t s W s.size (i + size1 x) := by
  rw [least_at hi]
  obtain ⟨h1, h2⟩ := bestD_le (t := t) (s := s) (L := least t s W (s.size - 1 - i)) (i := i) (dmax W i) (t.l + least t s W (s.size - 1 - i) (i + 1))
  rcases hx with rfl | ⟨a1, a2, a3, a4, a5⟩
  · rw [least_later hi (show i < i + 1 by omega)] at h1
    rw [least_later hi (show i < i + 1 by omega)]
    exact h1
  · have := h2 x.2 x.1 a2 (by unfold dmax; omega) a1 a5
    rw [least_later hi (show i < i + x.1 by omega)] at this
    rw [show x = (x.1, x.2) from rfl, size1_n (by omega), pr_n (by omega)]
    exact this
theorem least_is (hi : i < s.size) : ∃ x, Ok s W i x ∧ i + size1 x ≤ s.size ∧ least t s W s.size i = pr t x + least t s W s.size (i + size1 x) := by
  rw [least_at hi]
  rcases bestD_is (t := t) (s := s) (L := least t s W (s.size - 1 - i)) (i := i) (dmax W i) (t.l + least t s W (s.size - 1 - i) (i + 1)) with h | ⟨d, n, a1, a2, a3, a4, a5⟩
  · refine ⟨(0, 0), .inl rfl, by show i + 1 ≤ _; omega, ?_⟩
    rw [h, least_later hi (show i < i + 1 by omega)]
    rfl
  · have hm := mat_le (bt s) i (i - d) (lim s i) 0
    have hl : lim s i ≤ s.size - i := by unfold lim; omega
    unfold dmax at a2
    refine ⟨(n, d), .inr ⟨a3, a1, by simp only; omega, by simp only; omega, a4⟩, by rw [size1_n (by omega)]; omega, ?_⟩
    rw [a5, size1_n (by omega), pr_n (by omega), least_later hi (show i < i + n by omega)]
end
section
variable {t : Tb} {s : ByteArray} {W : Int}
theorem Ok.fit {p : Nat} {x : Nat × Nat} (h : Ok s W p x) (hp : p < s.size) : p + size1 x ≤ s.size := by
  rcases h with rfl | ⟨a1, a2, a3, a4, a5⟩
  · show p + 1 ≤ _; omega
  · have hm := mat_le (bt s) p (p - x.2) (lim s p) 0
    have hl : lim s p ≤ s.size - p := by unfold lim; omega
    rw [show x = (x.1, x.2) from rfl, size1_n (by omega)]
    omega
theorem least_low (ht : t.good = true) (hs : s.size ≤ 1048576) : ∀ (n e : Nat), e ≤ n → e ≤ s.size → least t s W s.size 0 ≤ (ways t s W s.size e).1 + least t s W s.size e
  | 0, e, h1, h2 => by
    obtain rfl : e = 0 := by omega
    rw [ways_zero ht _ hs]
    omega
  | n + 1, e, h1, h2 => by
    by_cases h0 : e = 0
    · subst h0
      rw [ways_zero ht _ hs]
      omega
    · obtain ⟨x, hx, hxe, hw⟩ := ways_end (s := s) (W := W) ht hs (show 1 ≤ e by omega) h2
      have hpos := hx.pos
      have ih := least_low ht hs n (e - size1 x) (by omega) (by omega)
      have hl := least_piece (t := t) (show e - size1 x < s.size by omega) hx
      rw [show e - size1 x + size1 x = e from by omega] at hl
      rw [hw]
      simp only
      omega
end
/-- The packets, from the last one on. -/
def backK (F : Nat → Wy) (s : ByteArray) : Nat → Nat → List Pt
  | 0, _ => []
  | k + 1, e => if 0 < e then pktB (bt s (e - size1 (F e).2)) (F e).2 :: backK F s k (e - size1 (F e).2) else []
/-- What Plain finds. -/
def plainL (t : Tb) (s : ByteArray) (W : Int) : List Pt := (backK (ways t s W s.size) s s.size s.size).reverse
section
variable {t : Tb} {s : ByteArray} {W : Int}
theorem go_append (t : Tb) (p : Pt) : ∀ (l : List Pt) (a : Int), t.go a (l ++ [p]) = match t.go a l with
    | none => none
    | some c => match t.pt p with
      | none => none
      | some x => some (c + x)
  | [], a => by
    rw [List.nil_append, Tb.go, Tb.go]
    cases t.pt p <;> rfl
  | q :: l, a => by
    rw [List.cons_append, Tb.go, Tb.go]
    cases t.pt q with
    | none => rfl
    | some c => exact go_append t p l (a + c)
theorem pt_pktB (t : Tb) (b : Nat) (x : Nat × Nat) : t.pt (pktB b x) = some (pr t x) := by
  unfold pktB pr Tb.pt
  by_cases h : x = (0, 0)
  · simp [h]
  · simp [h]
structure Good (t : Tb) (s : ByteArray) (W : Int) (e : Nat) (l : List Pt) : Prop where
  tells : ∃ r, Tells l.reverse (s.data.toList.take e) r
  cost : t.go 0 l.reverse = some (ways t s W s.size e).1
  each : ∀ q ∈ l, q.b < 256 ∧ 0 ≤ q.d ∧ q.d ≤ 1048576 ∧ (q.k = 2 → q.d ≤ W)
  len : l.length ≤ e
theorem back_good (ht : t.good = true) (hs : s.size ≤ 1048576) (k : Nat) : ∀ e, e ≤ k → e ≤ s.size → Good t s W e (backK (ways t s W s.size) s k e) := by
  induction k with
  | zero =>
    intro e he _
    obtain rfl : e = 0 := by omega
    exact ⟨⟨_, tells_nil⟩, by rw [ways_zero ht _ hs]; rfl, (fun q hq => by cases hq), Nat.le_refl _⟩
  | succ k ih =>
    intro e he hes
    rw [backK]
    by_cases h0 : 0 < e
    · rw [if_pos h0]
      obtain ⟨x, hx, hxe, hw⟩ := ways_end (s := s) (W := W) ht hs (show 1 ≤ e by omega) hes
      have hx2 : (ways t s W s.size e).2 = x := by rw [hw]
      rw [hx2]
      have hpos := hx.pos
      obtain ⟨⟨r, h1⟩, h2, h3, h4⟩ := ih (e - size1 x) (by omega) (by omega)
      have hsz : s.data.toList.length = s.size := by rw [Array.length_toList]; rfl
      generalize backK (ways t s W s.size) s k (e - size1 x) = l at *
      refine ⟨?_, ?_, ?_, by simp only [List.length_cons]; omega⟩
      · rw [List.reverse_cons]
        rcases hx with rfl | ⟨a1, a2, a3, a4, a5⟩
        · have e1 : size1 (0, 0) = 1 := rfl
          rw [e1] at h1 ⊢
          have := h1.lit (bt s (e - 1))
          rw [← bt_at (show e - 1 < s.size by omega), UInt8.ofNat_toNat, ← take_snoc s (e - 1) (by omega), show e - 1 + 1 = e from by omega, bt_at (show e - 1 < s.size by omega)] at this
          exact ⟨r, this⟩
        · have hz : size1 x = x.1 := by rw [show x = (x.1, x.2) from rfl, size1_n (by omega)]
          rw [hz] at h1 a3 a5 hxe hpos h4 ⊢
          have hm := mat_le (bt s) (e - x.1) (e - x.1 - x.2) (lim s (e - x.1)) 0
          have hl : lim s (e - x.1) ≤ 273 := by unfold lim; omega
          have := h1.copy x.2 x.1 a2 (by rw [List.length_take, hsz]; omega) (by omega) (by omega) (by omega)
          rw [copied_take a2 a3 x.1 (by omega) (fun j hj => by
            have := mat_same (bt s) (e - x.1) (e - x.1 - x.2) (lim s (e - x.1)) 0 j (Nat.zero_le _) (by omega)
            rw [this]; congr 1; omega), show e - x.1 + x.1 = e from by omega] at this
          have hp : pktB (bt s (e - x.1)) x = ⟨2, (x.2 : Int), (x.1 : Int), 0⟩ := by
            unfold pktB
            rw [if_neg (fun e => by rw [e] at a1; simp at a1)]
          rw [hp]
          exact ⟨_, this⟩
      · rw [List.reverse_cons, go_append, h2, pt_pktB, hw]
      · intro q hq
        rcases List.mem_cons.1 hq with rfl | hq
        · unfold pktB
          rcases hx with rfl | ⟨a1, a2, a3, a4, a5⟩
          · rw [if_pos rfl]
            exact ⟨bt_lt _ _, by simp, by simp, by simp⟩
          · rw [if_neg (fun e => by rw [e] at a1; simp at a1)]
            exact ⟨by simp, by simp only; omega, by simp only; omega, fun _ => a4⟩
        · exact h3 q hq
    · obtain rfl : e = 0 := by omega
      rw [if_neg (by omega)]
      exact ⟨⟨_, tells_nil⟩, by rw [ways_zero ht _ hs]; rfl, (fun q hq => by cases hq), Nat.le_refl _⟩
end
end Go.Proofs.YtoneghmahdjgbaaGreat.Om
