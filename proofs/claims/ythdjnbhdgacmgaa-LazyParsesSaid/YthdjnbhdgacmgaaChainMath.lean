/-
  Plain mathematics of layers 7 and 8: how many bytes match, which places begin alike, and what a chain finds. (A text is a function b from places to bytes.)
-/
import Init
namespace Go.Proofs.Ythdjnbhdgacmgaa.Mt
/-- How many bytes match at the places p and q, if n do, and at most k more are looked at. -/
def mat (b : Nat → Nat) (p q : Nat) : Nat → Nat → Nat
  | n, 0 => n
  | n, k + 1 => if b (p + n) = b (q + n) then mat b p q (n + 1) k else n
theorem mat_ge (b : Nat → Nat) (p q : Nat) : ∀ (k n : Nat), n ≤ mat b p q n k
  | 0, n => Nat.le_refl _
  | k + 1, n => by
    rw [mat]
    split
    · have := mat_ge b p q k (n + 1); omega
    · exact Nat.le_refl _
theorem mat_le (b : Nat → Nat) (p q : Nat) : ∀ (k n : Nat), mat b p q n k ≤ n + k
  | 0, n => Nat.le_refl _
  | k + 1, n => by
    rw [mat]
    split
    · have := mat_le b p q k (n + 1); omega
    · omega
theorem mat_same (b : Nat → Nat) (p q : Nat) : ∀ (k n j : Nat), n ≤ j → j < mat b p q n k → b (p + j) = b (q + j)
  | 0, n, j, h1, h2 => by rw [mat] at h2; omega
  | k + 1, n, j, h1, h2 => by
    rw [mat] at h2
    split at h2
    · rename_i e
      by_cases hj : j = n
      · subst hj; exact e
      · exact mat_same b p q k (n + 1) j (by omega) h2
    · omega
theorem mat_stop (b : Nat → Nat) (p q : Nat) : ∀ (k n i : Nat), n ≤ i → i < n + k → b (p + i) ≠ b (q + i) → mat b p q n k ≤ i
  | 0, n, i, h1, h2, h => by omega
  | k + 1, n, i, h1, h2, h => by
    rw [mat]
    split
    · rename_i e
      by_cases hi : i = n
      · subst hi; exact absurd e h
      · exact mat_stop b p q k (n + 1) i (by omega) (by omega) h
    · exact h1
/-- All up to a place are the same: so many match at least. -/
theorem mat_reach (b : Nat → Nat) (p q : Nat) : ∀ (k n i : Nat), i ≤ n + k → (∀ j, n ≤ j → j < i → b (p + j) = b (q + j)) → i ≤ mat b p q n k ∨ i < n
  | 0, n, i, h1, h => by rw [mat]; omega
  | k + 1, n, i, h1, h => by
    by_cases hi : i < n
    · exact .inr hi
    · left
      rw [mat]
      by_cases hn : i = n
      · subst hn
        split
        · have := mat_ge b p q k (i + 1); omega
        · exact Nat.le_refl _
      · rw [if_pos (h n (Nat.le_refl _) (by omega))]
        rcases mat_reach b p q k (n + 1) i (by omega) (fun j h1 h2 => h j (by omega) h2) with h' | h'
        · exact h'
        · omega
/-- Where they end short of the most, the next two bytes differ. -/
theorem mat_end (b : Nat → Nat) (p q : Nat) : ∀ (k n : Nat), mat b p q n k < n + k → b (p + mat b p q n k) ≠ b (q + mat b p q n k)
  | 0, n, h => by rw [mat] at h; omega
  | k + 1, n, h => by
    rw [mat] at h ⊢
    split at h
    · rename_i e
      rw [if_pos e]
      exact mat_end b p q k (n + 1) (by omega)
    · rename_i e
      rw [if_neg e]
      exact e
theorem mat_from (b : Nat → Nat) (p q : Nat) : ∀ (m n k : Nat), (∀ j, n ≤ j → j < n + m → b (p + j) = b (q + j)) → mat b p q n (m + k) = mat b p q (n + m) k
  | 0, n, k, _ => by simp
  | m + 1, n, k, h => by
    rw [show m + 1 + k = (m + k) + 1 from by omega, mat, if_pos (h n (Nat.le_refl _) (by omega)), mat_from b p q m (n + 1) k (fun j h1 h2 => h j (by omega) (by omega))]
    congr 1
    omega
/-- Do two places begin with the same three bytes? -/
def heads (b : Nat → Nat) (p q : Nat) : Bool := b p == b q && (b (p + 1) == b (q + 1) && b (p + 2) == b (q + 2))
theorem heads_iff {b : Nat → Nat} {p q : Nat} : heads b p q = true ↔ b p = b q ∧ b (p + 1) = b (q + 1) ∧ b (p + 2) = b (q + 2) := by simp [heads]
theorem heads_trans {b : Nat → Nat} {p q : Nat} (h : heads b p q = true) (r : Nat) : heads b p r = heads b q r := by
  obtain ⟨h1, h2, h3⟩ := heads_iff.1 h
  unfold heads
  rw [h1, h2, h3]
theorem heads_self (b : Nat → Nat) (p : Nat) : heads b p p = true := heads_iff.2 ⟨rfl, rfl, rfl⟩
/-- The last place below x that begins as p does; else -1. -/
def prevF (b : Nat → Nat) (p : Nat) : Nat → Int
  | 0 => -1
  | x + 1 => if heads b p x then (x : Int) else prevF b p x
theorem prevF_lt (b : Nat → Nat) (p : Nat) : ∀ x, prevF b p x < (x : Int) ∧ -1 ≤ prevF b p x
  | 0 => by simp [prevF]
  | x + 1 => by
    have := prevF_lt b p x
    rw [prevF]
    split <;> omega
theorem prevF_heads {b : Nat → Nat} {p q : Nat} (h : heads b p q = true) : ∀ x, prevF b p x = prevF b q x
  | 0 => rfl
  | x + 1 => by rw [prevF, prevF, heads_trans h x, prevF_heads h x]
theorem prevF_hit {b : Nat → Nat} {p : Nat} : ∀ {x : Nat} {q : Nat}, prevF b p x = (q : Int) → heads b p q = true ∧ q < x
  | 0, q, h => by simp [prevF] at h
  | x + 1, q, h => by
    rw [prevF] at h
    split at h
    · rename_i e
      have : x = q := by omega
      subst this
      exact ⟨e, by omega⟩
    · have := prevF_hit h
      exact ⟨this.1, by omega⟩
theorem prevF_none {b : Nat → Nat} {p : Nat} : ∀ {x : Nat}, prevF b p x = -1 → ∀ q, q < x → heads b p q = false
  | 0, _, q, h => by omega
  | x + 1, e, q, h => by
    rw [prevF] at e
    split at e
    · omega
    · rename_i hn
      by_cases hq : q = x
      · subst hq; simpa using hn
      · exact prevF_none e q (by omega)
/-- What the document's At finds at p, from the distance p - x on: x places are left. -/
def refL (b : Nat → Nat) (p most : Nat) (ok : Bool) (window cut : Int) : Nat → Nat → Nat → List (Nat × Nat)
  | 0, _, _ => []
  | x + 1, best, seen => if ((p - x : Nat) : Int) ≤ window ∧ (seen : Int) < cut then
      if ok = true ∧ heads b p x = true then
        if best < mat b p x 0 most then (mat b p x 0 most, p - x) :: refL b p most ok window cut x (mat b p x 0 most) (seen + 1) else refL b p most ok window cut x best (seen + 1)
      else refL b p most ok window cut x best seen
    else []
/-- What the chain finds at p, with k looks left, from the place at on. -/
def devL (b : Nat → Nat) (p most : Nat) (window : Int) : Nat → Int → Nat → List (Nat × Nat)
  | 0, _, _ => []
  | k + 1, at_, longest => if at_ = -1 ∨ window < (p : Int) - at_ ∨ longest = most then [] else
      if longest < mat b p at_.toNat 0 most then (mat b p at_.toNat 0 most, p - at_.toNat) :: devL b p most window k (prevF b at_.toNat at_.toNat) (mat b p at_.toNat 0 most)
      else devL b p most window k (prevF b at_.toNat at_.toNat) longest
theorem refL_no (b : Nat → Nat) (p most : Nat) (window cut : Int) : ∀ (x best seen : Nat), refL b p most false window cut x best seen = []
  | 0, _, _ => rfl
  | x + 1, best, seen => by
    rw [refL]
    split
    · rw [if_neg (by simp)]
      exact refL_no b p most window cut x best seen
    · rfl
theorem refL_full (b : Nat → Nat) (p most : Nat) (ok : Bool) (window cut : Int) : ∀ (x best seen : Nat), most ≤ best → refL b p most ok window cut x best seen = []
  | 0, _, _, _ => rfl
  | x + 1, best, seen, h => by
    have hm := mat_le b p x most 0
    rw [refL]
    split
    · split
      · rw [if_neg (by omega)]
        exact refL_full b p most ok window cut x best (seen + 1) h
      · exact refL_full b p most ok window cut x best seen h
    · rfl
theorem devL_none (b : Nat → Nat) (p most : Nat) (window : Int) (k longest : Nat) : devL b p most window k (-1) longest = [] := by
  cases k with
  | zero => rfl
  | succ k => rw [devL, if_pos (.inl rfl)]
theorem devL_far (b : Nat → Nat) (p most : Nat) (window : Int) (k longest : Nat) {at_ : Int} (h : window < (p : Int) - at_) : devL b p most window k at_ longest = [] := by
  cases k with
  | zero => rfl
  | succ k => rw [devL, if_pos (.inr (.inl h))]
/-- The chain finds what the document's At finds. -/
theorem dev_ref (b : Nat → Nat) (p most : Nat) (window cut : Int) : ∀ (x best seen : Nat), x ≤ p → best ≤ most → devL b p most window (cut - seen).toNat (prevF b p x) best = refL b p most true window cut x best seen
  | 0, best, seen, _, _ => by
    rw [prevF, refL]
    exact devL_none b p most window _ best
  | x + 1, best, seen, hx, hb => by
    have hm := mat_le b p x most 0
    have hl := prevF_lt b p x
    rw [prevF, refL]
    by_cases hh : heads b p x = true
    · rw [if_pos hh]
      by_cases hw : ((p - x : Nat) : Int) ≤ window ∧ (seen : Int) < cut
      · rw [if_pos hw, if_pos ⟨rfl, hh⟩]
        obtain ⟨k, hk⟩ : ∃ k, (cut - seen).toNat = k + 1 := ⟨(cut - seen).toNat - 1, by omega⟩
        have hk' : (cut - ((seen + 1 : Nat) : Int)).toNat = k := by omega
        rw [hk, devL]
        by_cases hf : best = most
        · rw [if_pos (.inr (.inr hf)), if_neg (by omega), refL_full b p most true window cut x best (seen + 1) (by omega)]
        · rw [if_neg (by rintro (h | h | h) <;> omega)]
          simp only [Int.toNat_natCast]
          rw [← prevF_heads hh x]
          split
          · rw [← dev_ref b p most window cut x _ (seen + 1) (by omega) (by omega), hk']
          · rw [← dev_ref b p most window cut x best (seen + 1) (by omega) hb, hk']
      · rw [if_neg hw]
        by_cases hc : (seen : Int) < cut
        · exact devL_far b p most window _ best (by omega)
        · have : (cut - (seen : Int)).toNat = 0 := by omega
          rw [this]
          rfl
    · rw [if_neg hh]
      by_cases hw : ((p - x : Nat) : Int) ≤ window ∧ (seen : Int) < cut
      · rw [if_pos hw, if_neg (by simp [hh])]
        exact dev_ref b p most window cut x best seen (by omega) hb
      · rw [if_neg hw]
        by_cases hc : (seen : Int) < cut
        · exact devL_far b p most window _ best (by omega)
        · have : (cut - (seen : Int)).toNat = 0 := by omega
          rw [this]
          rfl
/-- What is found rises, and is there. -/
def Rising (b : Nat → Nat) (p most : Nat) (window : Int) (n0 d0 : Nat) : List (Nat × Nat) → Prop
  | [] => True
  | x :: l => n0 < x.1 ∧ x.1 ≤ most ∧ d0 < x.2 ∧ x.2 ≤ p ∧ (x.2 : Int) ≤ window ∧ (∀ j, j < x.1 → b (p + j) = b (p + j - x.2)) ∧ Rising b p most window x.1 x.2 l
theorem Rising.mono {b : Nat → Nat} {p most : Nat} {window : Int} {n0 d0 n1 d1 : Nat} (hn : n1 ≤ n0) (hd : d1 ≤ d0) : ∀ {l : List (Nat × Nat)}, Rising b p most window n0 d0 l → Rising b p most window n1 d1 l
  | [], _ => trivial
  | x :: l, ⟨h1, h2, h3, h4⟩ => ⟨by omega, h2, by omega, h4⟩
theorem refL_rising (b : Nat → Nat) (p most : Nat) (ok : Bool) (window cut : Int) (hm : 2 < most) : ∀ (x best seen : Nat), x ≤ p → Rising b p most window (max best 2) (p - x) (refL b p most ok window cut x best seen)
  | 0, _, _, _ => trivial
  | x + 1, best, seen, hx => by
    have hl := mat_le b p x most 0
    have ih := fun best' seen' => refL_rising b p most ok window cut hm x best' seen' (by omega)
    rw [refL]
    split
    · rename_i hw
      split
      · rename_i hh
        have h3 : 3 ≤ mat b p x 0 most := by
          obtain ⟨e0, e1, e2⟩ := heads_iff.1 hh.2
          rcases mat_reach b p x most 0 3 (by omega) (fun j _ h => by
            have : j = 0 ∨ j = 1 ∨ j = 2 := by omega
            rcases this with rfl | rfl | rfl
            · exact e0
            · exact e1
            · exact e2) with h | h
          · exact h
          · omega
        split
        · rename_i hb
          refine ⟨by dsimp only; omega, by dsimp only; omega, by dsimp only; omega, by dsimp only; omega, by dsimp only; omega, fun j hj => ?_, ?_⟩
          · dsimp only at hj ⊢
            rw [mat_same b p x most 0 j (by omega) hj]
            congr 1
            omega
          · have := ih (mat b p x 0 most) (seen + 1)
            rw [show max (mat b p x 0 most) 2 = mat b p x 0 most from by omega] at this
            exact this
        · exact (ih best (seen + 1)).mono (by omega) (by omega)
      · exact (ih best seen).mono (by omega) (by omega)
    · trivial
theorem refL_cut (b : Nat → Nat) (p most : Nat) (ok : Bool) (window cut : Int) : ∀ (x best seen : Nat), (refL b p most ok window cut x best seen).length ≤ (cut - seen).toNat
  | 0, _, _ => by simp [refL]
  | x + 1, best, seen => by
    have i1 := fun n => refL_cut b p most ok window cut x n (seen + 1)
    have i2 := refL_cut b p most ok window cut x best seen
    rw [refL]
    split
    · split
      · split
        · have := i1 (mat b p x 0 most); simp only [List.length_cons]; omega
        · have := i1 best; omega
      · exact i2
    · simp
end Go.Proofs.Ythdjnbhdgacmgaa.Mt
