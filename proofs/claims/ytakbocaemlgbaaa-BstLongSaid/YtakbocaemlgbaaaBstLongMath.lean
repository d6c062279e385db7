/-
  Plain mathematics of the statement BstLong: in a text that goes round the whole rest is found.
-/
import Derived.Test.YtakbocaemlgbaaaBstNext
namespace Go.Proofs.Ytakbocaemlgbaaa.Bs
open Go.RowKit Go.Maps
open Mt
open Ch (bt bt_at bt_lt)
theorem allL_last (b : Nat → Nat) (p most q : Nat) (W : Int) (hq : q < p) (hm : mat b p q 0 most = most) (hW : ((p - q : Nat) : Int) ≤ W) :
    ∀ (x best : Nat), q < x → x ≤ p → best < most → ∃ l d, allL b p most W x best = l ++ [(most, d)] ∧ d ≤ p - q
  | 0, _, h, _, _ => by omega
  | x + 1, best, h, hx, hb => by
    have hle := mat_le b p x most 0
    rw [allL, if_pos (by omega)]
    by_cases hn : best < mat b p x 0 most
    · rw [if_pos hn]
      by_cases he : mat b p x 0 most = most
      · rw [he, allL_none b p most W x most (Nat.le_refl _)]
        exact ⟨[], p - x, rfl, by omega⟩
      · have hxq : x ≠ q := by rintro rfl; exact he hm
        obtain ⟨l, d, h1, h2⟩ := allL_last b p most q W hq hm hW x (mat b p x 0 most) (by omega) (by omega) (by omega)
        exact ⟨_ :: l, d, by rw [h1]; rfl, h2⟩
    · rw [if_neg hn]
      have hxq : x ≠ q := by rintro rfl; omega
      exact allL_last b p most q W hq hm hW x best (by omega) (by omega) hb
/-- The text goes round with the round u. -/
def Round (u t : ByteArray) : Prop := ∀ j, j < t.size → bt t j = bt u (j % u.size)
theorem mat_all {b : Nat → Nat} {p q : Nat} : ∀ (k n : Nat), (∀ j, n ≤ j → j < n + k → b (p + j) = b (q + j)) → mat b p q n k = n + k
  | 0, n, _ => rfl
  | k + 1, n, h => by
    rw [mat, if_pos (h n (Nat.le_refl _) (by omega)), mat_all k (n + 1) (fun j h1 h2 => h j (by omega) (by omega))]
    omega
theorem long_found {u t : ByteArray} (hr : Round u t) (hu : 0 < u.size) {p : Nat} (hp : u.size ≤ p) (h2 : 2 ≤ lim t p) (hu8 : u.size ≤ 8) :
    ∃ l d, bstL t 1048576 p = l ++ [(lim t p, d)] ∧ d ≤ u.size := by
  have hm : mat (bt t) p (p - u.size) 0 (lim t p) = lim t p := by
    rw [mat_all _ 0 ?_, Nat.zero_add]
    intro j _ hj
    have h1 : p + j < t.size := by unfold lim at hj; omega
    rw [hr _ h1, hr _ (by omega), show p + j = p - u.size + j + u.size from by omega, Nat.add_mod_right]
  obtain ⟨l, d, e, h⟩ := allL_last (bt t) p (lim t p) (p - u.size) 1048576 (by omega) hm (by omega) p 1 (by omega) (Nat.le_refl _) (by omega)
  exact ⟨l, d, e, by omega⟩
theorem bt_append {t e : ByteArray} {j : Nat} (h : j < t.size) : bt (t ++ e) j = bt t j := by
  have hs : j < (t ++ e).size := by simp; omega
  rw [← bt_at hs, ← bt_at h, ByteArray.getElem_append_left h]
theorem bt_append_one {t u : ByteArray} {k : Nat} (h : k < u.size) : bt (t ++ u.extract k (k + 1)) t.size = bt u k ∧ (t ++ u.extract k (k + 1)).size = t.size + 1 := by
  have he : (u.extract k (k + 1)).size = 1 := by simp; omega
  have hs : t.size < (t ++ u.extract k (k + 1)).size := by simp; omega
  refine ⟨?_, by rw [ByteArray.size_append, he]⟩
  rw [← bt_at hs, ← bt_at h, ByteArray.getElem_append_right (by omega), ByteArray.getElem_extract]
  simp
theorem Round.grow {u t : ByteArray} (h : Round u t) (hu : 0 < u.size) : Round u (t ++ u.extract (t.size % u.size) (t.size % u.size + 1)) := by
  have hk := Nat.mod_lt t.size hu
  obtain ⟨h1, h2⟩ := bt_append_one (t := t) hk
  intro j hj
  rw [h2] at hj
  by_cases e : j = t.size
  · subst e; rw [h1]
  · rw [bt_append (by omega)]
    exact h j (by omega)
end Go.Proofs.Ytakbocaemlgbaaa.Bs
