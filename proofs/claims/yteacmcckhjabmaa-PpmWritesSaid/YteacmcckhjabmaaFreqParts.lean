/-
  Plain mathematics of layer 5: the part of a sign beside those that it can't be. No program is named here.
-/
import Derived.Test.YteacmcckhjabmaaFreqMath
import Derived.Test.YteacmcckhjabmaaBase
namespace Go.Proofs.Yteacmcckhjabmaa.Fq
open Rc (Enc Dec)
/-- The entries that count. -/
def allow (N : Nat → Bool) (l : List (Nat × Nat)) : List (Nat × Nat) := l.filter fun x => !N x.1
def total : List (Nat × Nat) → Nat
  | [] => 0
  | x :: l => x.2 + total l
theorem total_append (l k : List (Nat × Nat)) : total (l ++ k) = total l + total k := by
  induction l with
  | nil => simp [total]
  | cons x l ih => simp only [List.cons_append, total, ih]; omega
def noneOf (N : Nat → Bool) (l : List (Nat × Nat)) : Nat := max (allow N l).length 1
def allOf (N : Nat → Bool) (l : List (Nat × Nat)) : Nat := total (allow N l) + noneOf N l
/-- Where a sign's part begins, and how great it is; none, where it has none. -/
def partOf (N : Nat → Bool) (s : Nat) : List (Nat × Nat) → Nat → Option (Nat × Nat)
  | [], _ => none
  | x :: l, st => if N x.1 then partOf N s l st else if x.1 = s then some (st, x.2) else partOf N s l (st + x.2)
/-- The sign whose part holds a place. -/
def signOf (N : Nat → Bool) (wh : Nat) : List (Nat × Nat) → Nat → Option (Nat × Nat × Nat)
  | [], _ => none
  | x :: l, st => if N x.1 then signOf N wh l st else if wh < st + x.2 then some (x.1, st, x.2) else signOf N wh l (st + x.2)
theorem allow_cons (N : Nat → Bool) (x : Nat × Nat) (l : List (Nat × Nat)) : allow N (x :: l) = if N x.1 then allow N l else x :: allow N l := by
  unfold allow
  rw [List.filter_cons]
  cases N x.1 <;> simp
theorem allow_snoc (N : Nat → Bool) (l : List (Nat × Nat)) (x : Nat × Nat) : allow N (l ++ [x]) = if N x.1 then allow N l else allow N l ++ [x] := by
  unfold allow
  rw [List.filter_append]
  cases h : N x.1 <;> simp [h]
theorem take_next (l : List (Nat × Nat)) (k : Nat) (hk : k < l.length) : l.take (k + 1) = l.take k ++ [at' l k] := by
  rw [List.take_succ_eq_append_getElem hk]; simp [at', List.getD, hk]
theorem drop_next (l : List (Nat × Nat)) (k : Nat) (hk : k < l.length) : l.drop k = at' l k :: l.drop (k + 1) := by
  rw [List.drop_eq_getElem_cons hk]; simp [at', List.getD, hk]
theorem total_le {b : Nat} {l : List (Nat × Nat)} (h : Tab b l) : total l ≤ b * l.length := by
  induction l with
  | nil => simp [total]
  | cons x l ih =>
    have h1 := (h x (by simp)).2.2
    have h2 := ih (fun y hy => h y (List.mem_cons_of_mem _ hy))
    show x.2 + total l ≤ _
    rw [List.length_cons, Nat.mul_add]; omega
theorem tab_allow {b : Nat} {l : List (Nat × Nat)} (N : Nat → Bool) (h : Tab b l) : Tab b (allow N l) := fun x hx => h x (List.mem_filter.1 hx).1
theorem tab_take {b : Nat} {l : List (Nat × Nat)} (k : Nat) (h : Tab b l) : Tab b (l.take k) := fun x hx => h x (List.mem_of_mem_take hx)
theorem allow_length (N : Nat → Bool) (l : List (Nat × Nat)) : (allow N l).length ≤ l.length := List.length_filter_le _ _
theorem all_le {l : List (Nat × Nat)} (N : Nat → Bool) (h : Tab 120 l) (hl : l.length ≤ 541) : allOf N l ≤ 65536 := by
  have h1 := total_le (tab_allow N h)
  have h2 := allow_length N l
  unfold allOf noneOf
  have h3 : 120 * (allow N l).length ≤ 120 * l.length := Nat.mul_le_mul_left _ h2
  omega
theorem sum_take {l : List (Nat × Nat)} (N : Nat → Bool) (h : Tab 120 l) (k : Nat) : total (allow N (l.take k)) ≤ 120 * l.length ∧ (allow N (l.take k)).length ≤ l.length := by
  have h1 := total_le (tab_allow N (tab_take k h))
  have h2 := allow_length N (l.take k)
  have h3 : (l.take k).length ≤ l.length := by rw [List.length_take]; omega
  have h4 : 120 * (allow N (l.take k)).length ≤ 120 * l.length := Nat.mul_le_mul_left _ (by omega)
  exact ⟨by omega, by omega⟩
theorem part_bound (N : Nat → Bool) (s : Nat) {b : Nat} : ∀ (l : List (Nat × Nat)) (st a n : Nat), Tab b l → partOf N s l st = some (a, n) → st ≤ a ∧ 1 ≤ n ∧ a + n ≤ st + total (allow N l)
  | [], _, _, _, _, h => by simp [partOf] at h
  | x :: l, st, a, n, ht, h => by
    have hx := ht x (by simp)
    have ht' : Tab b l := fun y hy => ht y (List.mem_cons_of_mem _ hy)
    unfold partOf at h
    rw [allow_cons]
    cases hN : N x.1 with
    | true => rw [hN, if_pos rfl] at h; rw [if_pos rfl]; exact part_bound N s l st a n ht' h
    | false =>
      rw [hN, if_neg (by simp)] at h
      rw [if_neg (by simp)]
      show st ≤ a ∧ 1 ≤ n ∧ a + n ≤ st + (x.2 + total (allow N l))
      by_cases he : x.1 = s
      · rw [if_pos he] at h
        simp only [Option.some.injEq, Prod.mk.injEq] at h
        omega
      · rw [if_neg he] at h
        have := part_bound N s l (st + x.2) a n ht' h
        omega
theorem sign_bound (N : Nat → Bool) (wh : Nat) {b : Nat} : ∀ (l : List (Nat × Nat)) (st s a n : Nat), Tab b l → signOf N wh l st = some (s, a, n) → st ≤ a ∧ 1 ≤ n ∧ a + n ≤ st + total (allow N l) ∧ s < 256
  | [], _, _, _, _, _, h => by simp [signOf] at h
  | x :: l, st, s, a, n, ht, h => by
    have hx := ht x (by simp)
    have ht' : Tab b l := fun y hy => ht y (List.mem_cons_of_mem _ hy)
    unfold signOf at h
    rw [allow_cons]
    cases hN : N x.1 with
    | true => rw [hN, if_pos rfl] at h; rw [if_pos rfl]; exact sign_bound N wh l st s a n ht' h
    | false =>
      rw [hN, if_neg (by simp)] at h
      rw [if_neg (by simp)]
      show st ≤ a ∧ 1 ≤ n ∧ a + n ≤ st + (x.2 + total (allow N l)) ∧ s < 256
      by_cases he : wh < st + x.2
      · rw [if_pos he] at h
        simp only [Option.some.injEq, Prod.mk.injEq] at h
        omega
      · rw [if_neg he] at h
        have := sign_bound N wh l (st + x.2) s a n ht' h
        omega
/-- A sign is put: the encoder, and whether it was one of the table's. -/
def putE (e : Enc) (l : List (Nat × Nat)) (N : Nat → Bool) (s : Nat) : Enc × Bool :=
  match partOf N s l 0 with
  | some (a, n) => (e.part a n (allOf N l), true)
  | none => (e.part (total (allow N l)) (noneOf N l) (allOf N l), false)
/-- A sign is got: the decoder, the sign, and whether it is one of the table's. -/
def getD (d : Dec) (l : List (Nat × Nat)) (N : Nat → Bool) : Dec × Nat × Bool :=
  match signOf N (d.whereIn (allOf N l)) l 0 with
  | some (s, a, n) => (d.take a n (allOf N l), s, true)
  | none => (d.take (total (allow N l)) (noneOf N l) (allOf N l), 0, false)
end Go.Proofs.Yteacmcckhjabmaa.Fq
