/-
  Package context, mathematics: contexts as numbers: the tables in cells, the steps from table to table, the last bytes, the cells of their tables; what each method makes of them.
-/
import Derived.Test.YteacmcckhjabmaaFreqParts
set_option linter.unusedVariables false
namespace Go.Proofs.Yteacmcckhjabmaa.Cx
open Fq
abbrev Tl := List (Nat × Nat)
structure Rw where
  order : Nat
  cells : Nat
  used : Nat
  rs : Nat
  K : Nat → Option Tl
  f : Nat → Nat → Option Nat
  hist : List Nat
  pth : List Nat
namespace Rw
/-- Has the table of the last k bytes such a sign? -/
def hasK (r : Rw) (s k : Nat) : Bool := match r.pth[k]? with
  | none => false
  | some i => match r.K i with
    | none => false
    | some l => hasB l s
/-- How many of n tables from a on haven't it. -/
def lacks (r : Rw) (s a : Nat) : Nat → Nat
  | 0 => 0
  | n + 1 => r.lacks s a n + if r.hasK s (a + n) then 0 else 1
def needs (r : Rw) (s a : Nat) : Nat := 2 * (r.hist.length + 1 - r.pth.length) + r.lacks s a (r.pth.length - a)
/-- A new table of the next of the last bytes. -/
def grow (r : Rw) : Rw :=
  ⟨r.order, r.cells, r.used + 1, r.rs, fun j => if j = r.used + 1 then some [] else r.K j,
    if r.pth.length = 0 then r.f else fun x y => if x = r.pth.getD (r.pth.length - 1) 0 ∧ y = r.hist.getD (r.hist.length - r.pth.length) 0 then some (r.used + 1) else r.f x y, r.hist, r.pth ++ [r.used + 1]⟩
def growN (r : Rw) : Nat → Rw
  | 0 => r
  | n + 1 => (r.growN n).grow
/-- A sign is added to the table of the last k bytes. -/
def addAt (r : Rw) (s k : Nat) : Rw := match r.pth[k]? with
  | none => r
  | some i => match r.K i with
    | none => r
    | some l => { r with used := r.used + (if hasB l s then 0 else 1), K := fun j => if j = i then some (addT l s) else r.K j }
def addN (r : Rw) (s a : Nat) : Nat → Rw
  | 0 => r
  | n + 1 => (r.addN s a n).addAt s (a + n)
def write (r : Rw) (s : Nat) : Rw := { r with hist := if r.order < r.hist.length + 1 then (r.hist ++ [s]).drop 1 else r.hist ++ [s] }
/-- The cells of the tables of more and more of the last bytes, as far as there are any. -/
def findL (f : Nat → Nat → Option Nat) (h : List Nat) : Nat → List Nat → List Nat
  | 0, p => p
  | n + 1, p => match f (p.getD (p.length - 1) 0) (h.getD (h.length - p.length) 0) with
    | none => p
    | some i => findL f h n (p ++ [i])
def refind (r : Rw) : Rw := { r with pth := findL r.f r.hist r.hist.length (r.pth.take 1) }
def forget (r : Rw) : Rw := { r with used := 0, K := fun _ => none, f := fun _ _ => none, hist := [], pth := [], rs := r.rs + 1 }
/-- Behind how many bytes it is learnt. -/
def start (r : Rw) (k : Int) : Nat := (max (min k ((r.pth.length : Int) - 1)) 0).toNat
def full (r : Rw) (s a : Nat) : Bool := decide (r.cells < r.used + r.needs s a)
def learn1 (r : Rw) (s a : Nat) : Rw := (((r.growN (r.hist.length + 1 - r.pth.length)).addN s a ((r.growN (r.hist.length + 1 - r.pth.length)).pth.length - a)).write s).refind
def learn (r : Rw) (s : Nat) (k : Int) : Rw := if r.full s (r.start k) then r.forget.learn1 s 0 else r.learn1 s (r.start k)
end Rw
/-- What a table may be. -/
def TOk (l : Tl) : Prop := Tab 120 l ∧ (l.map (·.1)).Nodup
structure Rw.Ok (r : Rw) : Prop where
  order : r.order ≤ 16
  cells : 64 ≤ r.cells ∧ r.cells ≤ 1048576
  used : r.used ≤ r.cells
  hist : r.hist.length ≤ r.order ∧ ∀ x ∈ r.hist, x < 256
  len : r.pth.length ≤ r.hist.length + 1
  pth : ∀ i ∈ r.pth, (r.K i).isSome = true
  tab : ∀ i l, r.K i = some l → 1 ≤ i ∧ i ≤ r.used ∧ TOk l
  f : ∀ x y i, r.f x y = some i → (r.K i).isSome = true
theorem tok_nil : TOk [] := ⟨(fun x hx => by cases hx), List.nodup_nil⟩
theorem find_mem : ∀ (l : Tl) (s : Nat), ¬ find l s < l.length → s ∉ l.map (·.1)
  | [], s, _ => by simp
  | x :: l, s, h => by
    unfold find at h
    split at h
    · simp at h
    · rename_i hx
      have := find_mem l s (by simp at h; omega)
      simp only [List.map_cons, List.mem_cons, not_or]
      exact ⟨fun e => hx (by simp [e]), this⟩
theorem map_more (l : Tl) (i : Nat) (hi : i < l.length) : (more l i).map (·.1) = l.map (·.1) := by
  unfold more
  rw [List.map_set]
  apply List.ext_getElem (by simp)
  intro j h1 h2
  rw [List.getElem_set]
  split
  · rename_i e
    subst e
    simp [at', List.getD_eq_getElem?_getD, List.getElem?_eq_getElem hi]
  · rfl
theorem map_halve (l : Tl) : (halve l).map (·.1) = l.map (·.1) := by
  unfold halve
  rw [List.map_map]
  rfl
theorem tok_add {l : Tl} (h : TOk l) {s : Nat} (hs : s < 256) : TOk (addT l s) := by
  refine ⟨tab_add h.1 hs, ?_⟩
  unfold addT
  split
  · rename_i hf
    split
    · rw [map_halve, map_more l _ hf]; exact h.2
    · rw [map_more l _ hf]; exact h.2
  · rename_i hf
    rw [List.map_append]
    refine List.nodup_append.2 ⟨h.2, by simp, fun a ha b hb => ?_⟩
    simp at hb
    subst hb
    exact fun e => find_mem l b hf (e ▸ ha)
theorem nodup_le : ∀ (n : Nat) (l : List Nat), l.Nodup → (∀ x ∈ l, x < n) → l.length ≤ n
  | 0, [], _, _ => Nat.le_refl _
  | 0, x :: l, _, h => by have := h x List.mem_cons_self; omega
  | n + 1, l, hn, h => by
    by_cases hm : n ∈ l
    · have h1 := nodup_le n (l.erase n) (hn.erase _) (fun x hx => by
        have h2 := (List.Nodup.mem_erase_iff hn).1 hx
        have h3 := h x h2.2
        have := h2.1
        omega)
      rw [List.length_erase_of_mem hm] at h1
      omega
    · have := nodup_le n l hn (fun x hx => by
        have h3 := h x hx
        have : x ≠ n := fun e => hm (e ▸ hx)
        omega)
      omega
theorem tok_len {l : Tl} (h : TOk l) : l.length ≤ 256 := by
  have := nodup_le 256 (l.map (·.1)) h.2 (fun x hx => by
    obtain ⟨y, hy, rfl⟩ := List.mem_map.1 hx
    exact (h.1 y hy).1)
  simpa using this
namespace Rw
variable {r : Rw}
theorem hasK_at {s k i : Nat} {l : Tl} (h1 : r.pth[k]? = some i) (h2 : r.K i = some l) : r.hasK s k = hasB l s := by
  unfold hasK
  rw [h1]
  dsimp only
  rw [h2]
theorem addAt_at {s k i : Nat} {l : Tl} (h1 : r.pth[k]? = some i) (h2 : r.K i = some l) : r.addAt s k = { r with used := r.used + (if hasB l s then 0 else 1), K := fun j => if j = i then some (addT l s) else r.K j } := by
  unfold addAt
  rw [h1]
  dsimp only
  rw [h2]
theorem Ok.at (h : r.Ok) {k : Nat} (hk : k < r.pth.length) : ∃ i l, r.pth[k]? = some i ∧ r.K i = some l := by
  have h1 := h.pth r.pth[k] (List.getElem_mem hk)
  exact ⟨r.pth[k], _, List.getElem?_eq_getElem hk, (Option.some_get h1).symm⟩
theorem lacks_le (r : Rw) (s a : Nat) : ∀ n, r.lacks s a n ≤ n
  | 0 => Nat.le_refl _
  | n + 1 => by
    have := lacks_le r s a n
    unfold lacks
    split <;> omega
theorem Ok.grow (h : r.Ok) (hl : r.pth.length ≤ r.hist.length) (hu : r.used < r.cells) : r.grow.Ok := by
  have hK : ∀ i, (r.K i).isSome = true → ((if i = r.used + 1 then some [] else r.K i) : Option Tl).isSome = true := by
    intro i hi
    split
    · rfl
    · exact hi
  refine ⟨h.order, h.cells, hu, h.hist, by show (r.pth ++ [_]).length ≤ _; simp; exact hl, ?_, ?_, ?_⟩
  · intro i hi
    rcases List.mem_append.1 hi with e | e
    · exact hK i (h.pth i e)
    · simp at e
      subst e
      show ((if r.used + 1 = r.used + 1 then some [] else r.K (r.used + 1)) : Option Tl).isSome = true
      rw [if_pos rfl]
      rfl
  · intro i l hi
    have hi2 : (if i = r.used + 1 then some [] else r.K i) = some l := hi
    split at hi2
    · rename_i e
      cases hi2
      exact ⟨by omega, by show i ≤ r.used + 1; omega, tok_nil⟩
    · have := h.tab i l hi2
      exact ⟨this.1, by show i ≤ r.used + 1; omega, this.2.2⟩
  · intro x y i hi
    show ((if i = r.used + 1 then some [] else r.K i) : Option Tl).isSome = true
    by_cases hp : r.pth.length = 0
    · have hi2 : r.f x y = some i := by
        have : r.grow.f x y = r.f x y := by unfold Rw.grow; dsimp only; rw [if_pos hp]
        rw [← this]; exact hi
      exact hK i (h.f x y i hi2)
    · have hi2 : (if x = r.pth.getD (r.pth.length - 1) 0 ∧ y = r.hist.getD (r.hist.length - r.pth.length) 0 then some (r.used + 1) else r.f x y) = some i := by
        have : r.grow.f x y = (if x = r.pth.getD (r.pth.length - 1) 0 ∧ y = r.hist.getD (r.hist.length - r.pth.length) 0 then some (r.used + 1) else r.f x y) := by unfold Rw.grow; simp only [if_neg hp]
        rw [← this]; exact hi
      split at hi2
      · cases hi2
        rw [if_pos rfl]
        rfl
      · exact hK i (h.f x y i hi2)
/-- So many more tables. -/
theorem growN_parts (r : Rw) : ∀ n, (r.growN n).used = r.used + n ∧ (r.growN n).hist = r.hist ∧ (r.growN n).pth.length = r.pth.length + n ∧ (r.growN n).cells = r.cells ∧ (r.growN n).order = r.order ∧ (r.growN n).rs = r.rs
  | 0 => ⟨rfl, rfl, rfl, rfl, rfl, rfl⟩
  | n + 1 => by
    obtain ⟨h1, h2, h3, h4, h5, h6⟩ := growN_parts r n
    exact ⟨by show (r.growN n).used + 1 = _; omega, h2, by show ((r.growN n).pth ++ [_]).length = _; simp; omega, h4, h5, h6⟩
theorem Ok.growN (h : r.Ok) : ∀ n, r.pth.length + n ≤ r.hist.length + 1 → r.used + n ≤ r.cells → (r.growN n).Ok
  | 0, _, _ => h
  | n + 1, h1, h2 => by
    obtain ⟨p1, p2, p3, p4, _⟩ := growN_parts r n
    exact Ok.grow (h.growN n (by omega) (by omega)) (by rw [p2]; omega) (by omega)
theorem Ok.addAt (h : r.Ok) {s : Nat} (hs : s < 256) (k : Nat) (hu : r.used + (if r.hasK s k then 0 else 1) ≤ r.cells) : (r.addAt s k).Ok := by
  by_cases hk : k < r.pth.length
  · obtain ⟨i, l, h1, h2⟩ := h.at hk
    rw [addAt_at h1 h2]
    rw [hasK_at h1 h2] at hu
    have hK : ∀ j, (r.K j).isSome = true → ((if j = i then some (addT l s) else r.K j) : Option Tl).isSome = true := by
      intro j hj
      split
      · rfl
      · exact hj
    have h3 := h.tab i l h2
    refine ⟨h.order, h.cells, hu, h.hist, h.len, fun j hj => hK j (h.pth j hj), fun j m hj => ?_, fun x y j hj => hK j (h.f x y j hj)⟩
    have hj2 : (if j = i then some (addT l s) else r.K j) = some m := hj
    split at hj2
    · rename_i e
      cases hj2
      exact ⟨by omega, by show j ≤ r.used + _; omega, tok_add h3.2.2 hs⟩
    · have := h.tab j m hj2
      exact ⟨this.1, by show j ≤ r.used + _; omega, this.2.2⟩
  · have : r.addAt s k = r := by
      unfold Rw.addAt
      rw [List.getElem?_eq_none (by omega)]
    rw [this]; exact h
theorem addAt_parts (r : Rw) (s k : Nat) : (r.addAt s k).pth = r.pth ∧ (r.addAt s k).hist = r.hist ∧ (r.addAt s k).f = r.f ∧ (r.addAt s k).cells = r.cells ∧ (r.addAt s k).order = r.order ∧ (r.addAt s k).rs = r.rs := by
  unfold Rw.addAt
  split
  · exact ⟨rfl, rfl, rfl, rfl, rfl, rfl⟩
  · split <;> exact ⟨rfl, rfl, rfl, rfl, rfl, rfl⟩
theorem addN_parts (r : Rw) (s a : Nat) : ∀ n, (r.addN s a n).pth = r.pth ∧ (r.addN s a n).hist = r.hist ∧ (r.addN s a n).f = r.f ∧ (r.addN s a n).cells = r.cells ∧ (r.addN s a n).order = r.order ∧ (r.addN s a n).rs = r.rs
  | 0 => ⟨rfl, rfl, rfl, rfl, rfl, rfl⟩
  | n + 1 => by
    obtain ⟨h1, h2, h3, h4, h5, h6⟩ := addN_parts r s a n
    obtain ⟨g1, g2, g3, g4, g5, g6⟩ := addAt_parts (r.addN s a n) s (a + n)
    exact ⟨g1.trans h1, g2.trans h2, g3.trans h3, g4.trans h4, g5.trans h5, g6.trans h6⟩
end Rw
end Go.Proofs.Yteacmcckhjabmaa.Cx
