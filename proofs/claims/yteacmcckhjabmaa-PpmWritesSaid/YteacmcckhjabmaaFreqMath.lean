/-
  Plain mathematics of layer 5: tables of signs, and how often each was seen. No program is named here.
-/
import Derived.Test.YteacmcckhjabmaaBase
namespace Go.Proofs.Yteacmcckhjabmaa.Fq
/-- The place of a sign; their number, where it isn't there. -/
def find : List (Nat × Nat) → Nat → Nat
  | [], _ => 0
  | x :: l, s => if x.1 = s then 0 else find l s + 1
/-- The entry at a place. -/
def at' (l : List (Nat × Nat)) (i : Nat) : Nat × Nat := l.getD i (0, 0)
theorem find_le : ∀ (l : List (Nat × Nat)) (s : Nat), find l s ≤ l.length
  | [], _ => Nat.le_refl _
  | x :: l, s => by
    have := find_le l s
    unfold find; split <;> simp; omega
theorem find_hit : ∀ (l : List (Nat × Nat)) (s k : Nat), k < l.length → k ≤ find l s → (at' l k).1 = s → find l s = k
  | [], _, k, h, _, _ => by simp at h
  | x :: l, s, 0, _, _, h2 => by
    have h3 : x.1 = s := h2
    unfold find; rw [if_pos h3]
  | x :: l, s, k + 1, h, h1, h2 => by
    unfold find at h1 ⊢
    split at h1
    · omega
    · rw [find_hit l s k (by simpa using h) (by omega) h2]
      simp_all
theorem find_next : ∀ (l : List (Nat × Nat)) (s k : Nat), k < l.length → k ≤ find l s → (at' l k).1 ≠ s → k + 1 ≤ find l s
  | [], _, k, h, _, _ => by simp at h
  | x :: l, s, 0, _, _, h2 => by
    have h3 : x.1 ≠ s := h2
    unfold find; rw [if_neg h3]; omega
  | x :: l, s, k + 1, h, h1, h2 => by
    unfold find at h1 ⊢
    split at h1
    · omega
    · rename_i h3
      rw [if_neg h3]
      have := find_next l s k (by simpa using h) (by omega) h2
      omega
theorem find_at : ∀ (l : List (Nat × Nat)) (s : Nat), find l s < l.length → (at' l (find l s)).1 = s
  | [], _, h => by simp [find] at h
  | x :: l, s, h => by
    unfold find at h ⊢
    by_cases h3 : x.1 = s
    · rw [if_pos h3]; exact h3
    · rw [if_neg h3] at h ⊢
      exact find_at l s (by simpa using h)
theorem find_has (l : List (Nat × Nat)) (i : Nat) (h : i < l.length) : find l (at' l i).1 < l.length := by
  rcases Nat.lt_or_ge i (find l (at' l i).1) with h1 | h1
  · have := find_le l (at' l i).1
    rcases Nat.lt_or_ge (find l (at' l i).1) l.length with h2 | h2
    · exact h2
    · exfalso
      have key : ∀ (l : List (Nat × Nat)) (s i : Nat), i < l.length → (at' l i).1 = s → find l s ≤ i := by
        intro l
        induction l with
        | nil => intro s i h; simp at h
        | cons x l ih =>
          intro s i h he
          unfold find
          by_cases h3 : x.1 = s
          · rw [if_pos h3]; omega
          · rw [if_neg h3]
            cases i with
            | zero => exact absurd he h3
            | succ i => have := ih s i (by simpa using h) he; omega
      have := key l _ i h rfl
      omega
  · omega
/-- A sign's place, as the calls answer it. -/
def placeI (l : List (Nat × Nat)) (s : Nat) : Int := if find l s < l.length then (find l s : Int) else -1
theorem placeI_hit {l : List (Nat × Nat)} {s k : Nat} (h : find l s = k) (hk : k < l.length) : placeI l s = (k : Int) := by
  unfold placeI; rw [h, if_pos hk]
theorem placeI_none {l : List (Nat × Nat)} {s : Nat} (h : ¬ find l s < l.length) : placeI l s = -1 := by
  unfold placeI; rw [if_neg h]
def hasB (l : List (Nat × Nat)) (s : Nat) : Bool := decide (find l s < l.length)
def halve (l : List (Nat × Nat)) : List (Nat × Nat) := l.map fun x => (x.1, (x.2 + 1) / 2)
/-- One more of a sign that is there. -/
def more (l : List (Nat × Nat)) (i : Nat) : List (Nat × Nat) := l.set i ((at' l i).1, (at' l i).2 + 1)
def addT (l : List (Nat × Nat)) (s : Nat) : List (Nat × Nat) :=
  if find l s < l.length then (if (at' l (find l s)).2 + 1 > 120 then halve (more l (find l s)) else more l (find l s)) else l ++ [(s, 1)]
/-- Signs are bytes, and no count is 0 or above b. -/
def Tab (b : Nat) (l : List (Nat × Nat)) : Prop := ∀ x ∈ l, x.1 < 256 ∧ 1 ≤ x.2 ∧ x.2 ≤ b
theorem tab_at {b : Nat} {l : List (Nat × Nat)} (h : Tab b l) {i : Nat} (hi : i < l.length) : (at' l i).1 < 256 ∧ 1 ≤ (at' l i).2 ∧ (at' l i).2 ≤ b := by
  have e : at' l i = l[i] := by simp [at', List.getD, hi]
  rw [e]; exact h _ (List.getElem_mem hi)
theorem tab_more {l : List (Nat × Nat)} (h : Tab 120 l) {i : Nat} (hi : i < l.length) : Tab ((at' l i).2 + 1) (more l i) ∨ Tab 120 (more l i) := by
  have ha := tab_at h hi
  by_cases h1 : (at' l i).2 + 1 ≤ 120
  · right
    intro x hx
    rcases List.mem_or_eq_of_mem_set hx with h2 | rfl
    · exact h x h2
    · exact ⟨ha.1, by show 1 ≤ (at' l i).2 + 1; omega, h1⟩
  · left
    intro x hx
    rcases List.mem_or_eq_of_mem_set hx with h2 | rfl
    · have := h x h2; omega
    · exact ⟨ha.1, by show 1 ≤ (at' l i).2 + 1; omega, Nat.le_refl _⟩
theorem tab_more121 {l : List (Nat × Nat)} (h : Tab 120 l) {i : Nat} (hi : i < l.length) : Tab 121 (more l i) := by
  have ha := tab_at h hi
  intro x hx
  rcases List.mem_or_eq_of_mem_set hx with h2 | rfl
  · have := h x h2; omega
  · exact ⟨ha.1, by show 1 ≤ (at' l i).2 + 1; omega, by show (at' l i).2 + 1 ≤ 121; omega⟩
theorem tab_halve {l : List (Nat × Nat)} (h : Tab 121 l) : Tab 120 (halve l) := by
  intro x hx
  obtain ⟨y, hy, rfl⟩ := List.mem_map.1 hx
  have := h y hy
  refine ⟨this.1, ?_, ?_⟩ <;> simp only <;> omega
theorem tab_add {l : List (Nat × Nat)} (h : Tab 120 l) {s : Nat} (hs : s < 256) : Tab 120 (addT l s) := by
  unfold addT
  split
  · rename_i h1
    split
    · exact tab_halve (tab_more121 h h1)
    · rename_i h2
      have ha := tab_at h h1
      intro x hx
      rcases List.mem_or_eq_of_mem_set hx with h3 | rfl
      · exact h x h3
      · exact ⟨ha.1, by show 1 ≤ (at' l (find l s)).2 + 1; omega, by show (at' l (find l s)).2 + 1 ≤ 120; omega⟩
  · intro x hx
    rcases List.mem_append.1 hx with h1 | h1
    · exact h x h1
    · simp at h1; subst h1; exact ⟨hs, by simp, by simp⟩
theorem halve_length (l : List (Nat × Nat)) : (halve l).length = l.length := by simp [halve]
theorem more_length (l : List (Nat × Nat)) (i : Nat) : (more l i).length = l.length := by simp [more]
theorem add_length (l : List (Nat × Nat)) (s : Nat) : (addT l s).length ≤ l.length + 1 := by
  unfold addT
  split
  · split
    · rw [halve_length, more_length]; omega
    · rw [more_length]; omega
  · simp
/-- The first k halved, the others not yet. -/
def halved (l : List (Nat × Nat)) (k : Nat) : List (Nat × Nat) := halve (l.take k) ++ l.drop k
theorem halved_zero (l : List (Nat × Nat)) : halved l 0 = l := by simp [halved, halve]
theorem halved_all (l : List (Nat × Nat)) : halved l l.length = halve l := by simp [halved]
theorem halved_length (l : List (Nat × Nat)) (k : Nat) (hk : k ≤ l.length) : (halved l k).length = l.length := by
  simp [halved, halve]; omega
theorem halved_at (l : List (Nat × Nat)) (k : Nat) (hk : k < l.length) : at' (halved l k) k = at' l k := by
  simp [halved, halve, at', List.getD, List.getElem?_append, Nat.min_eq_left (Nat.le_of_lt hk)]
theorem halved_succ (l : List (Nat × Nat)) (k : Nat) (hk : k < l.length) : (halved l k).set k ((at' l k).1, ((at' l k).2 + 1) / 2) = halved l (k + 1) := by
  have e : at' l k = l[k] := by simp [at', List.getD, hk]
  rw [e]
  unfold halved halve
  rw [List.take_succ_eq_append_getElem hk, List.map_append, List.set_append]
  simp [Nat.min_eq_left (Nat.le_of_lt hk)]
  rw [List.drop_eq_getElem_cons hk]; rfl
theorem halved_step (l : List (Nat × Nat)) (k : Nat) (hk : k < l.length) : (halved l k).set k ((at' (halved l k) k).1, ((at' l k).2 + 1) / 2) = halved l (k + 1) := by
  rw [halved_at l k hk]; exact halved_succ l k hk
/-- All that a text leaves. -/
def adds (l : List (Nat × Nat)) : List UInt8 → List (Nat × Nat)
  | [] => l
  | x :: t => adds (addT l x.toNat) t
theorem adds_snoc (t : List UInt8) (x : UInt8) : ∀ l, adds l (t ++ [x]) = addT (adds l t) x.toNat := by
  induction t with
  | nil => intro l; rfl
  | cons y t ih => intro l; exact ih _
theorem tab_adds (t : List UInt8) : ∀ l, Tab 120 l → Tab 120 (adds l t) := by
  induction t with
  | nil => intro l h; exact h
  | cons y t ih => intro l h; exact ih _ (tab_add h (UInt8.toNat_lt y))
theorem adds_length (t : List UInt8) : ∀ l, (adds l t).length ≤ l.length + t.length := by
  induction t with
  | nil => intro l; exact Nat.le_refl _
  | cons y t ih =>
    intro l
    have h1 := ih (addT l y.toNat)
    have h2 := add_length l y.toNat
    show (adds (addT l y.toNat) t).length ≤ _
    simp only [List.length_cons]; omega
end Go.Proofs.Yteacmcckhjabmaa.Fq
