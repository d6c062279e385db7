/-
  Plain mathematics of layer 8: all matches by the trees of all heads; how a tree is parted in memory.
-/
import Derived.Test.YteacmcckhjabmaaBstMath
namespace Go.Proofs.Yteacmcckhjabmaa.Mt
/-- Do two places begin with the same two bytes? -/
def heads2 (b : Nat → Nat) (p q : Nat) : Bool := b p == b q && b (p + 1) == b (q + 1)
theorem heads2_iff {b : Nat → Nat} {p q : Nat} : heads2 b p q = true ↔ b p = b q ∧ b (p + 1) = b (q + 1) := by simp [heads2]
theorem heads2_trans {b : Nat → Nat} {p q : Nat} (h : heads2 b p q = true) (r : Nat) : heads2 b p r = heads2 b q r := by
  obtain ⟨h1, h2⟩ := heads2_iff.1 h
  unfold heads2
  rw [h1, h2]
theorem heads2_self (b : Nat → Nat) (p : Nat) : heads2 b p p = true := heads2_iff.2 ⟨rfl, rfl⟩
theorem heads2_symm {b : Nat → Nat} {p q : Nat} (h : heads2 b p q = true) : heads2 b q p = true := by rw [← heads2_trans h]; exact heads2_self b p
/-- The last place below x that begins as p does; else -1. -/
def prev2 (b : Nat → Nat) (p : Nat) : Nat → Int
  | 0 => -1
  | x + 1 => if heads2 b p x then (x : Int) else prev2 b p x
theorem prev2_heads {b : Nat → Nat} {p q : Nat} (h : heads2 b p q = true) : ∀ x, prev2 b p x = prev2 b q x
  | 0 => rfl
  | x + 1 => by rw [prev2, prev2, heads2_trans h x, prev2_heads h x]
theorem prev2_lt (b : Nat → Nat) (p : Nat) : ∀ x, prev2 b p x < (x : Int) ∧ -1 ≤ prev2 b p x
  | 0 => by simp [prev2]
  | x + 1 => by
    have := prev2_lt b p x
    rw [prev2]
    split <;> omega
/-- What the document's All finds, from the distance p - x + 1 on. -/
def allL (b : Nat → Nat) (p most : Nat) (W : Int) : Nat → Nat → List (Nat × Nat)
  | 0, _ => []
  | x + 1, best => if ((p - x : Nat) : Int) ≤ W then
      if best < mat b p x 0 most then (mat b p x 0 most, p - x) :: allL b p most W x (mat b p x 0 most) else allL b p most W x best
    else []
/-- Of places that are met, each that matches more than all ahead of it. -/
def recM (b : Nat → Nat) (p most : Nat) : List Nat → Nat → List (Nat × Nat)
  | [], _ => []
  | y :: ys, best => if best < mat b p y 0 most then (mat b p y 0 most, p - y) :: recM b p most ys (mat b p y 0 most) else recM b p most ys best
theorem all_rec (b : Nat → Nat) (p most : Nat) (W : Int) : ∀ (x : Nat) (ys : List Nat) (best : Nat), x ≤ p → ys.Pairwise (fun x y => y < x) → (∀ y, y ∈ ys → y < x ∧ ¬ W < (p : Int) - y) →
    (∀ y, y < x → ¬ W < (p : Int) - y → y ∈ ys ∨ mat b p y 0 most ≤ best ∨ ∃ m, m ∈ ys ∧ y < m ∧ mat b p y 0 most ≤ mat b p m 0 most) → allL b p most W x best = recM b p most ys best
  | 0, ys, best, _, _, hm, _ => by
    cases ys with
    | nil => rfl
    | cons y ys => have := (hm y (by simp)).1; omega
  | x + 1, ys, best, hx, hp, hm, hd => by
    rw [allL]
    by_cases hw : ((p - x : Nat) : Int) ≤ W
    · rw [if_pos hw]
      cases ys with
      | nil =>
        have : mat b p x 0 most ≤ best := by
          rcases hd x (by omega) (by omega) with h | h | ⟨m, h, _⟩
          · simp at h
          · exact h
          · simp at h
        rw [if_neg (by omega)]
        exact all_rec b p most W x [] best (by omega) hp (fun y h => by simp at h) (fun y h1 h2 => hd y (by omega) h2)
      | cons y ys =>
        obtain ⟨hp1, hp2⟩ := List.pairwise_cons.1 hp
        by_cases hy : y = x
        · subst hy
          have hm' : ∀ z, z ∈ ys → z < y ∧ ¬ W < (p : Int) - z := fun z hz => ⟨hp1 z hz, (hm z (by simp [hz])).2⟩
          rw [recM]
          by_cases hb : best < mat b p y 0 most
          · rw [if_pos hb, if_pos hb, all_rec b p most W y ys _ (by omega) hp2 hm' ?_]
            intro z h1 h2
            rcases hd z (by omega) h2 with h | h | ⟨m, h, h3, h4⟩
            · rcases List.mem_cons.1 h with rfl | h
              · omega
              · exact .inl h
            · exact .inr (.inl (by omega))
            · rcases List.mem_cons.1 h with rfl | h
              · exact .inr (.inl h4)
              · exact .inr (.inr ⟨m, h, h3, h4⟩)
          · rw [if_neg hb, if_neg hb, all_rec b p most W y ys _ (by omega) hp2 hm' ?_]
            intro z h1 h2
            rcases hd z (by omega) h2 with h | h | ⟨m, h, h3, h4⟩
            · rcases List.mem_cons.1 h with rfl | h
              · omega
              · exact .inl h
            · exact .inr (.inl h)
            · rcases List.mem_cons.1 h with rfl | h
              · exact .inr (.inl (by omega))
              · exact .inr (.inr ⟨m, h, h3, h4⟩)
        · have hyx : y < x := by have := (hm y (by simp)).1; omega
          have hall : ∀ z, z ∈ y :: ys → z < x := fun z hz => by
            rcases List.mem_cons.1 hz with rfl | hz
            · exact hyx
            · have := hp1 z hz; omega
          have : mat b p x 0 most ≤ best := by
            rcases hd x (by omega) (by omega) with h | h | ⟨m, h, h3, _⟩
            · have := hall x h; omega
            · exact h
            · have := hall m h; omega
          rw [if_neg (by omega)]
          exact all_rec b p most W x (y :: ys) best (by omega) hp (fun z hz => ⟨hall z hz, (hm z hz).2⟩) (fun z h1 h2 => hd z (by omega) h2)
    · rw [if_neg hw]
      cases ys with
      | nil => rfl
      | cons y ys => have := hm y (by simp); omega
/-- The tree of a head covers all places that begin so. -/
def Cov (b lim : Nat → Nat) (W : Int) (p q : Nat) (t : Tr) : Prop := ∀ y, y < p → heads2 b q y = true → t.mem y ∨ W < (p : Int) - y ∨ ∃ z, y < z ∧ z < p ∧ eqK b (lim z) y z
theorem found_rec {b lim : Nat → Nat} {p : Nat} {W : Int} {t : Tr} (hok : t.ok b lim) (hm : ∀ y, t.mem y → y < p ∧ heads2 b p y = true) (hc : Cov b lim W p p t) (hlim : ∀ y, y < p → lim p ≤ lim y) (h2 : 2 ≤ lim p) :
    allL b p (lim p) W p 1 = recM b p (lim p) (t.split b p (lim p) W).1 0 := by
  have hs := split_spec (b := b) (lim := lim) (p := p) (k := lim p) (W := W) t hok (fun y hy => ⟨(hm y hy).1, hlim y (hm y hy).1⟩)
  have hmat : ∀ y, t.mem y → 2 ≤ mat b p y 0 (lim p) := by
    intro y hy
    obtain ⟨e0, e1⟩ := heads2_iff.1 (hm y hy).2
    rcases mat_reach b p y (lim p) 0 2 (by omega) (fun j _ h => by
      have : j = 0 ∨ j = 1 := by omega
      rcases this with rfl | rfl
      · exact e0
      · exact e1) with h | h
    · exact h
    · omega
  have hone : recM b p (lim p) (t.split b p (lim p) W).1 0 = recM b p (lim p) (t.split b p (lim p) W).1 1 := by
    have := fun y hy => hmat y (hs.met y hy).1
    generalize (t.split b p (lim p) W).1 = ys at *
    cases ys with
    | nil => rfl
    | cons y ys =>
      have := this y (by simp)
      rw [recM, recM, if_pos (by omega), if_pos (by omega)]
  rw [hone]
  refine all_rec b p (lim p) W p _ 1 (Nat.le_refl _) hs.desc (fun y hy => ⟨(hm y (hs.met y hy).1).1, (hs.met y hy).2⟩) ?_
  have key : ∀ d y, p - y ≤ d → y < p → ¬ W < (p : Int) - y → y ∈ (t.split b p (lim p) W).1 ∨ mat b p y 0 (lim p) ≤ 1 ∨ ∃ m, m ∈ (t.split b p (lim p) W).1 ∧ y < m ∧ mat b p y 0 (lim p) ≤ mat b p m 0 (lim p) := by
    intro d
    induction d with
    | zero => intro y h1 h2 _; omega
    | succ d ih =>
      intro y hd hy hw
      by_cases h1 : mat b p y 0 (lim p) ≤ 1
      · exact .inr (.inl h1)
      · have hh : heads2 b p y = true := heads2_iff.2 ⟨mat_same b p y (lim p) 0 0 (Nat.le_refl _) (by omega), mat_same b p y (lim p) 0 1 (by omega) (by omega)⟩
        rcases hc y hy hh with h | h | ⟨z, z1, z2, z3⟩
        · rcases hs.dom y h hw with g | g
          · exact .inl g
          · exact .inr (.inr g)
        · exact absurd h hw
        · have he := z3.mat (p := p) (hlim z z2)
          rcases ih z (by omega) z2 (by omega) with g | g | ⟨m, g1, g2, g3⟩
          · exact .inr (.inr ⟨z, g, z1, by omega⟩)
          · exact .inr (.inl (by omega))
          · exact .inr (.inr ⟨m, g1, by omega, by omega⟩)
  exact fun y h1 h2 => key (p - y) y (Nat.le_refl _) h1 h2
/-- The cells tell a tree: of the place x those at 2 x and 2 x + 1. -/
def Tre (c : Nat → Int) : Int → Tr → Prop
  | v, .nil => v = -1
  | v, .node x l r => v = (x : Int) ∧ Tre c (c (2 * x)) l ∧ Tre c (c (2 * x + 1)) r
theorem Tre.same {c c' : Nat → Int} : ∀ {t : Tr} {v : Int}, Tre c v t → (∀ y, t.mem y → c' (2 * y) = c (2 * y) ∧ c' (2 * y + 1) = c (2 * y + 1)) → Tre c' v t
  | .nil, _, h, _ => h
  | .node x l r, v, ⟨h1, h2, h3⟩, hc => by
    obtain ⟨e1, e2⟩ := hc x (.inl rfl)
    refine ⟨h1, ?_, ?_⟩
    · rw [e1]; exact h2.same (fun y hy => hc y (.inr (.inl hy)))
    · rw [e2]; exact h3.same (fun y hy => hc y (.inr (.inr hy)))
/-- The trees of all heads. -/
def Forest (b lim : Nat → Nat) (size : Nat) (W : Int) (c : Nat → Int) (p : Nat) : Prop := ∀ q, q + 2 ≤ size → ∃ t, Tre c (prev2 b q p) t ∧ t.ok b lim ∧ (∀ y, t.mem y → y < p ∧ heads2 b q y = true) ∧ Cov b lim W p q t
theorem forest_none (b lim : Nat → Nat) (size : Nat) (W : Int) (c : Nat → Int) : Forest b lim size W c 0 := fun q _ => ⟨.nil, rfl, trivial, fun y h => h.elim, fun y h => by omega⟩
/-- A cell is one of p's, or of a place's in t. -/
def Of (p : Nat) (t : Tr) (i : Nat) : Prop := ∃ y, (y = p ∨ t.mem y) ∧ (i = 2 * y ∨ i = 2 * y + 1)
/-- The place p is planted. -/
structure Planted (b : Nat → Nat) (p k : Nat) (W : Int) (t : Tr) (c0 c : Nat → Int) : Prop where
  less : Tre c (c (2 * p)) (t.split b p k W).2.1
  more : Tre c (c (2 * p + 1)) (t.split b p k W).2.2
  frame : ∀ i, ¬ Of p t i → c i = c0 i
theorem Forest.next {b lim : Nat → Nat} {size : Nat} {W : Int} {c c' : Nat → Int} {p : Nat} {t : Tr} (h : Forest b lim size W c p) (hok : t.ok b lim) (hm : ∀ y, t.mem y → y < p ∧ heads2 b p y = true) (hc : Cov b lim W p p t) (hlim : ∀ y, y < p → lim p ≤ lim y)
    (hp : Planted b p (lim p) W t c c') : Forest b lim size W c' (p + 1) := by
  intro q hq
  have hs := split_spec (b := b) (lim := lim) (p := p) (k := lim p) (W := W) t hok (fun y hy => ⟨(hm y hy).1, hlim y (hm y hy).1⟩)
  by_cases hh : heads2 b q p = true
  · refine ⟨.node p (t.split b p (lim p) W).2.1 (t.split b p (lim p) W).2.2, ?_, ?_, ?_, ?_⟩
    · rw [prev2, if_pos hh]
      exact ⟨rfl, hp.less, hp.more⟩
    · exact ⟨fun y hy => ⟨(hm y (hs.memL y hy)).1, hs.leL y hy⟩, fun y hy => ⟨(hm y (hs.memR y hy)).1, hs.leR y hy⟩, hs.apart, hs.okL, hs.okR⟩
    · rintro y (rfl | hy | hy)
      · exact ⟨by omega, hh⟩
      · have := hm y (hs.memL y hy)
        exact ⟨by omega, by rw [heads2_trans hh]; exact this.2⟩
      · have := hm y (hs.memR y hy)
        exact ⟨by omega, by rw [heads2_trans hh]; exact this.2⟩
    · intro y hy hqy
      by_cases e : y = p
      · exact .inl (.inl e)
      · rw [heads2_trans hh] at hqy
        rcases hc y (by omega) hqy with g | g | ⟨z, z1, z2, z3⟩
        · rcases hs.stay y g with g | g | g | g
          · exact .inl (.inr (.inl g))
          · exact .inl (.inr (.inr g))
          · exact .inr (.inl (by omega))
          · exact .inr (.inr ⟨p, by omega, by omega, g⟩)
        · exact .inr (.inl (by omega))
        · exact .inr (.inr ⟨z, z1, by omega, z3⟩)
  · obtain ⟨tq, g1, g2, g3, g4⟩ := h q hq
    have hne : ∀ y, tq.mem y → ∀ i, (i = 2 * y ∨ i = 2 * y + 1) → ¬ Of p t i := by
      rintro y hy i hi ⟨z, hz, hiz⟩
      have hyz : y = z := by omega
      subst hyz
      rcases hz with rfl | hz
      · exact hh (g3 y hy).2
      · apply hh
        rw [heads2_trans (g3 y hy).2]
        exact heads2_symm (hm y hz).2
    refine ⟨tq, ?_, g2, fun y hy => ⟨by have := (g3 y hy).1; omega, (g3 y hy).2⟩, ?_⟩
    · rw [prev2, if_neg hh]
      exact g1.same (fun y hy => ⟨hp.frame _ (hne y hy _ (.inl rfl)), hp.frame _ (hne y hy _ (.inr rfl))⟩)
    · intro y hy hqy
      have e : y ≠ p := by rintro rfl; exact hh hqy
      rcases g4 y (by omega) hqy with g | g | ⟨z, z1, z2, z3⟩
      · exact .inl g
      · exact .inr (.inl (by omega))
      · exact .inr (.inr ⟨z, z1, by omega, z3⟩)
end Go.Proofs.Yteacmcckhjabmaa.Mt
