/-
  Plain mathematics of layer 8: all matches by the trees of all heads; how a tree is parted in memory.
  Plain mathematics of layer 8: a place is planted: the way down, step by step, in memory.
  Package bst: what a finder is in memory ('BinAt'), and contracts of left, Place, matching, New.
-/
import Derived.Test.YtoneghmahdjgbaaGreatPk07

section
namespace Go.Proofs.YtoneghmahdjgbaaGreat.Mt
/-- Do two places begin with the same two bytes? -/
def heads2 (b : Nat → Nat) (p q : Nat) : Bool := b p == b q && b (p + 1) == b (q + 1)
theorem heads2_iff {b : Nat → Nat} {p q : Nat} : heads2 b p q = true ↔ b p = b q ∧ b (p + 1) = b (q + 1) := by simp [heads2]
theorem heads2_trans {b : Nat → Nat} {p q : Nat} (h : heads2 b p q = true) (r : Nat) : heads2 b p r = heads2 b q r := by
  obtain ⟨h1, h2⟩ := heads2_iff.1 h
  unfold heads2
  rw [h1, h2]
theorem heads2_self (b : Nat → Nat) (p : Nat) : heads2 b p p = true := heads2_iff.2 ⟨rfl, rfl⟩
theorem heads2_symm {b : Nat → Nat} {p q : Nat} (h : heads2 b p q = true) : heads2 b q p = true := by rw [← heads2_trans h]; exact heads2_self b p
/-- The last place below x that begins as p does; else -1. -/
def prev2 (b : Nat → Nat) (p : Nat) : Nat → Int
  | 0 => -1
  | x + 1 => if heads2 b p x then (x : Int) else prev2 b p x
/-- What the document's All finds, from the distance p - x + 1 on. -/
def allL (b : Nat → Nat) (p most : Nat) (W : Int) : Nat → Nat → List (Nat × Nat)
  | 0, _ => []
  | x + 1, best => if ((p - x : Nat) : Int) ≤ W then
      if best < mat b p x 0 most then (mat b p x 0 most, p - x) :: allL b p most W x (mat b p x 0 most) else allL b p most W x best
    else []
/-- Of places that are met, each that matches more than all ahead of it. -/
def recM (b : Nat → Nat) (p most : Nat) : List Nat → Nat → List (Nat × Nat)
  | [], _ => []
  | y :: ys, best => if best < mat b p y 0 most then (mat b p y 0 most, p - y) :: recM b p most ys (mat b p y 0 most) else recM b p most ys best
theorem all_rec (b : Nat → Nat) (p most : Nat) (W : Int) : ∀ (x : Nat) (ys : List Nat) (best : Nat), x ≤ p → ys.Pairwise (fun x y => y < x) → (∀ y, y ∈ ys → y < x ∧ ¬ W < (p : Int) - y) →
    (∀ y, y < x → ¬ W < (p : Int) - y → y ∈ ys ∨ mat b p y 0 most ≤ best ∨ ∃ m, m ∈ ys ∧ y < m ∧ mat b p y 0 most ≤ mat b p m 0 most) → allL b p most W x best = recM b p most ys best
  | 0, ys, best, _, _, hm, _ => by
    cases ys with
    | nil => rfl
    | cons y ys => have := (hm y (by simp)).1; omega
  | x + 1, ys, best, hx, hp, hm, hd => by
    rw [allL]
    by_cases hw : ((p - x : Nat) : Int) ≤ W
    · rw [if_pos hw]
      cases ys with
      | nil =>
        have : mat b p x 0 most ≤ best := by
          rcases hd x (by omega) (by omega) with h | h | ⟨m, h, _⟩
          · simp at h
          · exact h
          · simp at h
        rw [if_neg (by omega)]
        exact all_rec b p most W x [] best (by omega) hp (fun y h => by simp at h) (fun y h1 h2 => hd y (by omega) h2)
      | cons y ys =>
        obtain ⟨hp1, hp2⟩ := List.pairwise_cons.1 hp
        by_cases hy : y = x
        · subst hy
          have hm' : ∀ z, z ∈ ys → z < y ∧ ¬ W < (p : Int) - z := fun z hz => ⟨hp1 z hz, (hm z (by simp [hz])).2⟩
          rw [recM]
          by_cases hb : best < mat b p y 0 most
          · rw [if_pos hb, if_pos hb, all_rec b p most W y ys _ (by omega) hp2 hm' ?_]
            intro z h1 h2
            rcases hd z (by omega) h2 with h | h | ⟨m, h, h3, h4⟩
            · rcases List.mem_cons.1 h with rfl | h
              · omega
              · exact .inl h
            · exact .inr (.inl (by omega))
            · rcases List.mem_cons.1 h with rfl | h
              · exact .inr (.inl h4)
              · exact .inr (.inr ⟨m, h, h3, h4⟩)
          · rw [if_neg hb, if_neg hb, all_rec b p most W y ys _ (by omega) hp2 hm' ?_]
            intro z h1 h2
            rcases hd z (by omega) h2 with h | h | ⟨m, h, h3, h4⟩
            · rcases List.mem_cons.1 h with rfl | h
              · omega
              · exact .inl h
            · exact .inr (.inl h)
            · rcases List.mem_cons.1 h with rfl | h
              · exact .inr (.inl (by omega))
              · exact .inr (.inr ⟨m, h, h3, h4⟩)
        · have hyx : y < x := by have := (hm y (by simp)).1; omega
          have hall : ∀ z, z ∈ y :: ys → z < x := fun z hz => by
            rcases List.mem_cons.1 hz with rfl | hz
            · exact hyx
            · have := hp1 z hz; omega
          have : mat b p x 0 most ≤ best := by
            rcases hd x (by omega) (by omega) with h | h | ⟨m, h, h3, _⟩
            · have := hall x h; omega
            · exact h
            · have := hall m h; omega
          rw [if_neg (by omega)]
          exact all_rec b p most W x (y :: ys) best (by omega) hp (fun z hz => ⟨hall z hz, (hm z hz).2⟩) (fun z h1 h2 => hd z (by omega) h2)
    · rw [if_neg hw]
      cases ys with
      | nil => rfl
      | cons y ys => have := hm y (by simp); omega
/-- The tree of a head covers all places that begin so. -/
def Cov (b lim : Nat → Nat) (W : Int) (p q : Nat) (t : Tr) : Prop := ∀ y, y < p → heads2 b q y = true → t.mem y ∨ W < (p : Int) - y ∨ ∃ z, y < z ∧ z < p ∧ eqK b (lim z) y z
theorem found_rec {b lim : Nat → Nat} {p : Nat} {W : Int} {t : Tr} (hok : t.ok b lim) (hm : ∀ y, t.mem y → y < p ∧ heads2 b p y = true) (hc : Cov b lim W p p t) (hlim : ∀ y, y < p → lim p ≤ lim y) (h2 : 2 ≤ lim p) :
    allL b p (lim p) W p 1 = recM b p (lim p) (t.split b p (lim p) W).1 0 := by
  have hs := split_spec (b := b) (lim := lim) (p := p) (k := lim p) (W := W) t hok (fun y hy => ⟨(hm y hy).1, hlim y (hm y hy).1⟩)
  have hmat : ∀ y, t.mem y → 2 ≤ mat b p y 0 (lim p) := by
    intro y hy
    obtain ⟨e0, e1⟩ := heads2_iff.1 (hm y hy).2
    rcases mat_reach b p y (lim p) 0 2 (by omega) (fun j _ h => by
      have : j = 0 ∨ j = 1 := by omega
      rcases this with rfl | rfl
      · exact e0
      · exact e1) with h | h
    · exact h
    · omega
  have hone : recM b p (lim p) (t.split b p (lim p) W).1 0 = recM b p (lim p) (t.split b p (lim p) W).1 1 := by
    have := fun y hy => hmat y (hs.met y hy).1
    generalize (t.split b p (lim p) W).1 = ys at *
    cases ys with
    | nil => rfl
    | cons y ys =>
      have := this y (by simp)
      rw [recM, recM, if_pos (by omega), if_pos (by omega)]
  rw [hone]
  refine all_rec b p (lim p) W p _ 1 (Nat.le_refl _) hs.desc (fun y hy => ⟨(hm y (hs.met y hy).1).1, (hs.met y hy).2⟩) ?_
  have key : ∀ d y, p - y ≤ d → y < p → ¬ W < (p : Int) - y → y ∈ (t.split b p (lim p) W).1 ∨ mat b p y 0 (lim p) ≤ 1 ∨ ∃ m, m ∈ (t.split b p (lim p) W).1 ∧ y < m ∧ mat b p y 0 (lim p) ≤ mat b p m 0 (lim p) := by
    intro d
    induction d with
    | zero => intro y h1 h2 _; omega
    | succ d ih =>
      intro y hd hy hw
      by_cases h1 : mat b p y 0 (lim p) ≤ 1
      · exact .inr (.inl h1)
      · have hh : heads2 b p y = true := heads2_iff.2 ⟨mat_same b p y (lim p) 0 0 (Nat.le_refl _) (by omega), mat_same b p y (lim p) 0 1 (by omega) (by omega)⟩
        rcases hc y hy hh with h | h | ⟨z, z1, z2, z3⟩
        · rcases hs.dom y h hw with g | g
          · exact .inl g
          · exact .inr (.inr g)
        · exact absurd h hw
        · have he := z3.mat (p := p) (hlim z z2)
          rcases ih z (by omega) z2 (by omega) with g | g | ⟨m, g1, g2, g3⟩
          · exact .inr (.inr ⟨z, g, z1, by omega⟩)
          · exact .inr (.inl (by omega))
          · exact .inr (.inr ⟨m, g1, by omega, by omega⟩)
  exact fun y h1 h2 => key (p - y) y (Nat.le_refl _) h1 h2
/-- The cells tell a tree: of the place x those at 2 x and 2 x + 1. -/
def Tre (c : Nat → Int) : Int → Tr → Prop
  | v, .nil => v = -1
  | v, .node x l r => v = (x : Int) ∧ Tre c (c (2 * x)) l ∧ Tre c (c (2 * x + 1)) r
theorem Tre.same {c c' : Nat → Int} : ∀ {t : Tr} {v : Int}, Tre c v t → (∀ y, t.mem y → c' (2 * y) = c (2 * y) ∧ c' (2 * y + 1) = c (2 * y + 1)) → Tre c' v t
  | .nil, _, h, _ => h
  | .node x l r, v, ⟨h1, h2, h3⟩, hc => by
    obtain ⟨e1, e2⟩ := hc x (.inl rfl)
    refine ⟨h1, ?_, ?_⟩
    · rw [e1]; exact h2.same (fun y hy => hc y (.inr (.inl hy)))
    · rw [e2]; exact h3.same (fun y hy => hc y (.inr (.inr hy)))
/-- The trees of all heads. -/
def Forest (b lim : Nat → Nat) (size : Nat) (W : Int) (c : Nat → Int) (p : Nat) : Prop := ∀ q, q + 2 ≤ size → ∃ t, Tre c (prev2 b q p) t ∧ t.ok b lim ∧ (∀ y, t.mem y → y < p ∧ heads2 b q y = true) ∧ Cov b lim W p q t
theorem forest_none (b lim : Nat → Nat) (size : Nat) (W : Int) (c : Nat → Int) : Forest b lim size W c 0 := fun q _ => ⟨.nil, rfl, trivial, fun y h => h.elim, fun y h => by omega⟩
/-- A cell is one of p's, or of a place's in t. -/
def Of (p : Nat) (t : Tr) (i : Nat) : Prop := ∃ y, (y = p ∨ t.mem y) ∧ (i = 2 * y ∨ i = 2 * y + 1)
/-- The place p is planted. -/
structure Planted (b : Nat → Nat) (p k : Nat) (W : Int) (t : Tr) (c0 c : Nat → Int) : Prop where
  less : Tre c (c (2 * p)) (t.split b p k W).2.1
  more : Tre c (c (2 * p + 1)) (t.split b p k W).2.2
  frame : ∀ i, ¬ Of p t i → c i = c0 i
theorem Forest.next {b lim : Nat → Nat} {size : Nat} {W : Int} {c c' : Nat → Int} {p : Nat} {t : Tr} (h : Forest b lim size W c p) (hok : t.ok b lim) (hm : ∀ y, t.mem y → y < p ∧ heads2 b p y = true) (hc : Cov b lim W p p t) (hlim : ∀ y, y < p → lim p ≤ lim y)
    (hp : Planted b p (lim p) W t c c') : Forest b lim size W c' (p + 1) := by
  intro q hq
  have hs := split_spec (b := b) (lim := lim) (p := p) (k := lim p) (W := W) t hok (fun y hy => ⟨(hm y hy).1, hlim y (hm y hy).1⟩)
  by_cases hh : heads2 b q p = true
  · refine ⟨.node p (t.split b p (lim p) W).2.1 (t.split b p (lim p) W).2.2, ?_, ?_, ?_, ?_⟩
    · rw [prev2, if_pos hh]
      exact ⟨rfl, hp.less, hp.more⟩
    · exact ⟨fun y hy => ⟨(hm y (hs.memL y hy)).1, hs.leL y hy⟩, fun y hy => ⟨(hm y (hs.memR y hy)).1, hs.leR y hy⟩, hs.apart, hs.okL, hs.okR⟩
    · rintro y (rfl | hy | hy)
      · exact ⟨by omega, hh⟩
      · have := hm y (hs.memL y hy)
        exact ⟨by omega, by rw [heads2_trans hh]; exact this.2⟩
      · have := hm y (hs.memR y hy)
        exact ⟨by omega, by rw [heads2_trans hh]; exact this.2⟩
    · intro y hy hqy
      by_cases e : y = p
      · exact .inl (.inl e)
      · rw [heads2_trans hh] at hqy
        rcases hc y (by omega) hqy with g | g | ⟨z, z1, z2, z3⟩
        · rcases hs.stay y g with g | g | g | g
          · exact .inl (.inr (.inl g))
          · exact .inl (.inr (.inr g))
          · exact .inr (.inl (by omega))
          · exact .inr (.inr ⟨p, by omega, by omega, g⟩)
        · exact .inr (.inl (by omega))
        · exact .inr (.inr ⟨z, z1, by omega, z3⟩)
  · obtain ⟨tq, g1, g2, g3, g4⟩ := h q hq
    have hne : ∀ y, tq.mem y → ∀ i, (i = 2 * y ∨ i = 2 * y + 1) → ¬ Of p t i := by
      rintro y hy i hi ⟨z, hz, hiz⟩
      have hyz : y = z := by omega
      subst hyz
      rcases hz with rfl | hz
      · exact hh (g3 y hy).2
      · apply hh
        rw [heads2_trans (g3 y hy).2]
        exact heads2_symm (hm y hz).2
    refine ⟨tq, ?_, g2, fun y hy => ⟨by have := (g3 y hy).1; omega, (g3 y hy).2⟩, ?_⟩
    · rw [prev2, if_neg hh]
      exact g1.same (fun y hy => ⟨hp.frame _ (hne y hy _ (.inl rfl)), hp.frame _ (hne y hy _ (.inr rfl))⟩)
    · intro y hy hqy
      have e : y ≠ p := by rintro rfl; exact hh hqy
      rcases g4 y (by omega) hqy with g | g | ⟨z, z1, z2, z3⟩
      · exact .inl g
      · exact .inr (.inl (by omega))
      · exact .inr (.inr ⟨z, z1, by omega, z3⟩)
end Go.Proofs.YtoneghmahdjgbaaGreat.Mt
end
section
namespace Go.Proofs.YtoneghmahdjgbaaGreat.Mt
/-- One cell is written. -/
def upd (c : Nat → Int) (i : Nat) (v : Int) : Nat → Int := fun j => if j = i then v else c j
theorem upd_same (c : Nat → Int) (i : Nat) (v : Int) : upd c i v i = v := by unfold upd; rw [if_pos rfl]
theorem upd_other {c : Nat → Int} {i j : Nat} (v : Int) (h : j ≠ i) : upd c i v j = c j := by unfold upd; rw [if_neg h]
/-- On the way down: what is left of the tree, where lesser and greater ones go to, and what has been built. -/
structure Plant (b lim : Nat → Nat) (p k : Nat) (W : Int) (t0 : Tr) (c0 c : Nat → Int) (t : Tr) (v : Int) (ms : List Nat) (hL hR : Nat) (fL fR : Tr → Tr) (sL sM : Nat) : Prop where
  cur : Tre c v t
  outL : ∀ y, t.mem y → hL ≠ 2 * y ∧ hL ≠ 2 * y + 1
  outR : ∀ y, t.mem y → hR ≠ 2 * y ∧ hR ≠ 2 * y + 1
  ne : hL ≠ hR
  ofL : Of p t0 hL
  ofR : Of p t0 hR
  frame : ∀ i, ¬ Of p t0 i → c i = c0 i
  sub : ∀ y, t.mem y → t0.mem y
  build : ∀ (c' : Nat → Int) (L' R' : Tr), (∀ i, i ≠ hL → i ≠ hR → (∀ y, t.mem y → i ≠ 2 * y ∧ i ≠ 2 * y + 1) → c' i = c i) → Tre c' (c' hL) L' → Tre c' (c' hR) R' → Tre c' (c' (2 * p)) (fL L') ∧ Tre c' (c' (2 * p + 1)) (fR R')
  split : t0.split b p k W = (ms ++ (t.split b p k W).1, fL (t.split b p k W).2.1, fR (t.split b p k W).2.2)
  lo : ∀ y, t.mem y → leK b sL p y
  hi : ∀ y, t.mem y → leK b sM y p
  ok : t.ok b lim
  below : ∀ y, t.mem y → y < p ∧ k ≤ lim y
  sLk : sL ≤ k
  sMk : sM ≤ k
theorem plant_start {b lim : Nat → Nat} {p k : Nat} {W : Int} {t : Tr} {c : Nat → Int} {v : Int} (hc : Tre c v t) (hok : t.ok b lim) (hm : ∀ y, t.mem y → y < p ∧ heads2 b p y = true) (hlim : ∀ y, y < p → k ≤ lim y) (h2 : 2 ≤ k) :
    Plant b lim p k W t c c t v [] (2 * p) (2 * p + 1) id id 2 2 := by
  have he : ∀ y, t.mem y → eqK b 2 y p := fun y hy j hj => by
    obtain ⟨e0, e1⟩ := heads2_iff.1 (hm y hy).2
    have : j = 0 ∨ j = 1 := by omega
    rcases this with rfl | rfl
    · exact e0.symm
    · exact e1.symm
  exact ⟨hc, fun y hy => by have := (hm y hy).1; omega, fun y hy => by have := (hm y hy).1; omega, by omega, ⟨p, .inl rfl, .inl rfl⟩, ⟨p, .inl rfl, .inr rfl⟩, fun _ _ => rfl, fun _ h => h, fun c' L' R' _ h1 h2 => ⟨h1, h2⟩, by simp, fun y hy => (he y hy).symm.le, fun y hy => (he y hy).le, hok, fun y hy => ⟨(hm y hy).1, hlim y (hm y hy).1⟩, h2, h2⟩
section
variable {b lim : Nat → Nat} {p k : Nat} {W : Int} {t0 : Tr} {c0 c : Nat → Int} {v : Int} {ms : List Nat} {hL hR : Nat} {fL fR : Tr → Tr} {sL sM : Nat}
/-- So many bytes are known to match. -/
theorem Plant.known {t : Tr} (h : Plant b lim p k W t0 c0 c t v ms hL hR fL fR sL sM) {x : Nat} (hx : t.mem x) : mat b p x 0 k = mat b p x (min sL sM) (k - min sL sM) := by
  have h1 := (h.lo x hx).mono (show min sL sM ≤ sL by omega)
  have h2 := (h.hi x hx).mono (show min sL sM ≤ sM by omega)
  exact mat_at (h2.anti h1) (by have := h.sLk; omega)
theorem Plant.at {x : Nat} {l r : Tr} (h : Plant b lim p k W t0 c0 c (.node x l r) v ms hL hR fL fR sL sM) : v = (x : Int) ∧ x < p := ⟨h.cur.1, (h.below x (.inl rfl)).1⟩
theorem Plant.none (h : Plant b lim p k W t0 c0 c .nil v ms hL hR fL fR sL sM) : v = -1 := h.cur
theorem Plant.less {x : Nat} {l r : Tr} (h : Plant b lim p k W t0 c0 c (.node x l r) v ms hL hR fL fR sL sM) (hw : ¬ W < (p : Int) - x) (hn : mat b p x 0 k < k) (hc : b (x + mat b p x 0 k) < b (p + mat b p x 0 k)) :
    Plant b lim p k W t0 c0 (upd c hL (x : Int)) r (c (2 * x + 1)) (ms ++ [x]) (2 * x + 1) hR (fun L' => fL (.node x l L')) fR (mat b p x 0 k) sM := by
  obtain ⟨o1, o2, o3, o4, o5⟩ := h.ok
  have oL := h.outL x (.inl rfl)
  have oR := h.outR x (.inl rfl)
  have hxp := h.below x (.inl rfl)
  have uo : ∀ i, i ≠ hL → upd c hL (x : Int) i = c i := fun i hi => upd_other _ hi
  refine ⟨?_, ?_, fun y hy => h.outR y (.inr (.inr hy)), by omega, ⟨x, .inr (h.sub x (.inl rfl)), .inr rfl⟩, h.ofR, ?_, fun y hy => h.sub y (.inr (.inr hy)), ?_, ?_, ?_, fun y hy => h.hi y (.inr (.inr hy)), o5, fun y hy => h.below y (.inr (.inr hy)), by omega, h.sMk⟩
  · exact h.cur.2.2.same (fun y hy => by
      have := h.outL y (.inr (.inr hy))
      exact ⟨uo _ (by omega), uo _ (by omega)⟩)
  · intro y hy
    have := (o2 y hy).1
    omega
  · intro i hi
    rw [uo i (by rintro rfl; exact hi h.ofL)]
    exact h.frame i hi
  · intro c' L' R' hcc hL' hR'
    have cL : c' hL = (x : Int) := by
      rw [hcc hL (by omega) h.ne (fun y hy => h.outL y (.inr (.inr hy))), upd_same]
    have cx : c' (2 * x) = c (2 * x) := by
      rw [hcc (2 * x) (by omega) (by omega) (fun y hy => by have := (o2 y hy).1; omega), uo _ (by omega)]
    refine h.build c' (.node x l L') R' (fun i i1 i2 i3 => ?_) ?_ hR'
    · have hx := i3 x (.inl rfl)
      rw [hcc i (by omega) i2 (fun y hy => i3 y (.inr (.inr hy))), uo i i1]
    · refine ⟨cL, ?_, hL'⟩
      rw [cx]
      exact h.cur.2.1.same (fun y hy => by
        have q1 := h.outL y (.inr (.inl hy))
        have q2 := h.outR y (.inr (.inl hy))
        have q3 := (o1 y hy).1
        have q4 : ∀ z, r.mem z → y ≠ z := fun z hz e => o3 y hy (e ▸ hz)
        exact ⟨by rw [hcc _ (by omega) (by omega) (fun z hz => by have := q4 z hz; omega), uo _ (by omega)], by rw [hcc _ (by omega) (by omega) (fun z hz => by have := q4 z hz; omega), uo _ (by omega)]⟩)
  · rw [h.split, Tr.split, if_neg hw, if_neg (by omega), if_pos hc]
    simp
  · intro y hy
    have he : eqK b (mat b p x 0 k) p x := fun j hj => mat_same b p x k 0 j (Nat.zero_le _) hj
    exact he.le.trans ((o2 y hy).2.mono (by omega))
theorem Plant.more {x : Nat} {l r : Tr} (h : Plant b lim p k W t0 c0 c (.node x l r) v ms hL hR fL fR sL sM) (hw : ¬ W < (p : Int) - x) (hn : mat b p x 0 k < k) (hc : ¬ b (x + mat b p x 0 k) < b (p + mat b p x 0 k)) :
    Plant b lim p k W t0 c0 (upd c hR (x : Int)) l (c (2 * x)) (ms ++ [x]) hL (2 * x) fL (fun R' => fR (.node x R' r)) sL (mat b p x 0 k) := by
  obtain ⟨o1, o2, o3, o4, o5⟩ := h.ok
  have oL := h.outL x (.inl rfl)
  have oR := h.outR x (.inl rfl)
  have hxp := h.below x (.inl rfl)
  have uo : ∀ i, i ≠ hR → upd c hR (x : Int) i = c i := fun i hi => upd_other _ hi
  refine ⟨?_, fun y hy => h.outL y (.inr (.inl hy)), ?_, by omega, h.ofL, ⟨x, .inr (h.sub x (.inl rfl)), .inl rfl⟩, ?_, fun y hy => h.sub y (.inr (.inl hy)), ?_, ?_, fun y hy => h.lo y (.inr (.inl hy)), ?_, o4, fun y hy => h.below y (.inr (.inl hy)), h.sLk, by omega⟩
  · exact h.cur.2.1.same (fun y hy => by
      have := h.outR y (.inr (.inl hy))
      exact ⟨uo _ (by omega), uo _ (by omega)⟩)
  · intro y hy
    have := (o1 y hy).1
    omega
  · intro i hi
    rw [uo i (by rintro rfl; exact hi h.ofR)]
    exact h.frame i hi
  · intro c' L' R' hcc hL' hR'
    have hne := h.ne
    have cR : c' hR = (x : Int) := by
      rw [hcc hR (by omega) (by omega) (fun y hy => h.outR y (.inr (.inl hy))), upd_same]
    have cx : c' (2 * x + 1) = c (2 * x + 1) := by
      rw [hcc (2 * x + 1) (by omega) (by omega) (fun y hy => by have := (o1 y hy).1; omega), uo _ (by omega)]
    refine h.build c' L' (.node x R' r) (fun i i1 i2 i3 => ?_) hL' ?_
    · have hx := i3 x (.inl rfl)
      rw [hcc i i1 (by omega) (fun y hy => i3 y (.inr (.inl hy))), uo i i2]
    · refine ⟨cR, hR', ?_⟩
      rw [cx]
      exact h.cur.2.2.same (fun y hy => by
        have q1 := h.outL y (.inr (.inr hy))
        have q2 := h.outR y (.inr (.inr hy))
        have q3 := (o2 y hy).1
        have q4 : ∀ z, l.mem z → y ≠ z := fun z hz e => o3 z hz (e ▸ hy)
        exact ⟨by rw [hcc _ (by omega) (by omega) (fun z hz => by have := q4 z hz; omega), uo _ (by omega)], by rw [hcc _ (by omega) (by omega) (fun z hz => by have := q4 z hz; omega), uo _ (by omega)]⟩)
  · rw [h.split, Tr.split, if_neg hw, if_neg (by omega), if_neg hc]
    simp
  · intro y hy
    have he : eqK b (mat b p x 0 k) x p := fun j hj => (mat_same b p x k 0 j (Nat.zero_le _) hj).symm
    exact ((o1 y hy).2.mono (by omega)).trans he.le
/-- The end: what lies beyond is gone. -/
theorem Plant.stop {t : Tr} (h : Plant b lim p k W t0 c0 c t v ms hL hR fL fR sL sM) (ht : t.split b p k W = ([], .nil, .nil)) : (t0.split b p k W).1 = ms ∧ Planted b p k W t0 c0 (upd (upd c hL (-1)) hR (-1)) := by
  have hs := h.split
  rw [ht] at hs
  have hne := h.ne
  have e2 : ∀ i, i ≠ hL → i ≠ hR → upd (upd c hL (-1)) hR (-1) i = c i := fun i i1 i2 => by rw [upd_other _ i2, upd_other _ i1]
  have := h.build (upd (upd c hL (-1)) hR (-1)) .nil .nil (fun i i1 i2 _ => e2 i i1 i2) (by rw [upd_other _ hne, upd_same]; rfl) (by rw [upd_same]; rfl)
  refine ⟨by rw [hs]; simp, ?_, ?_, fun i hi => ?_⟩
  · rw [hs]; exact this.1
  · rw [hs]; exact this.2
  · rw [e2 i (by rintro rfl; exact hi h.ofL) (by rintro rfl; exact hi h.ofR)]
    exact h.frame i hi
/-- The end: a place that matches to the limit is replaced. -/
theorem Plant.full {x : Nat} {l r : Tr} (h : Plant b lim p k W t0 c0 c (.node x l r) v ms hL hR fL fR sL sM) (hw : ¬ W < (p : Int) - x) (hn : mat b p x 0 k = k) : (t0.split b p k W).1 = ms ++ [x] ∧ Planted b p k W t0 c0 (upd (upd c hL (c (2 * x))) hR (c (2 * x + 1))) := by
  have hs := h.split
  rw [Tr.split, if_neg hw, if_pos hn] at hs
  have hne := h.ne
  have e2 : ∀ i, i ≠ hL → i ≠ hR → upd (upd c hL (c (2 * x))) hR (c (2 * x + 1)) i = c i := fun i i1 i2 => by rw [upd_other _ i2, upd_other _ i1]
  have hl : Tre (upd (upd c hL (c (2 * x))) hR (c (2 * x + 1))) (c (2 * x)) l := h.cur.2.1.same (fun y hy => by
    have q1 := h.outL y (.inr (.inl hy))
    have q2 := h.outR y (.inr (.inl hy))
    exact ⟨e2 _ (by omega) (by omega), e2 _ (by omega) (by omega)⟩)
  have hr : Tre (upd (upd c hL (c (2 * x))) hR (c (2 * x + 1))) (c (2 * x + 1)) r := h.cur.2.2.same (fun y hy => by
    have q1 := h.outL y (.inr (.inr hy))
    have q2 := h.outR y (.inr (.inr hy))
    exact ⟨e2 _ (by omega) (by omega), e2 _ (by omega) (by omega)⟩)
  have := h.build (upd (upd c hL (c (2 * x))) hR (c (2 * x + 1))) l r (fun i i1 i2 _ => e2 i i1 i2) (by rw [upd_other _ hne, upd_same]; exact hl) (by rw [upd_same]; exact hr)
  refine ⟨by rw [hs], ?_, ?_, fun i hi => ?_⟩
  · rw [hs]; exact this.1
  · rw [hs]; exact this.2
  · rw [e2 i (by rintro rfl; exact hi h.ofL) (by rintro rfl; exact hi h.ofR)]
    exact h.frame i hi
end
end Go.Proofs.YtoneghmahdjgbaaGreat.Mt
end
section
namespace Go.Proofs.YtoneghmahdjgbaaGreat.Bs
open Go.RowKit Go.Maps
open Mt
open Ch (bt bt_at bt_lt Dm wf8 keyBytes8 laidOut cells8 zeroE wf64 ret_num infoI)
/-- How many bytes may match at a place. -/
def lim (s : ByteArray) (x : Nat) : Nat := min (s.size - x) 273
/-- What the place q begins with, as a key. -/
def key2 (s : ByteArray) (q : Nat) : Lit := .string [UInt8.ofNat (bt s q), UInt8.ofNat (bt s (q + 1))]
def val2 (s : ByteArray) (q : Nat) : Value := .agg #[.int .u8 (bt s q : Int), .int .u8 (bt s (q + 1) : Int)]
theorem row2 : (194 : TypeId) < Tryz.prog.types.size := of_decide_eq_true (by kernel_rfl)
theorem keyAt2 : Tryz.prog.keyTypeAt 2 194 = true := by kernel_rfl
theorem law2 : Keyed Tryz.prog 194 := Keyed.of_law (deep_law_laid laidOut (m := 2) (by omega) row2 keyAt2 (by rw [Tryz.underlying194]))
theorem cells2 : Tryz.prog.cellsOf 194 = 2 := by kernel_rfl
theorem keyType2 : Tryz.prog.keyType 194 = true := by kernel_rfl
theorem key_lits2 {x0 x1 : Nat} (b0 : x0 < 256) (b1 : x1 < 256) (n : Nat) : Tryz.prog.keyLits (n + 1 + 1) 194 [.int .u8 (x0 : Int), .int .u8 (x1 : Int)] = some [.int .u8 (x0 : Int), .int .u8 (x1 : Int)] := by
  simp [Program.keyLits, Tryz.underlying194, Tryz.underlying5, cells2, cells8, wf8 b0, wf8 b1, List.range_succ]
theorem key_of2 (s : ByteArray) (q : Nat) : keyOf Tryz.prog 194 (val2 s q) = some (key2 s q) := by
  have b0 := bt_lt s q
  have b1 := bt_lt s (q + 1)
  unfold keyOf val2 key2
  generalize bt s q = x0 at *
  generalize bt s (q + 1) = x1 at *
  obtain ⟨n, hn⟩ : ∃ n, Tryz.prog.types.size = n + 1 := ⟨Tryz.prog.types.size - 1, by have h : (194 : Nat) < Tryz.prog.types.size := row2; omega⟩
  have hl := key_lits2 b0 b1 n
  rw [hn]
  generalize n + 1 + 1 = m at *
  have hf : (Value.agg #[.int .u8 (x0 : Int), .int .u8 (x1 : Int)]).formed Tryz.prog 194 = true := by simp [Value.formed, Tryz.underlying194, cells2]
  rw [Tryz.underlying194, keyType2, hf]
  simp [Value.cells, hl, keyBytes, keyBytes8 b0, keyBytes8 b1]
theorem key2_ne {s : ByteArray} {p q : Nat} (h : heads2 (bt s) p q = false) : key2 s p ≠ key2 s q := by
  intro e
  unfold key2 at e
  simp only [Lit.string.injEq, List.cons.injEq, and_true] at e
  obtain ⟨e0, e1⟩ := e
  have hb : ∀ {x y : Nat}, x < 256 → y < 256 → UInt8.ofNat x = UInt8.ofNat y → x = y := fun {x y} hx hy h => by
    have := congrArg UInt8.toNat h
    simp at this
    omega
  have := heads2_iff.2 ⟨hb (bt_lt s _) (bt_lt s _) e0, hb (bt_lt s _) (bt_lt s _) e1⟩
  rw [h] at this
  cases this
theorem key2_eq {s : ByteArray} {p q : Nat} (h : heads2 (bt s) p q = true) : key2 s p = key2 s q := by
  obtain ⟨h0, h1⟩ := heads2_iff.1 h
  unfold key2
  rw [h0, h1]
/-- The map tells of each place where its two bytes stood last below p. -/
def Tells2 (s : ByteArray) (p : Nat) (D : Dm) : Prop := ∀ q, q + 2 ≤ s.size → Maps.has D (key2 s q) = decide (prev2 (bt s) q p ≠ -1) ∧ D.atKey (key2 s q) (.lit (.int .i64 0)) = .lit (.int .i64 (if prev2 (bt s) q p = -1 then 0 else prev2 (bt s) q p))
theorem tells2_none (s : ByteArray) : Tells2 s 0 (.map []) := fun q _ => ⟨by simp [prev2]; rfl, by simp [prev2]; rfl⟩
theorem tells2_put {s : ByteArray} {p : Nat} {D : Dm} (hm : IsMap D) (h : Tells2 s p D) : Tells2 s (p + 1) (D.put (key2 s p) (.lit (.int .i64 (p : Int)))) := by
  intro q hq
  have hk : WideAt.IsKeyLit (key2 s p) := law2.key (key_of2 s p)
  rw [prev2]
  by_cases hh : heads2 (bt s) q p = true
  · rw [if_pos hh, key2_eq hh, Maps.has_put_same hm hk, Maps.atKey_put_same hm hk]
    refine ⟨?_, ?_⟩
    · simp
    · rw [if_neg (by omega)]
  · rw [if_neg hh, Maps.has_put_other (key2_ne (by simpa using hh)), Maps.atKey_put_other (key2_ne (by simpa using hh))]
    exact h q hq
/-- The cells of the nodes, as a function. -/
def cf (xs : List Int) (i : Nat) : Int := xs.getD i 0
/-- A slice that owns just these nodes; its block, where it has one, belongs to c. -/
structure Nodes (w : World) (O : Paint) (c : Nat) (v : Value) (n : Nat) (xs : List Int) : Prop where
  row : w.ownsRow 0 178 2 v n (xs.map (Value.int .i64))
  paint : ∀ k, v.ownBlock = some k → O k = c
  len : xs.length = n * 2
section
variable {cs : List Nat} {w w' : World} {O O' : Paint} {c n : Nat} {v : Value} {xs : List Int}
theorem Nodes.step (h : Nodes w O c v n xs) (hs : Step cs w O w' O') (hc : c ∉ cs) : Nodes w' O' c v n xs :=
  ⟨ownsRow_frame h.row hs.frame (fun k hk ho => hc (by rw [h.paint k hk] at ho; exact ho)), fun k hk => (hs.ext k (ownsRow_lt h.row k hk)).trans (h.paint k hk), h.len⟩
theorem Nodes.form (h : Nodes w O c v n xs) (hn : 0 < n) : ∃ g cap, v = .slice (some ⟨g, 0, none⟩) n cap ∧ O g = c ∧ g < w.heap.size := by
  rcases h.row.2 with ⟨_, h2⟩ | ⟨g, cap, cur, rfl, _, hg, _⟩
  · omega
  · exact ⟨g, cap, rfl, h.paint g rfl, lt_of_heap hg⟩
theorem Nodes.cell {g cap : Nat} (h : Nodes w O c (.slice (some ⟨g, 0, none⟩) n cap) n xs) {j : Nat} (hj : j < n * 2) : w.cell? ⟨g, j, none⟩ = some (.int .i64 (cf xs j)) := by
  have hl := h.len
  rw [World.ownsRow.cellAt h.row j (by omega), List.getElem?_map, List.getElem?_eq_getElem (by omega)]
  unfold cf
  rw [List.getD_eq_getElem?_getD, List.getElem?_eq_getElem (by omega)]
  rfl
theorem Nodes.free {g cap : Nat} (h : Nodes w O c (.slice (some ⟨g, 0, none⟩) n cap) n xs) (j : Nat) : w.frozen? ⟨g, j, none⟩ = false := by
  rcases h.row.2 with ⟨e1, _⟩ | ⟨g', cap', cur, e1, _, hg, _⟩
  · simp at e1
  · simp only [Value.slice.injEq, Option.some.injEq, Addr.mk.injEq, and_true] at e1
    rw [← e1.1] at hg
    simp [World.frozen?, hg]
theorem cf_set {xs : List Int} {i : Nat} (x : Int) (hi : i < xs.length) : cf (xs.set i x) = upd (cf xs) i x := by
  funext j
  show (xs.set i x).getD j 0 = if j = i then x else xs.getD j 0
  rw [List.getD_eq_getElem?_getD, List.getD_eq_getElem?_getD]
  by_cases e : j = i
  · subst e; rw [List.getElem?_set_self hi, if_pos rfl]; rfl
  · rw [List.getElem?_set_ne (fun h => e h.symm), if_neg e]
theorem Nodes.set {g cap : Nat} (h : Nodes w O c (.slice (some ⟨g, 0, none⟩) n cap) n xs) (j : Nat) (x : Int) : Nodes (w.setCell ⟨g, j, none⟩ (.int .i64 x)) O c (.slice (some ⟨g, 0, none⟩) n cap) n (xs.set j x) := by
  refine ⟨?_, h.paint, by rw [List.length_set]; exact h.len⟩
  rw [List.map_set]
  exact (World.ownsRow.stored h.row j (.int .i64 x)).1
theorem Nodes.setCell_other (h : Nodes w O c v n xs) {p : Addr} (hp : v.ownBlock ≠ some p.block) (u : Value) : Nodes (w.setCell p u) O c v n xs :=
  ⟨ownsRow_frame h.row ((Frame.refl (fun k => k = p.block) w).setCell (.inl rfl) u) (fun k hk e1 => hp (by rw [hk, e1])), h.paint, h.len⟩
end
/-- Block a is a finder of the text s, at the place p; the map knows the places below r; all that it has belongs to c. -/
structure BinAt (w : World) (O : Paint) (c a : Nat) (s : ByteArray) (window : Int) (p r : Nat) (B : Nat) (v : Value) (xs : List Int) (D : Dm) : Prop where
  blk : Blk w O c a (.cells #[.string s, .int .i64 window, .int .i64 (p : Int), .map (some B), v] 126 (0, 0))
  nodes : Nodes w O c v s.size xs
  own : w.ownsMap Tryz.prog 194 (plainElem Tryz.prog 3) B r D
  ownC : O B = c
  tells : p + 2 ≤ s.size → Tells2 s r D
  place : p ≤ s.size
  small : s.size ≤ 1000000000000
theorem five {w : World} {X : Nat} {a b c d e : Value} {t : TypeId} (h : w.heap[X]? = some (.cells #[a, b, c, d, e] t (0, 0))) :
    w.cell? ⟨X, 0, none⟩ = some a ∧ w.cell? ⟨X, 1, none⟩ = some b ∧ w.cell? ⟨X, 2, none⟩ = some c ∧ w.cell? ⟨X, 3, none⟩ = some d ∧ w.cell? ⟨X, 4, none⟩ = some e := by
  refine ⟨?_, ?_, ?_, ?_, ?_⟩ <;> simp [World.cell?, h]
section
variable {cs : List Nat} {w w' : World} {O O' : Paint} {c a : Nat} {s : ByteArray} {window : Int} {p r B : Nat} {v : Value} {xs : List Int} {D : Dm}
theorem BinAt.cells (h : BinAt w O c a s window p r B v xs D) : w.cell? ⟨a, 0, none⟩ = some (.string s) ∧ w.cell? ⟨a, 1, none⟩ = some (.int .i64 window) ∧ w.cell? ⟨a, 2, none⟩ = some (.int .i64 (p : Int)) ∧ w.cell? ⟨a, 3, none⟩ = some (.map (some B)) ∧ w.cell? ⟨a, 4, none⟩ = some v := five h.blk.1
theorem BinAt.ne (h : BinAt w O c a s window p r B v xs D) : a ≠ B ∧ v.ownBlock ≠ some a ∧ v.ownBlock ≠ some B := by
  obtain ⟨es, clock, hb, _⟩ := h.own
  refine ⟨?_, ?_, ?_⟩
  · rintro rfl
    rw [h.blk.1] at hb
    cases hb
  · intro e
    rcases h.nodes.row.2 with ⟨e1, _⟩ | ⟨g, cap, cur, rfl, _, hg, _⟩
    · rw [e1] at e; simp [Value.ownBlock] at e
    · simp [Value.ownBlock] at e
      subst e
      rw [h.blk.1] at hg
      simp at hg
  · intro e
    rcases h.nodes.row.2 with ⟨e1, _⟩ | ⟨g, cap, cur, rfl, _, hg, _⟩
    · rw [e1] at e; simp [Value.ownBlock] at e
    · simp [Value.ownBlock] at e
      subst e
      rw [hb] at hg
      cases hg
theorem BinAt.step (h : BinAt w O c a s window p r B v xs D) (hs : Step cs w O w' O') (hc : c ∉ cs) : BinAt w' O' c a s window p r B v xs D := by
  refine ⟨h.blk.step hs hc, h.nodes.step hs hc, ?_, (hs.ext B h.own.lt).trans h.ownC, h.tells, h.place, h.small⟩
  have hlt := h.own.lt
  obtain ⟨es, clock, hb, h1, h2, h3⟩ := h.own
  exact ⟨es, clock, (hs.block hlt (by rw [h.ownC]; exact hc)).trans hb, h1, h2, h3⟩
theorem BinAt.below (h : BinAt w O c a s window p r B v xs D) (hb : Below w.heap.size w w') : BinAt w' O c a s window p r B v xs D := h.step (Step.of_below_same hb O) (by simp)
theorem BinAt.drewN (h : BinAt w O c a s window p r B v xs D) (n : Nat) : BinAt (w.drewN n) O c a s window p r B v xs D := h.step ((Step.refl [] w O).drewN n) (by simp)
theorem BinAt.drew (h : BinAt w O c a s window p r B v xs D) : BinAt w.drew O c a s window p r B v xs D := h.step ((Step.refl [] w O).drew) (by simp)
/-- The next place is looked at. -/
theorem BinAt.move (h : BinAt w O c a s window p r B v xs D) (hp : p < s.size) (hr : p + 2 ≤ s.size → r = p + 1) (hr2 : s.size < p + 2 → r ≤ p + 1) : BinAt (w.setCell ⟨a, 2, none⟩ (.int .i64 ((p : Int) + 1))) O c a s window (p + 1) (p + 1) B v xs D ∧ Step [c] w O (w.setCell ⟨a, 2, none⟩ (.int .i64 ((p : Int) + 1))) O := by
  obtain ⟨n1, n2, n3⟩ := h.ne
  have hrp : r ≤ p + 1 := by omega
  refine ⟨⟨by simpa using h.blk.setCell 2 (.int .i64 ((p : Int) + 1)), h.nodes.setCell_other (p := ⟨a, 2, none⟩) n2 _, (h.own.setCell (a := ⟨a, 2, none⟩) (Ne.symm n1) _).mono hrp, h.ownC, fun h3 => ?_, hp, h.small⟩, (Step.refl [c] w O).setCell (p := ⟨a, 2, none⟩) (.inl (by simp [h.blk.2])) _⟩
  have := h.tells (by omega)
  rw [hr (by omega)] at this
  exact this
/-- The place is in the map. -/
theorem BinAt.mapped (h : BinAt w O c a s window p p B v xs D) (hp : p + 2 ≤ s.size)
    (hown : w'.ownsMap Tryz.prog 194 (plainElem Tryz.prog 3) B (p + 1) (D.put (key2 s p) (.lit (.int .i64 (p : Int))))) (hg : w.grownBy w' (some B)) :
    BinAt w' O c a s window p (p + 1) B v xs (D.put (key2 s p) (.lit (.int .i64 (p : Int)))) ∧ Step [c] w O w' O := by
  obtain ⟨n1, n2, n3⟩ := h.ne
  have hst : Step [c] w O w' O := (Step.refl [c] w O).grown hg (fun k hk => by cases hk; exact .inl (by simp [h.ownC]))
  refine ⟨⟨⟨(hg.block a h.blk.lt (by simpa using n1)).trans h.blk.1, h.blk.2⟩, ⟨?_, h.nodes.paint, h.nodes.len⟩, hown, h.ownC, fun _ => tells2_put (h.own.isMap) (h.tells hp), h.place, h.small⟩, hst⟩
  exact ownsRow_frame h.nodes.row ((Frame.refl (fun k => k = B) w).grown hg (fun k hk => by cases hk; exact .inl rfl)) (fun k hk e1 => n3 (by rw [hk, e1]))
/-- What the map tells of the place's head. -/
theorem BinAt.look (h : BinAt w O c a s window p p B v xs D) (hp : p + 2 ≤ s.size) :
    (Instr.lookup 123 (.map (some B)) (val2 s p) true).run Tryz.prog w = .ok (.tuple #[.int .i64 (if prev2 (bt s) p p = -1 then 0 else prev2 (bt s) p p), .bool (decide (prev2 (bt s) p p ≠ -1))]) w := by
  obtain ⟨v0, ps0, hrun, hR⟩ := h.own.look_ok law2 Tryz.underlying123 (zeroE w) (plainElem_int Tryz.underlying3 (by decide)) (key_of2 s p)
  obtain ⟨h1, h2⟩ := h.tells hp p hp
  obtain ⟨n, rfl, hz, _⟩ := plainElem_int_inv Tryz.underlying3 hR
  have hz1 := congrArg Prod.fst hz
  simp only [h2] at hz1
  rw [h1] at hrun
  cases hz1
  exact hrun
end
end Go.Proofs.YtoneghmahdjgbaaGreat.Bs
end
