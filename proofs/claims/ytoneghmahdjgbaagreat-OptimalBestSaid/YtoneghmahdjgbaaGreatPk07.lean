/-
  The document's answer for layer 7: contracts of Matches and At.
  Layer 7's statements: speaks.
  The walk of the statement ChainFinds: for every text, window and cut it returns true, and writes nothing that was there.
  Plain mathematics of layer 8: trees of places, and what is found on the way down.
-/
import Derived.Test.YtoneghmahdjgbaaGreatPk05
import Derived.Test.YtoneghmahdjgbaaGreatPk06
import Derived.Laws.StructEq
section
section
namespace Go.Proofs.YtoneghmahdjgbaaGreat.Ch
open Go.RowKit Go.Maps
open Mt
end Go.Proofs.YtoneghmahdjgbaaGreat.Ch
end
section
namespace Go.Proofs.YtoneghmahdjgbaaGreat.Ch
open Go.RowKit Go.Maps
open Mt
def abc : ByteArray := ⟨#[97, 98, 99, 97, 98, 99, 100]⟩
/-- A finder at a place, since w; nothing that was there was written. -/
def FinOk (w0 : World) (O : Paint) (c a : Nat) (s : ByteArray) (window cut : Int) (p B : Nat) (v : Value) (w : World) : Prop := ∃ xs D, FinAt w O c a s window cut p p B v xs D ∧ Below w0.heap.size w0 w ∧ ∀ k, k < w0.heap.size → O k ≠ c
theorem FinOk.news {w0 w w' : World} {O : Paint} {c a : Nat} {s : ByteArray} {window cut : Int} {p B : Nat} {v : Value} (h : FinOk w0 O c a s window cut p B v w) (hb : Below w.heap.size w w') : FinOk w0 O c a s window cut p B v w' := by
  obtain ⟨xs, D, h1, h2, h3⟩ := h
  exact ⟨xs, D, h1.below hb, h2.trans (hb.mono h2.size), h3⟩
theorem FinOk.next {w0 w w' : World} {O : Paint} {c a : Nat} {s : ByteArray} {window cut : Int} {p p' B : Nat} {v : Value} (h : FinOk w0 O c a s window cut p B v w) {xs' : List Int} {D' : Dm} (hs : Step [c] w O w' O) (hF : FinAt w' O c a s window cut p' p' B v xs' D') : FinOk w0 O c a s window cut p' B v w' := by
  obtain ⟨xs, D, h1, h2, h3⟩ := h
  exact ⟨xs', D', hF, h2.trans (hs.below h2.size (fun k hk => by simpa using h3 k hk)), h3⟩
/-- Next, of a finder in a law. -/
def NextOk (w0 w : World) (O : Paint) (c a : Nat) (s : ByteArray) (window cut : Int) (p B : Nat) (v : Value) (x : Ending) (w' : World) : Prop :=
  ∃ v', x = .returned v' ∧ Founds 93 w w' v' (foundL s window cut p) ∧ FinOk w0 O c a s window cut (min (p + 1) s.size) B v w'
/-- New, in a law: the finder's colour is new. -/
def NewOk (w0 w : World) (s : ByteArray) (window cut : Int) (x : Ending) (w' : World) : Prop := ∃ O c a B v, x = .returned (.pointer (some ⟨a, 0, none⟩)) ∧ FinOk w0 O c a s window cut 0 B v w' ∧ Below w.heap.size w w'
end Go.Proofs.YtoneghmahdjgbaaGreat.Ch
end
section
namespace Go.Proofs.YtoneghmahdjgbaaGreat.Ch
open Go.RowKit Go.Maps
open Mt
theorem Founds.small {t : TypeId} {w0 w : World} {v : Value} {l : List (Nat × Nat)} (h : Founds t w0 w v l) : l.length ≤ 9223372036854775807 := by
  rcases h.row.2 with ⟨_, h2⟩ | ⟨g, cap, cur, _, _, _, h1, h2, _⟩
  · omega
  · unfold maxLen at h2; omega
theorem Founds.cells {t : TypeId} {w0 w : World} {A : Option Addr} {n cap : Nat} {l : List (Nat × Nat)} (h : Founds t w0 w (.slice A n cap) l) (hn : 0 < l.length) : ∃ g, A = some ⟨g, 0, none⟩ ∧ ∀ i (hi : i < l.length), w.cell? ⟨g, i * 2, none⟩ = some (.int .i64 (l[i].1 : Int)) ∧ w.cell? ⟨g, i * 2 + 1, none⟩ = some (.int .i64 (l[i].2 : Int)) := by
  rcases h.form with ⟨_, rfl⟩ | ⟨g, cap', e, _⟩
  · simp at hn
  · have e' := e
    simp only [Value.slice.injEq] at e'
    obtain ⟨rfl, _, _⟩ := e'
    exact ⟨g, rfl, fun i hi => h.cell i hi⟩
theorem ret_bool {a b : Bool} (h : a = b) : Ending.returned (.bool a) = .returned (.bool b) := by rw [h]
theorem FinOk.below {w0 w : World} {O : Paint} {c a : Nat} {s : ByteArray} {window cut : Int} {p B : Nat} {v : Value} (h : FinOk w0 O c a s window cut p B v w) : Below w0.heap.size w0 w := by
  obtain ⟨_, _, _, hb, _⟩ := h
  exact hb
end Go.Proofs.YtoneghmahdjgbaaGreat.Ch
end
end
section
namespace Go.Proofs.YtoneghmahdjgbaaGreat.Mt
/-- Of the first k bytes those at y are not greater than those at x. -/
def leK (b : Nat → Nat) (k y x : Nat) : Prop := ∀ n, n < k → (∀ j, j < n → b (y + j) = b (x + j)) → b (y + n) ≤ b (x + n)
def eqK (b : Nat → Nat) (k y x : Nat) : Prop := ∀ j, j < k → b (y + j) = b (x + j)
theorem leK.mono {b : Nat → Nat} {k k' y x : Nat} (h : leK b k y x) (hk : k' ≤ k) : leK b k' y x := fun n hn => h n (by omega)
theorem eqK.mono {b : Nat → Nat} {k k' y x : Nat} (h : eqK b k y x) (hk : k' ≤ k) : eqK b k' y x := fun n hn => h n (by omega)
theorem eqK.symm {b : Nat → Nat} {k y x : Nat} (h : eqK b k y x) : eqK b k x y := fun j hj => (h j hj).symm
theorem eqK.le {b : Nat → Nat} {k y x : Nat} (h : eqK b k y x) : leK b k y x := fun n hn _ => by rw [h n hn]; exact Nat.le_refl _
theorem leK.trans {b : Nat → Nat} {k y x z : Nat} (h : leK b k y x) (g : leK b k x z) : leK b k y z := by
  intro n hn he
  have key : ∀ m, m ≤ n → ∀ j, j < m → b (y + j) = b (x + j) := by
    intro m
    induction m with
    | zero => intro _ j hj; omega
    | succ m ih =>
      intro hm j hj
      have ih' := ih (by omega)
      by_cases e : j = m
      · subst e
        have h1 := h j (by omega) ih'
        have h2 := g j (by omega) (fun i hi => by rw [← ih' i hi]; exact he i (by omega))
        have h3 := he j (by omega)
        omega
      · exact ih' j (by omega)
  have hx := key n (Nat.le_refl _)
  have h1 := h n hn hx
  have h2 := g n hn (fun i hi => by rw [← hx i hi]; exact he i hi)
  omega
theorem leK.anti {b : Nat → Nat} {k y x : Nat} (h : leK b k y x) (g : leK b k x y) : eqK b k y x := by
  intro j hj
  induction j using Nat.strongRecOn with
  | _ j ih =>
    have h1 := h j hj (fun i hi => ih i hi (by omega))
    have h2 := g j hj (fun i hi => (ih i hi (by omega)).symm)
    omega
theorem mat_eq {b : Nat → Nat} {p q k : Nat} (h : mat b p q 0 k = k) : eqK b k q p := fun j hj => (mat_same b p q k 0 j (Nat.zero_le _) (by omega)).symm
theorem eqK.mat {b : Nat → Nat} {p q r k m : Nat} (h : eqK b m q r) (hk : k ≤ m) : Mt.mat b p q 0 k = Mt.mat b p r 0 k := by
  have key : ∀ (i n : Nat), n + i ≤ m → Mt.mat b p q n i = Mt.mat b p r n i := by
    intro i
    induction i with
    | zero => intro n _; rfl
    | succ i ih =>
      intro n hn
      rw [Mt.mat, Mt.mat, h n (by omega), ih (n + 1) (by omega)]
  exact key k 0 (by omega)
theorem mat_at {b : Nat → Nat} {p q k n : Nat} (h : eqK b n q p) (hn : n ≤ k) : Mt.mat b p q 0 k = Mt.mat b p q n (k - n) := by
  have := mat_from b p q n 0 (k - n) (fun j _ hj => (h j (by omega)).symm)
  rw [show n + (k - n) = k from by omega, Nat.zero_add] at this
  exact this
/-- Trees of places. -/
inductive Tr where
  | nil
  | node (x : Nat) (l r : Tr)
def Tr.mem (y : Nat) : Tr → Prop
  | .nil => False
  | .node x l r => y = x ∨ l.mem y ∨ r.mem y
/-- Below a place lie farther ones, of lesser texts on one side, of greater ones on the other. -/
def Tr.ok (b lim : Nat → Nat) : Tr → Prop
  | .nil => True
  | .node x l r => (∀ y, l.mem y → y < x ∧ leK b (lim x) y x) ∧ (∀ y, r.mem y → y < x ∧ leK b (lim x) x y) ∧ (∀ y, l.mem y → ¬ r.mem y) ∧ l.ok b lim ∧ r.ok b lim
/-- The way down: what is met, and what goes to both sides. -/
def Tr.split (b : Nat → Nat) (p k : Nat) (W : Int) : Tr → List Nat × Tr × Tr
  | .nil => ([], .nil, .nil)
  | .node x l r => if W < (p : Int) - x then ([], .nil, .nil)
    else if mat b p x 0 k = k then ([x], l, r)
    else if b (x + mat b p x 0 k) < b (p + mat b p x 0 k) then (x :: (r.split b p k W).1, .node x l (r.split b p k W).2.1, (r.split b p k W).2.2)
    else (x :: (l.split b p k W).1, (l.split b p k W).2.1, .node x (l.split b p k W).2.2 r)
structure Split (b lim : Nat → Nat) (p k : Nat) (W : Int) (t : Tr) (s : List Nat × Tr × Tr) : Prop where
  memL : ∀ y, s.2.1.mem y → t.mem y
  memR : ∀ y, s.2.2.mem y → t.mem y
  apart : ∀ y, s.2.1.mem y → ¬ s.2.2.mem y
  leL : ∀ y, s.2.1.mem y → leK b k y p
  leR : ∀ y, s.2.2.mem y → leK b k p y
  okL : s.2.1.ok b lim
  okR : s.2.2.ok b lim
  met : ∀ y, y ∈ s.1 → t.mem y ∧ ¬ W < (p : Int) - y
  desc : s.1.Pairwise (fun x y => y < x)
  dom : ∀ y, t.mem y → ¬ W < (p : Int) - y → y ∈ s.1 ∨ ∃ m, m ∈ s.1 ∧ y < m ∧ mat b p y 0 k ≤ mat b p m 0 k
  stay : ∀ y, t.mem y → s.2.1.mem y ∨ s.2.2.mem y ∨ W < (p : Int) - y ∨ eqK b k y p
theorem lt_leK {b : Nat → Nat} {p x k : Nat} (_hn : mat b p x 0 k < k) (h : b (x + mat b p x 0 k) < b (p + mat b p x 0 k)) : leK b k x p := by
  intro n hk he
  by_cases h1 : n < mat b p x 0 k
  · rw [mat_same b p x k 0 n (Nat.zero_le _) h1]; exact Nat.le_refl _
  · by_cases h2 : n = mat b p x 0 k
    · rw [h2]; omega
    · have := he (mat b p x 0 k) (by omega)
      omega
theorem gt_leK {b : Nat → Nat} {p x k : Nat} (hn : mat b p x 0 k < k) (h : ¬ b (x + mat b p x 0 k) < b (p + mat b p x 0 k)) : leK b k p x := by
  have hne := mat_end b p x k 0 (by omega)
  intro n hk he
  by_cases h1 : n < mat b p x 0 k
  · rw [mat_same b p x k 0 n (Nat.zero_le _) h1]; exact Nat.le_refl _
  · by_cases h2 : n = mat b p x 0 k
    · rw [h2]; omega
    · have := he (mat b p x 0 k) (by omega)
      omega
/-- What is passed by matches no more. -/
theorem pass_less {b : Nat → Nat} {p x y k : Nat} (hn : mat b p x 0 k < k) (h : b (x + mat b p x 0 k) < b (p + mat b p x 0 k)) (hy : leK b k y x) : mat b p y 0 k ≤ mat b p x 0 k := by
  apply Nat.le_of_not_lt
  intro hlt
  have hs := fun j hj => mat_same b p y k 0 j (Nat.zero_le _) hj
  have h1 := hy (mat b p x 0 k) hn (fun j hj => by
    rw [← hs j (by omega)]
    exact mat_same b p x k 0 j (Nat.zero_le _) hj)
  have h2 := hs (mat b p x 0 k) hlt
  omega
theorem pass_more {b : Nat → Nat} {p x y k : Nat} (hn : mat b p x 0 k < k) (h : ¬ b (x + mat b p x 0 k) < b (p + mat b p x 0 k)) (hy : leK b k x y) : mat b p y 0 k ≤ mat b p x 0 k := by
  apply Nat.le_of_not_lt
  intro hlt
  have hne := mat_end b p x k 0 (by omega)
  have hs := fun j hj => mat_same b p y k 0 j (Nat.zero_le _) hj
  have h1 := hy (mat b p x 0 k) hn (fun j hj => by
    rw [← hs j (by omega)]
    exact (mat_same b p x k 0 j (Nat.zero_le _) hj).symm)
  have h2 := hs (mat b p x 0 k) hlt
  omega
theorem split_spec {b lim : Nat → Nat} {p k : Nat} {W : Int} : ∀ (t : Tr), t.ok b lim → (∀ y, t.mem y → y < p ∧ k ≤ lim y) → Split b lim p k W t (t.split b p k W)
  | .nil, _, _ => ⟨fun y h => h, fun y h => h, fun y h => h.elim, fun y h => h.elim, fun y h => h.elim, trivial, trivial, fun y h => by simp [Tr.split] at h, by simp [Tr.split], fun y h => h.elim, fun y h => h.elim⟩
  | .node x l r, ⟨o1, o2, o3, o4, o5⟩, hm => by
    have hxp := hm x (.inl rfl)
    have hl := split_spec (b := b) (lim := lim) (p := p) (k := k) (W := W) l o4 (fun y hy => hm y (.inr (.inl hy)))
    have hr := split_spec (b := b) (lim := lim) (p := p) (k := k) (W := W) r o5 (fun y hy => hm y (.inr (.inr hy)))
    have far : ∀ y, (Tr.node x l r).mem y → y ≤ x := by
      rintro y (rfl | h | h)
      · exact Nat.le_refl _
      · exact Nat.le_of_lt (o1 y h).1
      · exact Nat.le_of_lt (o2 y h).1
    rw [Tr.split]
    by_cases hw : W < (p : Int) - x
    · rw [if_pos hw]
      exact ⟨fun y h => h.elim, fun y h => h.elim, fun y h => h.elim, fun y h => h.elim, fun y h => h.elim, trivial, trivial, fun y h => by simp at h, by simp, fun y h hy => by have := far y h; omega, fun y h => by have := far y h; exact .inr (.inr (.inl (by omega)))⟩
    · rw [if_neg hw]
      have hle := mat_le b p x k 0
      by_cases hf : mat b p x 0 k = k
      · rw [if_pos hf]
        have he := mat_eq hf
        refine ⟨fun y h => .inr (.inl h), fun y h => .inr (.inr h), o3, fun y h => ((o1 y h).2.mono hxp.2).trans he.le, fun y h => he.symm.le.trans ((o2 y h).2.mono hxp.2), o4, o5, ?_, by simp, ?_, ?_⟩
        · intro y h
          simp at h
          subst h
          exact ⟨.inl rfl, hw⟩
        · rintro y (rfl | h | h) _
          · exact .inl (by simp)
          · exact .inr ⟨x, by simp, (o1 y h).1, by have := mat_le b p y k 0; omega⟩
          · exact .inr ⟨x, by simp, (o2 y h).1, by have := mat_le b p y k 0; omega⟩
        · rintro y (rfl | h | h)
          · exact .inr (.inr (.inr he))
          · exact .inl h
          · exact .inr (.inl h)
      · rw [if_neg hf]
        have hlt : mat b p x 0 k < k := by omega
        by_cases hc : b (x + mat b p x 0 k) < b (p + mat b p x 0 k)
        · rw [if_pos hc]
          have hxl := lt_leK hlt hc
          refine ⟨?_, fun y h => .inr (.inr (hr.memR y h)), ?_, ?_, hr.leR, ⟨o1, fun y h => o2 y (hr.memL y h), fun y h g => o3 y h (hr.memL y g), o4, hr.okL⟩, hr.okR, ?_, ?_, ?_, ?_⟩
          · rintro y (rfl | h | h)
            · exact .inl rfl
            · exact .inr (.inl h)
            · exact .inr (.inr (hr.memL y h))
          · rintro y (rfl | h | h) g
            · have := (o2 y (hr.memR y g)).1; omega
            · exact o3 y h (hr.memR y g)
            · exact hr.apart y h g
          · rintro y (rfl | h | h)
            · exact hxl
            · exact ((o1 y h).2.mono hxp.2).trans hxl
            · exact hr.leL y h
          · intro y h
            rcases List.mem_cons.1 h with rfl | h
            · exact ⟨.inl rfl, hw⟩
            · exact ⟨.inr (.inr (hr.met y h).1), (hr.met y h).2⟩
          · exact List.pairwise_cons.2 ⟨fun y h => (o2 y (hr.met y h).1).1, hr.desc⟩
          · rintro y (rfl | h | h) hy
            · exact .inl (by simp)
            · exact .inr ⟨x, by simp, (o1 y h).1, pass_less hlt hc ((o1 y h).2.mono hxp.2)⟩
            · rcases hr.dom y h hy with g | ⟨m, g1, g2, g3⟩
              · exact .inl (by simp [g])
              · exact .inr ⟨m, by simp [g1], g2, g3⟩
          · rintro y (rfl | h | h)
            · exact .inl (.inl rfl)
            · exact .inl (.inr (.inl h))
            · rcases hr.stay y h with g | g | g
              · exact .inl (.inr (.inr g))
              · exact .inr (.inl g)
              · exact .inr (.inr g)
        · rw [if_neg hc]
          have hxl := gt_leK hlt hc
          refine ⟨fun y h => .inr (.inl (hl.memL y h)), ?_, ?_, hl.leL, ?_, hl.okL, ⟨fun y h => o1 y (hl.memR y h), o2, fun y h g => o3 y (hl.memR y h) g, hl.okR, o5⟩, ?_, ?_, ?_, ?_⟩
          · rintro y (rfl | h | h)
            · exact .inl rfl
            · exact .inr (.inl (hl.memR y h))
            · exact .inr (.inr h)
          · rintro y g (rfl | h | h)
            · have := (o1 y (hl.memL y g)).1; omega
            · exact hl.apart y g h
            · exact o3 y (hl.memL y g) h
          · rintro y (rfl | h | h)
            · exact hxl
            · exact hl.leR y h
            · exact hxl.trans ((o2 y h).2.mono hxp.2)
          · intro y h
            rcases List.mem_cons.1 h with rfl | h
            · exact ⟨.inl rfl, hw⟩
            · exact ⟨.inr (.inl (hl.met y h).1), (hl.met y h).2⟩
          · exact List.pairwise_cons.2 ⟨fun y h => (o1 y (hl.met y h).1).1, hl.desc⟩
          · rintro y (rfl | h | h) hy
            · exact .inl (by simp)
            · rcases hl.dom y h hy with g | ⟨m, g1, g2, g3⟩
              · exact .inl (by simp [g])
              · exact .inr ⟨m, by simp [g1], g2, g3⟩
            · exact .inr ⟨x, by simp, (o2 y h).1, pass_more hlt hc ((o2 y h).2.mono hxp.2)⟩
          · rintro y (rfl | h | h)
            · exact .inr (.inl (.inl rfl))
            · rcases hl.stay y h with g | g | g
              · exact .inl g
              · exact .inr (.inl (.inr (.inl g)))
              · exact .inr (.inr g)
            · exact .inr (.inl (.inr (.inr h)))
end Go.Proofs.YtoneghmahdjgbaaGreat.Mt
end
