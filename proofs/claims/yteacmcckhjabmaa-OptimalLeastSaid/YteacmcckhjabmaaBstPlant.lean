/-
  Plain mathematics of layer 8: a place is planted: the way down, step by step, in memory.
-/
import Derived.Test.YteacmcckhjabmaaBstForest
namespace Go.Proofs.Yteacmcckhjabmaa.Mt
/-- One cell is written. -/
def upd (c : Nat → Int) (i : Nat) (v : Int) : Nat → Int := fun j => if j = i then v else c j
theorem upd_same (c : Nat → Int) (i : Nat) (v : Int) : upd c i v i = v := by unfold upd; rw [if_pos rfl]
theorem upd_other {c : Nat → Int} {i j : Nat} (v : Int) (h : j ≠ i) : upd c i v j = c j := by unfold upd; rw [if_neg h]
/-- On the way down: what is left of the tree, where lesser and greater ones go to, and what has been built. -/
structure Plant (b lim : Nat → Nat) (p k : Nat) (W : Int) (t0 : Tr) (c0 c : Nat → Int) (t : Tr) (v : Int) (ms : List Nat) (hL hR : Nat) (fL fR : Tr → Tr) (sL sM : Nat) : Prop where
  cur : Tre c v t
  outL : ∀ y, t.mem y → hL ≠ 2 * y ∧ hL ≠ 2 * y + 1
  outR : ∀ y, t.mem y → hR ≠ 2 * y ∧ hR ≠ 2 * y + 1
  ne : hL ≠ hR
  ofL : Of p t0 hL
  ofR : Of p t0 hR
  frame : ∀ i, ¬ Of p t0 i → c i = c0 i
  sub : ∀ y, t.mem y → t0.mem y
  build : ∀ (c' : Nat → Int) (L' R' : Tr), (∀ i, i ≠ hL → i ≠ hR → (∀ y, t.mem y → i ≠ 2 * y ∧ i ≠ 2 * y + 1) → c' i = c i) → Tre c' (c' hL) L' → Tre c' (c' hR) R' → Tre c' (c' (2 * p)) (fL L') ∧ Tre c' (c' (2 * p + 1)) (fR R')
  split : t0.split b p k W = (ms ++ (t.split b p k W).1, fL (t.split b p k W).2.1, fR (t.split b p k W).2.2)
  lo : ∀ y, t.mem y → leK b sL p y
  hi : ∀ y, t.mem y → leK b sM y p
  ok : t.ok b lim
  below : ∀ y, t.mem y → y < p ∧ k ≤ lim y
  sLk : sL ≤ k
  sMk : sM ≤ k
theorem plant_start {b lim : Nat → Nat} {p k : Nat} {W : Int} {t : Tr} {c : Nat → Int} {v : Int} (hc : Tre c v t) (hok : t.ok b lim) (hm : ∀ y, t.mem y → y < p ∧ heads2 b p y = true) (hlim : ∀ y, y < p → k ≤ lim y) (h2 : 2 ≤ k) :
    Plant b lim p k W t c c t v [] (2 * p) (2 * p + 1) id id 2 2 := by
  have he : ∀ y, t.mem y → eqK b 2 y p := fun y hy j hj => by
    obtain ⟨e0, e1⟩ := heads2_iff.1 (hm y hy).2
    have : j = 0 ∨ j = 1 := by omega
    rcases this with rfl | rfl
    · exact e0.symm
    · exact e1.symm
  exact ⟨hc, fun y hy => by have := (hm y hy).1; omega, fun y hy => by have := (hm y hy).1; omega, by omega, ⟨p, .inl rfl, .inl rfl⟩, ⟨p, .inl rfl, .inr rfl⟩, fun _ _ => rfl, fun _ h => h, fun c' L' R' _ h1 h2 => ⟨h1, h2⟩, by simp, fun y hy => (he y hy).symm.le, fun y hy => (he y hy).le, hok, fun y hy => ⟨(hm y hy).1, hlim y (hm y hy).1⟩, h2, h2⟩
section
variable {b lim : Nat → Nat} {p k : Nat} {W : Int} {t0 : Tr} {c0 c : Nat → Int} {v : Int} {ms : List Nat} {hL hR : Nat} {fL fR : Tr → Tr} {sL sM : Nat}
/-- So many bytes are known to match. -/
theorem Plant.known {t : Tr} (h : Plant b lim p k W t0 c0 c t v ms hL hR fL fR sL sM) {x : Nat} (hx : t.mem x) : mat b p x 0 k = mat b p x (min sL sM) (k - min sL sM) := by
  have h1 := (h.lo x hx).mono (show min sL sM ≤ sL by omega)
  have h2 := (h.hi x hx).mono (show min sL sM ≤ sM by omega)
  exact mat_at (h2.anti h1) (by have := h.sLk; omega)
theorem Plant.at {x : Nat} {l r : Tr} (h : Plant b lim p k W t0 c0 c (.node x l r) v ms hL hR fL fR sL sM) : v = (x : Int) ∧ x < p := ⟨h.cur.1, (h.below x (.inl rfl)).1⟩
theorem Plant.none (h : Plant b lim p k W t0 c0 c .nil v ms hL hR fL fR sL sM) : v = -1 := h.cur
theorem Plant.less {x : Nat} {l r : Tr} (h : Plant b lim p k W t0 c0 c (.node x l r) v ms hL hR fL fR sL sM) (hw : ¬ W < (p : Int) - x) (hn : mat b p x 0 k < k) (hc : b (x + mat b p x 0 k) < b (p + mat b p x 0 k)) :
    Plant b lim p k W t0 c0 (upd c hL (x : Int)) r (c (2 * x + 1)) (ms ++ [x]) (2 * x + 1) hR (fun L' => fL (.node x l L')) fR (mat b p x 0 k) sM := by
  obtain ⟨o1, o2, o3, o4, o5⟩ := h.ok
  have oL := h.outL x (.inl rfl)
  have oR := h.outR x (.inl rfl)
  have hxp := h.below x (.inl rfl)
  have uo : ∀ i, i ≠ hL → upd c hL (x : Int) i = c i := fun i hi => upd_other _ hi
  refine ⟨?_, ?_, fun y hy => h.outR y (.inr (.inr hy)), by omega, ⟨x, .inr (h.sub x (.inl rfl)), .inr rfl⟩, h.ofR, ?_, fun y hy => h.sub y (.inr (.inr hy)), ?_, ?_, ?_, fun y hy => h.hi y (.inr (.inr hy)), o5, fun y hy => h.below y (.inr (.inr hy)), by omega, h.sMk⟩
  · exact h.cur.2.2.same (fun y hy => by
      have := h.outL y (.inr (.inr hy))
      exact ⟨uo _ (by omega), uo _ (by omega)⟩)
  · intro y hy
    have := (o2 y hy).1
    omega
  · intro i hi
    rw [uo i (by rintro rfl; exact hi h.ofL)]
    exact h.frame i hi
  · intro c' L' R' hcc hL' hR'
    have cL : c' hL = (x : Int) := by
      rw [hcc hL (by omega) h.ne (fun y hy => h.outL y (.inr (.inr hy))), upd_same]
    have cx : c' (2 * x) = c (2 * x) := by
      rw [hcc (2 * x) (by omega) (by omega) (fun y hy => by have := (o2 y hy).1; omega), uo _ (by omega)]
    refine h.build c' (.node x l L') R' (fun i i1 i2 i3 => ?_) ?_ hR'
    · have hx := i3 x (.inl rfl)
      rw [hcc i (by omega) i2 (fun y hy => i3 y (.inr (.inr hy))), uo i i1]
    · refine ⟨cL, ?_, hL'⟩
      rw [cx]
      exact h.cur.2.1.same (fun y hy => by
        have q1 := h.outL y (.inr (.inl hy))
        have q2 := h.outR y (.inr (.inl hy))
        have q3 := (o1 y hy).1
        have q4 : ∀ z, r.mem z → y ≠ z := fun z hz e => o3 y hy (e ▸ hz)
        exact ⟨by rw [hcc _ (by omega) (by omega) (fun z hz => by have := q4 z hz; omega), uo _ (by omega)], by rw [hcc _ (by omega) (by omega) (fun z hz => by have := q4 z hz; omega), uo _ (by omega)]⟩)
  · rw [h.split, Tr.split, if_neg hw, if_neg (by omega), if_pos hc]
    simp
  · intro y hy
    have he : eqK b (mat b p x 0 k) p x := fun j hj => mat_same b p x k 0 j (Nat.zero_le _) hj
    exact he.le.trans ((o2 y hy).2.mono (by omega))
theorem Plant.more {x : Nat} {l r : Tr} (h : Plant b lim p k W t0 c0 c (.node x l r) v ms hL hR fL fR sL sM) (hw : ¬ W < (p : Int) - x) (hn : mat b p x 0 k < k) (hc : ¬ b (x + mat b p x 0 k) < b (p + mat b p x 0 k)) :
    Plant b lim p k W t0 c0 (upd c hR (x : Int)) l (c (2 * x)) (ms ++ [x]) hL (2 * x) fL (fun R' => fR (.node x R' r)) sL (mat b p x 0 k) := by
  obtain ⟨o1, o2, o3, o4, o5⟩ := h.ok
  have oL := h.outL x (.inl rfl)
  have oR := h.outR x (.inl rfl)
  have hxp := h.below x (.inl rfl)
  have uo : ∀ i, i ≠ hR → upd c hR (x : Int) i = c i := fun i hi => upd_other _ hi
  refine ⟨?_, fun y hy => h.outL y (.inr (.inl hy)), ?_, by omega, h.ofL, ⟨x, .inr (h.sub x (.inl rfl)), .inl rfl⟩, ?_, fun y hy => h.sub y (.inr (.inl hy)), ?_, ?_, fun y hy => h.lo y (.inr (.inl hy)), ?_, o4, fun y hy => h.below y (.inr (.inl hy)), h.sLk, by omega⟩
  · exact h.cur.2.1.same (fun y hy => by
      have := h.outR y (.inr (.inl hy))
      exact ⟨uo _ (by omega), uo _ (by omega)⟩)
  · intro y hy
    have := (o1 y hy).1
    omega
  · intro i hi
    rw [uo i (by rintro rfl; exact hi h.ofR)]
    exact h.frame i hi
  · intro c' L' R' hcc hL' hR'
    have hne := h.ne
    have cR : c' hR = (x : Int) := by
      rw [hcc hR (by omega) (by omega) (fun y hy => h.outR y (.inr (.inl hy))), upd_same]
    have cx : c' (2 * x + 1) = c (2 * x + 1) := by
      rw [hcc (2 * x + 1) (by omega) (by omega) (fun y hy => by have := (o1 y hy).1; omega), uo _ (by omega)]
    refine h.build c' L' (.node x R' r) (fun i i1 i2 i3 => ?_) hL' ?_
    · have hx := i3 x (.inl rfl)
      rw [hcc i i1 (by omega) (fun y hy => i3 y (.inr (.inl hy))), uo i i2]
    · refine ⟨cR, hR', ?_⟩
      rw [cx]
      exact h.cur.2.2.same (fun y hy => by
        have q1 := h.outL y (.inr (.inr hy))
        have q2 := h.outR y (.inr (.inr hy))
        have q3 := (o2 y hy).1
        have q4 : ∀ z, l.mem z → y ≠ z := fun z hz e => o3 z hz (e ▸ hy)
        exact ⟨by rw [hcc _ (by omega) (by omega) (fun z hz => by have := q4 z hz; omega), uo _ (by omega)], by rw [hcc _ (by omega) (by omega) (fun z hz => by have := q4 z hz; omega), uo _ (by omega)]⟩)
  · rw [h.split, Tr.split, if_neg hw, if_neg (by omega), if_neg hc]
    simp
  · intro y hy
    have he : eqK b (mat b p x 0 k) x p := fun j hj => (mat_same b p x k 0 j (Nat.zero_le _) hj).symm
    exact ((o1 y hy).2.mono (by omega)).trans he.le
/-- The end: what lies beyond is gone. -/
theorem Plant.stop {t : Tr} (h : Plant b lim p k W t0 c0 c t v ms hL hR fL fR sL sM) (ht : t.split b p k W = ([], .nil, .nil)) : (t0.split b p k W).1 = ms ∧ Planted b p k W t0 c0 (upd (upd c hL (-1)) hR (-1)) := by
  have hs := h.split
  rw [ht] at hs
  have hne := h.ne
  have e2 : ∀ i, i ≠ hL → i ≠ hR → upd (upd c hL (-1)) hR (-1) i = c i := fun i i1 i2 => by rw [upd_other _ i2, upd_other _ i1]
  have := h.build (upd (upd c hL (-1)) hR (-1)) .nil .nil (fun i i1 i2 _ => e2 i i1 i2) (by rw [upd_other _ hne, upd_same]; rfl) (by rw [upd_same]; rfl)
  refine ⟨by rw [hs]; simp, ?_, ?_, fun i hi => ?_⟩
  · rw [hs]; exact this.1
  · rw [hs]; exact this.2
  · rw [e2 i (by rintro rfl; exact hi h.ofL) (by rintro rfl; exact hi h.ofR)]
    exact h.frame i hi
/-- The end: a place that matches to the limit is replaced. -/
theorem Plant.full {x : Nat} {l r : Tr} (h : Plant b lim p k W t0 c0 c (.node x l r) v ms hL hR fL fR sL sM) (hw : ¬ W < (p : Int) - x) (hn : mat b p x 0 k = k) : (t0.split b p k W).1 = ms ++ [x] ∧ Planted b p k W t0 c0 (upd (upd c hL (c (2 * x))) hR (c (2 * x + 1))) := by
  have hs := h.split
  rw [Tr.split, if_neg hw, if_pos hn] at hs
  have hne := h.ne
  have e2 : ∀ i, i ≠ hL → i ≠ hR → upd (upd c hL (c (2 * x))) hR (c (2 * x + 1)) i = c i := fun i i1 i2 => by rw [upd_other _ i2, upd_other _ i1]
  have hl : Tre (upd (upd c hL (c (2 * x))) hR (c (2 * x + 1))) (c (2 * x)) l := h.cur.2.1.same (fun y hy => by
    have q1 := h.outL y (.inr (.inl hy))
    have q2 := h.outR y (.inr (.inl hy))
    exact ⟨e2 _ (by omega) (by omega), e2 _ (by omega) (by omega)⟩)
  have hr : Tre (upd (upd c hL (c (2 * x))) hR (c (2 * x + 1))) (c (2 * x + 1)) r := h.cur.2.2.same (fun y hy => by
    have q1 := h.outL y (.inr (.inr hy))
    have q2 := h.outR y (.inr (.inr hy))
    exact ⟨e2 _ (by omega) (by omega), e2 _ (by omega) (by omega)⟩)
  have := h.build (upd (upd c hL (c (2 * x))) hR (c (2 * x + 1))) l r (fun i i1 i2 _ => e2 i i1 i2) (by rw [upd_other _ hne, upd_same]; exact hl) (by rw [upd_same]; exact hr)
  refine ⟨by rw [hs], ?_, ?_, fun i hi => ?_⟩
  · rw [hs]; exact this.1
  · rw [hs]; exact this.2
  · rw [e2 i (by rintro rfl; exact hi h.ofL) (by rintro rfl; exact hi h.ofR)]
    exact h.frame i hi
end
end Go.Proofs.Yteacmcckhjabmaa.Mt
