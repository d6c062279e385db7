/-
  Package context: what contexts are in memory ('RwAt'); tables of one colour; the contract of step.
-/
import Derived.Test.YteacmcckhjabmaaContextNew
import Derived.Test.YteacmcckhjabmaaCtxMap
import Derived.Test.YteacmcckhjabmaaCtxMath
import Derived.Test.YteacmcckhjabmaaFreqDev
import Derived.StillTailTactics
set_option linter.unusedVariables false
set_option linter.unusedSimpArgs false
namespace Go.Proofs.Yteacmcckhjabmaa.Cx
open Go.RowKit
open Rc Ar Fq
theorem fresh1 (O : Paint) (n : Nat) : ∃ f, ∀ k, k < n → O k ≠ f := by
  induction n with
  | zero => exact ⟨0, fun k hk => by omega⟩
  | succ n ih =>
    have : ∃ f, ∀ k, k < n + 1 → O k < f := by
      clear ih
      induction n with
      | zero => exact ⟨O 0 + 1, fun k hk => by have : k = 0 := by omega
                                               subst this; omega⟩
      | succ n ih =>
        obtain ⟨f, hf⟩ := ih
        refine ⟨f + O (n + 1) + 1, fun k hk => ?_⟩
        by_cases e : k = n + 1
        · subst e; omega
        · have := hf k (by omega); omega
    obtain ⟨f, hf⟩ := this
    exact ⟨f, fun k hk => by have := hf k hk; omega⟩
/-- Tables of one colour, that lie apart. -/
structure Tabs (w : World) (O : Paint) (c : Nat) (K : Nat → Option Tl) (tb : Nat → Nat) (tv : Nat → Value) : Prop where
  tab : ∀ i l, K i = some l → TabAt w O c (tb i) (tv i) l
  apart : ∀ i j, (K i).isSome = true → (K j).isSome = true → i ≠ j → tb i ≠ tb j ∧ ∀ k, (tv i).ownBlock = some k → (tv j).ownBlock ≠ some k
def putK (K : Nat → Option Tl) (i : Nat) (l : Tl) : Nat → Option Tl := fun j => if j = i then some l else K j
def putN (tb : Nat → Nat) (i a : Nat) : Nat → Nat := fun j => if j = i then a else tb j
def putV (tv : Nat → Value) (i : Nat) (v : Value) : Nat → Value := fun j => if j = i then v else tv j
section
variable {cs : List Nat} {w w' : World} {O O' : Paint} {c : Nat} {K : Nat → Option Tl} {tb : Nat → Nat} {tv : Nat → Value}
theorem Tabs.step (h : Tabs w O c K tb tv) (hs : Step cs w O w' O') (hc : c ∉ cs) : Tabs w' O' c K tb tv := ⟨fun i l hi => (h.tab i l hi).step hs hc, h.apart⟩
theorem Tabs.zero (w : World) (O : Paint) (c : Nat) (tb : Nat → Nat) (tv : Nat → Value) : Tabs w O c (fun _ => none) tb tv := ⟨(fun i l hi => by cases hi), (fun i j hi => by cases hi)⟩
/-- One of them, in a colour of its own. -/
theorem Tabs.own (h : Tabs w O c K tb tv) {i : Nat} {l : Tl} (hi : K i = some l) : ∃ O1 c1, TabAt w O1 c1 (tb i) (tv i) l ∧ (∀ k, k < w.heap.size → O1 k = c1 → k = tb i ∨ (tv i).ownBlock = some k) := by
  obtain ⟨f, hf⟩ := fresh1 O w.heap.size
  have ht := h.tab i l hi
  refine ⟨fun k => if k = tb i ∨ (tv i).ownBlock = some k then f else O k, f, ⟨⟨ht.1.1, by dsimp only; rw [if_pos (.inl rfl)]⟩, ht.2.1, fun k hk => by dsimp only; rw [if_pos (.inr hk)]⟩, fun k hk he => ?_⟩
  dsimp only at he
  split at he
  · assumption
  · exact absurd he (hf k hk)
/-- Behind a call that turned one of them alone. -/
theorem Tabs.back (h : Tabs w O c K tb tv) {i : Nat} {l l' : Tl} (hi : K i = some l) {O1 O2 : Paint} {c1 : Nat} {v' : Value} (hO : ∀ k, k < w.heap.size → O1 k = c1 → k = tb i ∨ (tv i).ownBlock = some k) (hs : Step [c1] w O1 w' O2) (ht : TabAt w' O2 c1 (tb i) v' l') :
    Step [c] w O w' (Step.paint O w c) ∧ Tabs w' (Step.paint O w c) c (putK K i l') tb (putV tv i v') := by
  have h0 := h.tab i l hi
  have hs2 : Step [c] w O w' (Step.paint O w c) := ⟨hs.frame.mono (fun k hk ho => by
    have e : O1 k = c1 := by simpa using ho
    rcases hO k hk e with rfl | hv
    · simp [h0.1.2]
    · simp [h0.2.2 k hv]), fun k hk => Step.paint_old hk⟩
  have hown : ∀ k, v'.ownBlock = some k → w.heap.size ≤ k ∨ (tv i).ownBlock = some k := by
    intro k hk
    by_cases hlt : k < w.heap.size
    · right
      have e1 : O1 k = c1 := by rw [← hs.ext k hlt]; exact ht.2.2 k hk
      rcases hO k hlt e1 with rfl | hv
      · exfalso
        have := ht.1.1
        rcases ht.2.1.2 with ⟨e2, _⟩ | ⟨g, cap, cur, e2, _, hg, _⟩
        · rw [e2] at hk; cases hk
        · rw [e2] at hk
          simp only [Value.ownBlock, Option.some.injEq] at hk
          subst hk
          rw [this] at hg
          simp only [Option.some.injEq, Obj.cells.injEq] at hg
          exact absurd hg.2.1 (by decide)
      · exact hv
    · left; omega
  have hother : ∀ j m, j ≠ i → K j = some m → TabAt w' (Step.paint O w c) c (tb j) (tv j) m := by
    intro j m hj hm
    have h1 := h.tab j m hm
    obtain ⟨a1, a2⟩ := h.apart j i (by rw [hm]; rfl) (by rw [hi]; rfl) hj
    have hlt := h1.1.lt
    have hblk : ∀ k, k < w.heap.size → k ≠ tb i → (tv i).ownBlock ≠ some k → w'.heap[k]? = w.heap[k]? := fun k hk n1 n2 => hs.block hk (by
      intro ho
      have e : O1 k = c1 := by simpa using ho
      rcases hO k hk e with e1 | e1
      · exact n1 e1
      · exact n2 e1)
    refine ⟨⟨(hblk _ hlt a1 (fun e => ?_)).trans h1.1.1, (Step.paint_old hlt).trans h1.1.2⟩, ?_, fun k hk => (Step.paint_old (h1.2.lt hk)).trans (h1.2.2 k hk)⟩
    · rcases h0.2.1.2 with ⟨e2, _⟩ | ⟨g, cap, cur, e2, _, hg, _⟩
      · rw [e2] at e; cases e
      · rw [e2] at e
        simp only [Value.ownBlock, Option.some.injEq] at e
        rw [e, h1.1.1] at hg
        simp only [Option.some.injEq, Obj.cells.injEq] at hg
        exact absurd hg.2.1 (by decide)
    · refine ⟨h1.2.1.1, ?_⟩
      rcases h1.2.1.2 with h2 | ⟨g, cap, cur, e2, hb, hg, hr⟩
      · exact .inl h2
      · refine .inr ⟨g, cap, cur, e2, hb, (hblk g (lt_of_heap hg) (fun e => ?_) (a2 g (by rw [e2]; rfl))).trans hg, hr⟩
        rw [e, h0.1.1] at hg
        simp only [Option.some.injEq, Obj.cells.injEq] at hg
        exact absurd hg.2.1 (by decide)
  have hpair : ∀ j, j ≠ i → (K j).isSome = true → tb i ≠ tb j ∧ ∀ k, v'.ownBlock = some k → (tv j).ownBlock ≠ some k := by
    intro j hj hjs
    obtain ⟨a1, a2⟩ := h.apart i j (by rw [hi]; rfl) hjs (fun e => hj e.symm)
    refine ⟨a1, fun k hk => ?_⟩
    rcases hown k hk with e | e
    · obtain ⟨m, hm⟩ := Option.isSome_iff_exists.1 hjs
      intro e2
      have := (h.tab j m hm).2.lt e2
      omega
    · exact a2 k e
  refine ⟨hs2, ⟨fun j m hm => ?_, fun j k hj hk hne => ?_⟩⟩
  · unfold putK at hm
    unfold putV
    by_cases e : j = i
    · subst e
      rw [if_pos rfl] at hm
      cases hm
      try dsimp only
      rw [if_pos rfl]
      refine ⟨⟨ht.1.1, (Step.paint_old h0.1.lt).trans h0.1.2⟩, ht.2.1, fun k hk => ?_⟩
      rcases hown k hk with e | e
      · exact Step.paint_new e
      · exact (Step.paint_old (h0.2.lt e)).trans (h0.2.2 k e)
    · rw [if_neg e] at hm
      try dsimp only
      rw [if_neg e]
      exact hother j m e hm
  · have hj' : j ≠ i → (K j).isSome = true := fun e => by unfold putK at hj; rw [if_neg e] at hj; exact hj
    have hk' : k ≠ i → (K k).isSome = true := fun e => by unfold putK at hk; rw [if_neg e] at hk; exact hk
    unfold putV
    try dsimp only
    by_cases e1 : j = i
    · subst e1
      have e2 : k ≠ j := fun e => hne e.symm
      rw [if_pos rfl, if_neg e2]
      exact hpair k e2 (hk' e2)
    · rw [if_neg e1]
      by_cases e2 : k = i
      · subst e2
        rw [if_pos rfl]
        obtain ⟨b1, b2⟩ := hpair j e1 (hj' e1)
        exact ⟨fun e => b1 e.symm, fun q hq hq2 => b2 q hq2 hq⟩
      · rw [if_neg e2]
        exact h.apart j k (hj' e1) (hk' e2) hne
/-- One more, that is new. -/
theorem Tabs.more (h : Tabs w O c K tb tv) (hs : Step [] w O w' O') {i a : Nat} (hi : K i = none) (ha : w.heap.size ≤ a) (ht : TabAt w' O' c a (.slice none 0 0) []) : Tabs w' O' c (putK K i []) (putN tb i a) (putV tv i (.slice none 0 0)) := by
  have h' := h.step hs (by simp)
  have hlt : ∀ j, (K j).isSome = true → tb j ≠ a := by
    intro j hj e
    obtain ⟨m, hm⟩ := Option.isSome_iff_exists.1 hj
    have := (h.tab j m hm).1.lt
    omega
  refine ⟨fun j m hm => ?_, fun j k hj hk hne => ?_⟩
  · unfold putK at hm
    unfold putN putV
    try dsimp only
    by_cases e : j = i
    · subst e
      rw [if_pos rfl] at hm
      cases hm
      rw [if_pos rfl, if_pos rfl]
      exact ht
    · rw [if_neg e] at hm
      rw [if_neg e, if_neg e]
      exact h'.tab j m hm
  · have hj' : j ≠ i → (K j).isSome = true := fun e => by unfold putK at hj; rw [if_neg e] at hj; exact hj
    have hk' : k ≠ i → (K k).isSome = true := fun e => by unfold putK at hk; rw [if_neg e] at hk; exact hk
    unfold putN putV
    try dsimp only
    by_cases e1 : j = i
    · subst e1
      have e2 : k ≠ j := fun e => hne e.symm
      rw [if_pos rfl, if_neg e2, if_pos rfl, if_neg e2]
      exact ⟨fun e => hlt k (hk' e2) e.symm, fun q hq => by cases hq⟩
    · rw [if_neg e1, if_neg e1]
      by_cases e2 : k = i
      · subst e2
        rw [if_pos rfl, if_pos rfl]
        exact ⟨hlt j (hj' e1), fun q hq hq2 => by cases hq2⟩
      · rw [if_neg e2, if_neg e2]
        exact h.apart j k (hj' e1) (hk' e2) hne
end
def iv (l : List Nat) : List Value := l.map fun (i : Nat) => Value.int .i64 (i : Int)
def bv (l : List Nat) : List Value := l.map fun (i : Nat) => Value.int .u8 (i : Int)
theorem iv_len (l : List Nat) : (iv l).length = l.length := by simp [iv]
theorem bv_len (l : List Nat) : (bv l).length = l.length := by simp [bv]
/-- What contexts have in memory. -/
structure CM where
  a : Nat
  mb : Nat
  z : Aren
  B : Nat → Nat
  A : Nat → Array Value
  vp : Value
  vf : Value
  vh : Value
  vq : Value
  tb : Nat → Nat
  tv : Nat → Value
abbrev ArAt (w : World) (O : Paint) (b a : Nat) (z : Aren) (B : Nat → Nat) (A : Nat → Array Value) (vp vf : Value) : Prop := ArenaAt w O (b + 1) (b + 2) (b + 3) (b + 4) a 159 198 186 z 0 B A vp vf
/-- Block d is contexts; all that they have belongs to the colours from b to b + 8. -/
structure RwAt (w : World) (O : Paint) (b d : Nat) (m : CM) (r : Rw) : Prop where
  obj : Blk w O b d (.cells #[.int .i64 (r.order : Int), .pointer (some ⟨m.a, 0, none⟩), .map (some m.mb), m.vh, m.vq, .int .i64 (r.rs : Int)] 117 (0, 0))
  ar : ArAt w O b m.a m.z m.B m.A m.vp m.vf
  free : m.z.F = []
  cells : m.z.cells = r.cells
  used : m.z.used = r.used
  hist : Held w O (b + 5) 5 m.vh (bv r.hist)
  pth : Held w O (b + 6) 3 m.vq (iv r.pth)
  map : StepAt w O (b + 7) m.mb r.used r.f
  tabs : Tabs w O (b + 8) r.K m.tb m.tv
  cont : ∀ i, (r.K i).isSome = true → m.z.C i = (.pointer (some ⟨m.tb i, 0, none⟩), true)
  ok : r.Ok
/-- The colours of contexts. -/
def cols (b : Nat) : List Nat := [b, b + 1, b + 2, b + 3, b + 4, b + 5, b + 6, b + 7, b + 8]
section
variable {cs : List Nat} {w w' : World} {O O' : Paint} {b d : Nat} {m : CM} {r : Rw}
theorem RwAt.idle (h : RwAt w O b d m r) (hs : Step [] w O w' O') : RwAt w' O' b d m r :=
  ⟨h.obj.step hs (by simp), h.ar.idle hs, h.free, h.cells, h.used, h.hist.step hs (by simp), h.pth.step hs (by simp), h.map.step hs (by simp), h.tabs.step hs (by simp), h.cont, h.ok⟩
theorem RwAt.step (h : RwAt w O b d m r) (hs : Step cs w O w' O') (hc : ∀ c, c ∈ cols b → c ∉ cs) : RwAt w' O' b d m r :=
  ⟨h.obj.step hs (hc _ (by simp [cols])), h.ar.step hs (hc _ (by simp [cols])) (hc _ (by simp [cols])) (hc _ (by simp [cols])) (hc _ (by simp [cols])), h.free, h.cells, h.used, h.hist.step hs (hc _ (by simp [cols])), h.pth.step hs (hc _ (by simp [cols])), h.map.step hs (hc _ (by simp [cols])), h.tabs.step hs (hc _ (by simp [cols])), h.cont, h.ok⟩
end
end Go.Proofs.Yteacmcckhjabmaa.Cx
