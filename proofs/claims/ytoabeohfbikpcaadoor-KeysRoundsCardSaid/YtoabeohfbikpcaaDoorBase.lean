/-
  Plain laws on worlds: what a call may have written ('Frame own': all blocks that were there are as they were, but for those that 'own' names), and an append that tells where its result lies: in the row that it had, or in a new one.
  Plain laws on worlds: blocks that belong to somebody ('Paint': a number for each block), what a call may have written ('Step cs': only blocks of the colours cs, and new ones), and rows of numbers that belong to a colour. No program is named here.
  Plain mathematics of layer 3 (ranges): the encoder as numbers (Low, Range, turns), its steps, its bytes (Low, the highest byte first), and what always holds of it. No program is named here.
  Rows of bytes: what a slice of bytes owns, in memory.
  Plain mathematics of layer 3: the decoder as numbers, its steps, and what always holds of it. No program is named here.
  Plain mathematics of layer 3: what was encoded is decoded again. F is the last Low, T its turns: the decoder of F's bytes follows the encoder, step by step. No program is named here.
  Plain mathematics of layer 4: numbers bit by bit, by a tree of probabilities. No program is named here.
-/
import Derived.WalkKit
import Derived.WalkSmall
import Derived.ArgAppend
import Derived.Below
import Derived.Deep.Draws
import Derived.Laws.OwnMore
import Derived.Test.YtoabeohfbikpcaaDoorProg
import Derived.WalkSpells
import Derived.WalkLawsBesides
import Derived.ProofKit
import Derived.Outline
import Derived.Laws.IdiomStrings
import Derived.Deep.QuietTactic
import Derived.BigQuiet
import Derived.RegionTactic
import Derived.Lib.Hide
import Derived.IntWalk
import Derived.Deep.LoopGhost
import Derived.Deep.DeepCutAuto
section
namespace Go.Proofs.YtoabeohfbikpcaaDoor
open Go.RowKit

structure Frame (own : Nat → Prop) (w w' : World) : Prop where
  os : w'.os = w.os
  tape : w'.tape = w.tape
  output : w'.output = w.output
  size : w.heap.size ≤ w'.heap.size
  block : ∀ k, k < w.heap.size → ¬ own k → w'.heap[k]? = w.heap[k]?

namespace Frame
variable {own own' : Nat → Prop} {w w' w'' : World}
theorem refl (own : Nat → Prop) (w : World) : Frame own w w := ⟨rfl, rfl, rfl, Nat.le_refl _, fun _ _ _ => rfl⟩
theorem trans (h : Frame own w w') (k : Frame own' w' w'') (hs : ∀ k, k < w.heap.size → own' k → own k) : Frame own w w'' :=
  ⟨k.os.trans h.os, k.tape.trans h.tape, k.output.trans h.output, Nat.le_trans h.size k.size, fun i hi hn => (k.block i (Nat.lt_of_lt_of_le hi h.size) (fun ho => hn (hs i hi ho))).trans (h.block i hi hn)⟩
theorem mono (h : Frame own w w') (hs : ∀ k, k < w.heap.size → own k → own' k) : Frame own' w w' :=
  ⟨h.os, h.tape, h.output, h.size, fun i hi hn => h.block i hi (fun ho => hn (hs i hi ho))⟩
theorem drew (h : Frame own w w') : Frame own w w'.drew := ⟨h.os, h.tape, h.output, h.size, h.block⟩
theorem drewN (h : Frame own w w') (n : Nat) : Frame own w (w'.drewN n) := ⟨h.os, h.tape, h.output, h.size, h.block⟩
theorem of_drewN (n : Nat) : Frame own w (w.drewN n) := (refl own w).drewN n
theorem from_drewN {n : Nat} (h : Frame own (w.drewN n) w') : Frame own w w' := ⟨h.os, h.tape, h.output, h.size, h.block⟩
theorem alloc (h : Frame own w w') (o : Obj) : Frame own w (w'.alloc o) :=
  ⟨h.os, h.tape, h.output, Nat.le_trans h.size (by simp), fun i hi hn => (Below.heap_alloc w' o i (Nat.lt_of_lt_of_le hi h.size)).trans (h.block i hi hn)⟩
theorem setCell (h : Frame own w w') {p : Addr} (hp : own p.block ∨ w.heap.size ≤ p.block) (u : Value) : Frame own w (w'.setCell p u) :=
  ⟨h.os, h.tape, h.output, by simpa using h.size, fun i hi hn => (Below.heap_setCell w' p u i (fun e => by
    rcases hp with hp | hp
    · exact hn (e ▸ hp)
    · omega)).trans (h.block i hi hn)⟩
theorem grown {row : Option Nat} (h : Frame own w w') (hg : w'.grownBy w'' row) (hr : ∀ k, row = some k → own k ∨ w.heap.size ≤ k) : Frame own w w'' :=
  ⟨hg.os.trans h.os, hg.tape.trans h.tape, hg.output.trans h.output, Nat.le_trans h.size hg.size, fun i hi hn => (hg.block i (Nat.lt_of_lt_of_le hi h.size) (fun e => by
    rcases hr i e.symm with hp | hp
    · exact hn hp
    · omega)).trans (h.block i hi hn)⟩
theorem below {B : Nat} (h : Frame own w w') (hB : B ≤ w.heap.size) (hn : ∀ k, k < B → ¬ own k) : Below B w w' :=
  ⟨h.os, h.tape, h.output, h.size, fun k hk => h.block k (Nat.lt_of_lt_of_le hk hB) (hn k hk)⟩
theorem of_below {B : Nat} (h : Below B w w') : Frame (fun k => B ≤ k) w w' :=
  ⟨h.os, h.tape, h.output, h.size, fun k _ hn => h.block k (by omega)⟩
theorem of_below_size (h : Below w.heap.size w w') : Frame own w w' :=
  ⟨h.os, h.tape, h.output, h.size, fun k hk _ => h.block k hk⟩
theorem cell (h : Frame own w w') {p : Addr} (hp : p.block < w.heap.size) (hn : ¬ own p.block) : w'.cell? p = w.cell? p := World.cell?_of_block (h.block p.block hp hn)
end Frame

theorem lt_of_heap {w : World} {b : Nat} {o : Obj} (h : w.heap[b]? = some o) : b < w.heap.size := by
  rcases Nat.lt_or_ge b w.heap.size with h' | h'
  · exact h'
  · rw [Array.getElem?_eq_none h'] at h; cases h

/-- An owned row where nothing of it was written. -/
theorem ownsRow_frame {own : Nat → Prop} {w w' : World} {base : Nat} {e : TypeId} {size : Nat} {v : Value} {n : Nat} {xs : List Value} (h : w.ownsRow base e size v n xs) (hf : Frame own w w') (hn : ∀ k, v.ownBlock = some k → ¬ own k) : w'.ownsRow base e size v n xs := by
  refine ⟨h.1, ?_⟩
  rcases h.2 with h2 | ⟨g, cap, cur, rfl, hb, hg, r⟩
  · exact .inl h2
  · exact .inr ⟨g, cap, cur, rfl, hb, (hf.block g (lt_of_heap hg) (hn g rfl)).trans hg, r⟩
theorem ownsRow_lt {w : World} {base : Nat} {e : TypeId} {size : Nat} {v : Value} {n : Nat} {xs : List Value} (h : w.ownsRow base e size v n xs) : ∀ k, v.ownBlock = some k → k < w.heap.size := fun k hk => (h.lt k hk).2
theorem ownsRow_any {w : World} {base base' : Nat} {e : TypeId} {size : Nat} {v : Value} {n : Nat} {xs : List Value} (h : w.ownsRow base e size v n xs) (hb : ∀ k, v.ownBlock = some k → base' ≤ k) : w.ownsRow base' e size v n xs := by
  refine ⟨h.1, ?_⟩
  rcases h.2 with h2 | ⟨g, cap, cur, rfl, _, r⟩
  · exact .inl h2
  · exact .inr ⟨g, cap, cur, rfl, hb g rfl, r⟩

/-- Where the row of a slice lies behind a growth: where it lay, or in a new block. -/
def Moved (w : World) (v v' : Value) : Prop := v'.ownBlock = v.ownBlock ∨ ∀ k, v'.ownBlock = some k → w.heap.size ≤ k

/-- An append onto a row of one's own: the result lies where it lay, or in a new block. -/
theorem run_append_sep {P : Program} (w : World) (t ty e : TypeId) (i : TypeInfo) (z : Value) (size bytes : Nat) (ht : P.underlying t = some (.slice e)) (hi : P.info? e = some i) (hz : i.zero = some z)
    (hsize : i.size = size) (hby : i.bytes = bytes) (hzs : z.cells.size = size) (hsz : 0 < size)
    (v : Value) (n : Nat) (xs : List Value) (hown : w.ownsRow 0 e size v n xs)
    (a : Addr) (m c : Nat) (news : List Value) (hl : news.length = m * size) (hnews : ∀ j u, news[j]? = some u → w.cell? (a.add j) = some u) (h1 : ∀ u ∈ news, u.oneCell' = true)
    (h63 : n + m ≤ maxLen) (hbytes : (n + m) * bytes ≤ 140737488355328) :
    ∃ v' w', (Builtin.append_ #[t, t] ty #[v, .slice (some a) m c]).run P w = .ok v' w' ∧ w'.ownsRow 0 e size v' (n + m) (xs ++ news) ∧ w.grownBy w' v.ownBlock ∧ Moved w v v' := by
  rcases hown.2 with ⟨rfl, rfl⟩ | ⟨g, cap, cur, rfl, hbg, hg, hnc, hcm, hcs, htake⟩
  · have hx : xs = [] := List.eq_nil_of_length_eq_zero (by simpa using hown.1)
    subst hx
    obtain ⟨v', w', hr, h2, h3, _⟩ := run_append_own (P := P) w w.heap.size t ty e i z size bytes ht hi hz hsize hby hzs hsz _ 0 [] (World.ownsRow_nil w _ e size) a m c news hl hnews h1 h63 hbytes (Nat.le_refl _)
    exact ⟨v', w', hr, ownsRow_any h2 (fun _ _ => Nat.zero_le _), h3, .inr fun k hk => (h2.lt k hk).1⟩
  · by_cases hroom : n + m ≤ cap
    · obtain ⟨v', w', hr, h2, h3, _⟩ := run_append_own (P := P) w 0 t ty e i z size bytes ht hi hz hsize hby hzs hsz _ n xs hown a m c news hl hnews h1 h63 hbytes (Nat.zero_le _)
      have hfit : n * i.size + news.length ≤ cur.size := by rw [hl, hcs, hsize, ← Nat.add_mul]; exact Nat.mul_le_mul_right _ hroom
      have hr2 := run_append_room (P := P) w t ty e i ht hi g n cap cur hg a m c news (by rw [hsize]; exact hl) hnews h1 hroom hfit
      rw [hr] at hr2
      injection hr2 with e1 e2
      exact ⟨v', w', hr, h2, h3, .inl (by rw [e1]; rfl)⟩
    · obtain ⟨v', w', hr, h2, h3⟩ := run_append_arg_grows (P := P) w t ty e i z size bytes ht hi hz hsize hby hzs hsz ⟨g, 0, none⟩ n cap xs hown.1 (hown.cells (g := g) rfl) a m c news hl hnews (by omega) h63 hbytes
      exact ⟨v', w', hr, ownsRow_any h2 (fun _ _ => Nat.zero_le _), ⟨h3.os, h3.tape, h3.output, h3.size, fun k hk _ => h3.block k hk (by simp)⟩, .inr fun k hk => (h2.lt k hk).1⟩
theorem wp_append_sep {P : Program} (w : World) {o : Oper} {a : Act} {K : Act → World → Prop} {Q : Exit → Act → World → Prop} (s x : Operand) (t : TypeId)
    (ho : o.op = .call { callee := .builtin .append, args := #[s, x], argTypes := #[t, t] })
    (e : TypeId) (i : TypeInfo) (z : Value) (size bytes : Nat) (ht : P.underlying t = some (.slice e)) (hi : P.info? e = some i) (hz : i.zero = some z)
    (hsize : i.size = size) (hby : i.bytes = bytes) (hzs : z.cells.size = size) (hsz : 0 < size)
    (v : Value) (n : Nat) (xs : List Value) (hs : a.eval s = v) (hown : w.ownsRow 0 e size v n xs)
    (ad : Addr) (m c : Nat) (news : List Value) (hx : a.eval x = .slice (some ad) m c) (hl : news.length = m * size) (hnews : ∀ j u, news[j]? = some u → w.cell? (ad.add j) = some u) (h1 : ∀ u ∈ news, u.oneCell' = true)
    (h63 : n + m ≤ maxLen) (hbytes : (n + m) * bytes ≤ 140737488355328)
    (h : ∀ v' w', w'.ownsRow 0 e size v' (n + m) (xs ++ news) → w.grownBy w' v.ownBlock → Moved w v v' → K (a.put o.dst v') w') : o.wp P a w K Q := by
  obtain ⟨v', w', hr, h2, h3, h4⟩ := run_append_sep (P := P) w t o.type e i z size bytes ht hi hz hsize hby hzs hsz v n xs hown ad m c news hl hnews h1 h63 hbytes
  unfold Oper.wp execOp
  simp only [ho, resolve, invoke, builtin, Sem.run_bind, Sem.run_pure, Result.andThen_ok, List.map_toArray, List.map_cons, List.map_nil, hs, hx, hr]
  exact h v' w' h2 h3 h4
theorem own_form {w : World} {base : Nat} {e : TypeId} {size : Nat} {v : Value} {n : Nat} {xs : List Value} (h : w.ownsRow base e size v n xs) (hn : 0 < n) : ∃ g cap, v = .slice (some ⟨g, 0, none⟩) n cap := by
  rcases h.2 with ⟨_, h2⟩ | ⟨g, cap, _, rfl, _⟩
  · omega
  · exact ⟨g, cap, rfl⟩
/-- An append of one element, that lies alone in the newest block. -/
theorem wpList_append_one {P : Program} (w : World) {ops : Array Oper} {rest : List Oper} {o : Oper} {a : Act} {Q : Exit → Act → World → Prop} (hgd : o.guard = none) (s x : Operand) (t : TypeId)
    (ho : o.op = .call { callee := .builtin .append, args := #[s, x], argTypes := #[t, t] })
    (e : TypeId) (i : TypeInfo) (z : Value) (size bytes : Nat) (ht : P.underlying t = some (.slice e)) (hi : P.info? e = some i) (hz : i.zero = some z)
    (hsize : i.size = size) (hby : i.bytes = bytes) (hzs : z.cells.size = size) (hsz : 0 < size)
    (v : Value) (n : Nat) (xs : List Value) (hs : a.eval s = v) (hown : w.ownsRow 0 e size v n xs)
    (ad : Addr) (c : Nat) (news : List Value) (hx : a.eval x = .slice (some ad) 1 c) (hl : news.length = 1 * size) (hnews : ∀ j u, news[j]? = some u → w.cell? (ad.add j) = some u) (h1 : ∀ u ∈ news, u.oneCell' = true)
    (h63 : n + 1 ≤ maxLen) (hbytes : (n + 1) * bytes ≤ 140737488355328)
    (h : ∀ g cap w', w'.ownsRow 0 e size (.slice (some ⟨g, 0, none⟩) (n + 1) cap) (n + 1) (xs ++ news) → w.grownBy w' v.ownBlock → Moved w v (.slice (some ⟨g, 0, none⟩) (n + 1) cap) → wpList P ops Q rest (a.put o.dst (.slice (some ⟨g, 0, none⟩) (n + 1) cap)) w') : wpList P ops Q (o :: rest) a w :=
  wpList_plain hgd fun _ hK => wp_append_sep w s x t ho e i z size bytes ht hi hz hsize hby hzs hsz v n xs hs hown ad 1 c news hx hl hnews h1 h63 hbytes fun v' w' h2 h3 h4 => by
    obtain ⟨g, cap, rfl⟩ := own_form h2 (by omega)
    exact hK _ _ (h g cap w' h2 h3 h4)
/-- An append of at least one element. -/
theorem wpList_append_more {P : Program} (w : World) {ops : Array Oper} {rest : List Oper} {o : Oper} {a : Act} {Q : Exit → Act → World → Prop} (hgd : o.guard = none) (s x : Operand) (t : TypeId)
    (ho : o.op = .call { callee := .builtin .append, args := #[s, x], argTypes := #[t, t] })
    (e : TypeId) (i : TypeInfo) (z : Value) (size bytes : Nat) (ht : P.underlying t = some (.slice e)) (hi : P.info? e = some i) (hz : i.zero = some z)
    (hsize : i.size = size) (hby : i.bytes = bytes) (hzs : z.cells.size = size) (hsz : 0 < size)
    (v : Value) (n : Nat) (xs : List Value) (hs : a.eval s = v) (hown : w.ownsRow 0 e size v n xs)
    (ad : Addr) (m c : Nat) (hm : 0 < m) (news : List Value) (hx : a.eval x = .slice (some ad) m c) (hl : news.length = m * size) (hnews : ∀ j u, news[j]? = some u → w.cell? (ad.add j) = some u) (h1 : ∀ u ∈ news, u.oneCell' = true)
    (h63 : n + m ≤ maxLen) (hbytes : (n + m) * bytes ≤ 140737488355328)
    (h : ∀ g cap w', w'.ownsRow 0 e size (.slice (some ⟨g, 0, none⟩) (n + m) cap) (n + m) (xs ++ news) → w.grownBy w' v.ownBlock → Moved w v (.slice (some ⟨g, 0, none⟩) (n + m) cap) → wpList P ops Q rest (a.put o.dst (.slice (some ⟨g, 0, none⟩) (n + m) cap)) w') : wpList P ops Q (o :: rest) a w :=
  wpList_plain hgd fun _ hK => wp_append_sep w s x t ho e i z size bytes ht hi hz hsize hby hzs hsz v n xs hs hown ad m c news hx hl hnews h1 h63 hbytes fun v' w' h2 h3 h4 => by
    obtain ⟨g, cap, rfl⟩ := own_form h2 (by omega)
    exact hK _ _ (h g cap w' h2 h3 h4)
theorem wpList_append_sep {P : Program} (w : World) {ops : Array Oper} {rest : List Oper} {o : Oper} {a : Act} {Q : Exit → Act → World → Prop} (hgd : o.guard = none) (s x : Operand) (t : TypeId)
    (ho : o.op = .call { callee := .builtin .append, args := #[s, x], argTypes := #[t, t] })
    (e : TypeId) (i : TypeInfo) (z : Value) (size bytes : Nat) (ht : P.underlying t = some (.slice e)) (hi : P.info? e = some i) (hz : i.zero = some z)
    (hsize : i.size = size) (hby : i.bytes = bytes) (hzs : z.cells.size = size) (hsz : 0 < size)
    (v : Value) (n : Nat) (xs : List Value) (hs : a.eval s = v) (hown : w.ownsRow 0 e size v n xs)
    (ad : Addr) (m c : Nat) (news : List Value) (hx : a.eval x = .slice (some ad) m c) (hl : news.length = m * size) (hnews : ∀ j u, news[j]? = some u → w.cell? (ad.add j) = some u) (h1 : ∀ u ∈ news, u.oneCell' = true)
    (h63 : n + m ≤ maxLen) (hbytes : (n + m) * bytes ≤ 140737488355328)
    (h : ∀ v' w', w'.ownsRow 0 e size v' (n + m) (xs ++ news) → w.grownBy w' v.ownBlock → Moved w v v' → wpList P ops Q rest (a.put o.dst v') w') : wpList P ops Q (o :: rest) a w :=
  wpList_plain hgd fun _ hK => wp_append_sep w s x t ho e i z size bytes ht hi hz hsize hby hzs hsz v n xs hs hown ad m c news hx hl hnews h1 h63 hbytes fun v' w' h2 h3 h4 => hK _ _ (h v' w' h2 h3 h4)
end Go.Proofs.YtoabeohfbikpcaaDoor
end
section
namespace Go.Proofs.YtoabeohfbikpcaaDoor
open Go.RowKit

theorem still {P : Program} {f : FuncId} {args : Array Value} {w : World} {r : Ending} (h : Calls P f args w fun e w' => e = r ∧ w = w') : Calls P f args w fun e w' => e = r ∧ w' = w := h.mono fun _ _ ⟨a, b⟩ => ⟨a, b.symm⟩
/-- Whose a block is. -/
abbrev Paint := Nat → Nat
/-- From w to w' only blocks of the colours cs were written, and new ones were made; no block that was there has another colour. -/
structure Step (cs : List Nat) (w : World) (O : Paint) (w' : World) (O' : Paint) : Prop where
  frame : Frame (fun k => O k ∈ cs) w w'
  ext : ∀ k, k < w.heap.size → O' k = O k
namespace Step
variable {cs ds : List Nat} {w w' w'' : World} {O O' O'' : Paint}
theorem refl (cs : List Nat) (w : World) (O : Paint) : Step cs w O w O := ⟨Frame.refl _ w, fun _ _ => rfl⟩
theorem size (h : Step cs w O w' O') : w.heap.size ≤ w'.heap.size := h.frame.size
theorem trans (h : Step cs w O w' O') (k : Step cs w' O' w'' O'') : Step cs w O w'' O'' :=
  ⟨h.frame.trans k.frame (fun i hi ho => by rw [h.ext i hi] at ho; exact ho), fun i hi => (k.ext i (Nat.lt_of_lt_of_le hi h.frame.size)).trans (h.ext i hi)⟩
theorem mono (h : Step cs w O w' O') (hs : ∀ c, c ∈ cs → c ∈ ds) : Step ds w O w' O' := ⟨h.frame.mono (fun _ _ ho => hs _ ho), h.ext⟩
theorem block (h : Step cs w O w' O') {k : Nat} (hk : k < w.heap.size) (hn : O k ∉ cs) : w'.heap[k]? = w.heap[k]? := h.frame.block k hk hn
theorem cell (h : Step cs w O w' O') {p : Addr} (hk : p.block < w.heap.size) (hn : O p.block ∉ cs) : w'.cell? p = w.cell? p := h.frame.cell hk hn
theorem frozen (h : Step cs w O w' O') {p : Addr} (hk : p.block < w.heap.size) (hn : O p.block ∉ cs) : w'.frozen? p = w.frozen? p := by
  unfold World.frozen?; rw [h.block hk hn]
theorem drewN (h : Step cs w O w' O') (n : Nat) : Step cs w O (w'.drewN n) O' := ⟨h.frame.drewN n, h.ext⟩
theorem drew (h : Step cs w O w' O') : Step cs w O w'.drew O' := ⟨h.frame.drew, h.ext⟩
theorem from_drewN {n : Nat} (h : Step cs (w.drewN n) O w' O') : Step cs w O w' O' := ⟨h.frame.from_drewN, h.ext⟩
theorem from_drew (h : Step cs w.drew O w' O') : Step cs w O w' O' := ⟨Frame.from_drewN (n := 1) h.frame, h.ext⟩
theorem setCell (h : Step cs w O w' O') {p : Addr} (hp : O p.block ∈ cs ∨ w.heap.size ≤ p.block) (u : Value) : Step cs w O (w'.setCell p u) O' :=
  ⟨h.frame.setCell hp u, h.ext⟩
theorem alloc (h : Step cs w O w' O') (o : Obj) : Step cs w O (w'.alloc o) O' := ⟨h.frame.alloc o, h.ext⟩
theorem grown {row : Option Nat} (h : Step cs w O w' O') (hg : w'.grownBy w'' row) (hr : ∀ k, row = some k → O k ∈ cs ∨ w.heap.size ≤ k) : Step cs w O w'' O' :=
  ⟨h.frame.grown hg hr, h.ext⟩
/-- All new blocks get one colour. -/
def paint (O : Paint) (w : World) (c : Nat) : Paint := fun k => if k < w.heap.size then O k else c
theorem paint_old {c k : Nat} (hk : k < w.heap.size) : paint O w c k = O k := by unfold paint; rw [if_pos hk]
theorem paint_new {c k : Nat} (hk : w.heap.size ≤ k) : paint O w c k = c := by unfold paint; rw [if_neg (by omega)]
theorem repaint (h : Step cs w O w' O') (c : Nat) : Step cs w O w' (paint O w c) := ⟨h.frame, fun _ hk => paint_old hk⟩
theorem of_below (h : Below w.heap.size w w') (O : Paint) (c : Nat) : Step [] w O w' (paint O w c) := ⟨Frame.of_below_size h, fun _ hk => paint_old hk⟩
theorem of_below_same (h : Below w.heap.size w w') (O : Paint) : Step [] w O w' O := ⟨Frame.of_below_size h, fun _ _ => rfl⟩
theorem nil (h : Step [] w O w' O') : Step cs w O w' O' := h.mono (fun _ hc => by cases hc)
/-- A store into somebody else's block goes through. -/
theorem setCell_both (h : Step cs w O w' O') {p : Addr} (hn : O p.block ∉ cs) (u : Value) : Step cs (w.setCell p u) O (w'.setCell p u) O' := by
  refine ⟨⟨h.frame.os, h.frame.tape, h.frame.output, by simpa using h.frame.size, fun k hk hk2 => ?_⟩, fun k hk => h.ext k (by simpa using hk)⟩
  have hk' : k < w.heap.size := by simpa using hk
  by_cases e : k = p.block
  · subst e
    have hb := h.block hk' hn
    unfold World.setCell
    simp [Array.getElem?_modify, hb]
  · rw [Below.heap_setCell _ _ _ _ e, Below.heap_setCell _ _ _ _ e]
    exact h.block hk' hk2
theorem below {B : Nat} (h : Step cs w O w' O') (hB : B ≤ w.heap.size) (hn : ∀ k, k < B → O k ∉ cs) : Below B w w' := h.frame.below hB hn
end Step

/-- Below B no block belongs to anybody: colour 0. -/
def Clear (B : Nat) (O : Paint) : Prop := ∀ k, k < B → O k = 0
theorem Clear.step {B : Nat} {cs : List Nat} {w w' : World} {O O' : Paint} (h : Clear B O) (hs : Step cs w O w' O') (hB : B ≤ w.heap.size) : Clear B O' := fun k hk => (hs.ext k (by omega)).trans (h k hk)
theorem Clear.below {B : Nat} {cs : List Nat} {w0 w w' : World} {O O' : Paint} (h : Clear B O) (hs : Step cs w O w' O') (h0 : 0 ∉ cs) (hB : B ≤ w.heap.size) (hb : Below B w0 w) : Below B w0 w' :=
  hb.trans (hs.below hB (fun k hk hc => h0 (by rw [h k hk] at hc; exact hc)))

/-- Block k is o, and belongs to c. -/
def Blk (w : World) (O : Paint) (c k : Nat) (o : Obj) : Prop := w.heap[k]? = some o ∧ O k = c
namespace Blk
variable {cs : List Nat} {w w' : World} {O O' : Paint} {c k : Nat} {o : Obj}
theorem lt (h : Blk w O c k o) : k < w.heap.size := lt_of_heap h.1
theorem step (h : Blk w O c k o) (hs : Step cs w O w' O') (hc : c ∉ cs) : Blk w' O' c k o :=
  ⟨(hs.block h.lt (by rw [h.2]; exact hc)).trans h.1, (hs.ext k h.lt).trans h.2⟩
theorem cell {cells : Array Value} {t : TypeId} {fr : Nat × Nat} (h : Blk w O c k (.cells cells t fr)) (i : Nat) : w.cell? ⟨k, i, none⟩ = cells[i]? := by simp [World.cell?, h.1]
theorem free {cells : Array Value} {t : TypeId} (h : Blk w O c k (.cells cells t (0, 0))) (i : Nat) : w.frozen? ⟨k, i, none⟩ = false := by simp [World.frozen?, h.1]
theorem setCell {cells : Array Value} {t : TypeId} (h : Blk w O c k (.cells cells t (0, 0))) (i : Nat) (u : Value) : Blk (w.setCell ⟨k, i, none⟩ u) O c k (.cells (cells.setIfInBounds i u) t (0, 0)) := ⟨heap_setCell_same w k i _ _ u h.1, h.2⟩
theorem setCell_other (h : Blk w O c k o) {p : Addr} (hp : p.block ≠ k) (u : Value) : Blk (w.setCell p u) O c k o := ⟨(Below.heap_setCell _ _ _ _ (Ne.symm hp)).trans h.1, h.2⟩
end Blk

/-- A slice that owns just these cells, of one cell each; its block, where it has one, belongs to c. -/
structure Held (w : World) (O : Paint) (c : Nat) (e : TypeId) (v : Value) (xs : List Value) : Prop where
  row : w.ownsRow 0 e 1 v xs.length xs
  paint : ∀ k, v.ownBlock = some k → O k = c
namespace Held
variable {cs : List Nat} {w w' : World} {O O' : Paint} {c : Nat} {e : TypeId} {v : Value} {xs : List Value}
theorem lt (h : Held w O c e v xs) {k : Nat} (hk : v.ownBlock = some k) : k < w.heap.size := ownsRow_lt h.row k hk
theorem step (h : Held w O c e v xs) (hs : Step cs w O w' O') (hc : c ∉ cs) : Held w' O' c e v xs :=
  ⟨ownsRow_frame h.row hs.frame (fun k hk ho => hc (by rw [h.paint k hk] at ho; exact ho)), fun k hk => (hs.ext k (h.lt hk)).trans (h.paint k hk)⟩
theorem form (h : Held w O c e v xs) (hn : 0 < xs.length) : ∃ g cap, v = .slice (some ⟨g, 0, none⟩) xs.length cap ∧ xs.length ≤ cap ∧ cap ≤ maxLen ∧ O g = c ∧ g < w.heap.size := by
  rcases h.row.2 with ⟨_, h2⟩ | ⟨g, cap, cur, rfl, hb, hg, h1, h2, _⟩
  · omega
  · exact ⟨g, cap, rfl, h1, h2, h.paint g rfl, lt_of_heap hg⟩
theorem cell {g n cap : Nat} (h : Held w O c e (.slice (some ⟨g, 0, none⟩) n cap) xs) {j : Nat} {x : Value} (hx : xs[j]? = some x) : w.cell? ⟨g, j, none⟩ = some x := by
  have hn : n = xs.length := by
    rcases h.row.2 with ⟨e1, _⟩ | ⟨g', cap', cur, e1, _⟩
    · simp at e1
    · simp only [Value.slice.injEq] at e1; exact e1.2.1
  have hj : j < xs.length := (List.getElem?_eq_some_iff.1 hx).1
  have h1 := h.row
  rw [hn] at h1
  rw [World.ownsRow.cellAt h1 j (by omega)]
  exact hx
theorem free {g n cap : Nat} (h : Held w O c e (.slice (some ⟨g, 0, none⟩) n cap) xs) (j : Nat) : w.frozen? ⟨g, j, none⟩ = false := by
  rcases h.row.2 with ⟨e1, _⟩ | ⟨g', cap', cur, e1, _, hg, _⟩
  · simp at e1
  · simp only [Value.slice.injEq, Option.some.injEq, Addr.mk.injEq, and_true] at e1
    rw [← e1.1] at hg
    simp [World.frozen?, hg]
theorem ne {g n cap X : Nat} {ds : Array Value} {t : TypeId} (h : Held w O c e (.slice (some ⟨g, 0, none⟩) n cap) xs) (hc : w.heap[X]? = some (.cells ds t (0, 0))) (ht : t ≠ e) : g ≠ X := by
  rcases h.row.2 with ⟨e1, _⟩ | ⟨g', cap', cur, e1, _, hg, _⟩
  · simp at e1
  · simp only [Value.slice.injEq, Option.some.injEq, Addr.mk.injEq, and_true] at e1
    rintro rfl
    rw [e1.1, hg] at hc
    simp only [Option.some.injEq, Obj.cells.injEq] at hc
    exact ht hc.2.1.symm
theorem set {g n cap : Nat} (h : Held w O c e (.slice (some ⟨g, 0, none⟩) n cap) xs) (j : Nat) (x : Value) : Held (w.setCell ⟨g, j, none⟩ x) O c e (.slice (some ⟨g, 0, none⟩) n cap) (xs.set j x) := by
  have hn : n = xs.length := by
    rcases h.row.2 with ⟨e1, _⟩ | ⟨g', cap', cur, e1, _⟩
    · simp at e1
    · simp only [Value.slice.injEq] at e1; exact e1.2.1
  subst hn
  refine ⟨?_, h.paint⟩
  rw [List.length_set]
  exact (World.ownsRow.stored h.row j x).1
theorem alloc (h : Held w O c e v xs) (o : Obj) : Held (w.alloc o) O c e v xs := ⟨World.ownsRow.alloc h.row o, h.paint⟩
theorem setCell_other (h : Held w O c e v xs) {p : Addr} (hp : v.ownBlock ≠ some p.block) (u : Value) : Held (w.setCell p u) O c e v xs :=
  ⟨ownsRow_frame h.row ((Frame.refl (fun k => k = p.block) w).setCell (.inl rfl) u) (fun k hk e1 => hp (by rw [hk, e1])), h.paint⟩
/-- What was got by growth or by a call that moves it: painted anew. -/
theorem moved {v' : Value} {ys : List Value} (h : Held w O c e v xs) (hr : w'.ownsRow 0 e 1 v' ys.length ys) (hm : Moved w v v') : Held w' (Step.paint O w c) c e v' ys := by
  refine ⟨hr, fun k hk => ?_⟩
  rcases hm with e1 | e1
  · rw [e1] at hk
    rw [Step.paint_old (h.lt hk)]; exact h.paint k hk
  · exact Step.paint_new (e1 k hk)
theorem fresh {v' : Value} {ys : List Value} (hr : w'.ownsRow 0 e 1 v' ys.length ys) (hm : ∀ k, v'.ownBlock = some k → w.heap.size ≤ k) (O : Paint) : Held w' (Step.paint O w c) c e v' ys :=
  ⟨hr, fun k hk => Step.paint_new (hm k hk)⟩
end Held
end Go.Proofs.YtoabeohfbikpcaaDoor
end
section
namespace Go.Proofs.YtoabeohfbikpcaaDoor.Rc

/-- n bytes of a number, the highest first. -/
def be : Nat → Nat → List UInt8
  | 0, _ => []
  | n + 1, L => be n (L / 256) ++ [UInt8.ofNat L]
theorem be_length (n : Nat) : ∀ L, (be n L).length = n := by
  induction n with
  | zero => intro L; rfl
  | succ n ih => intro L; simp [be, ih]
theorem be_split (a b : Nat) : ∀ L, be (a + b) L = be a (L / 256 ^ b) ++ be b L := by
  induction b with
  | zero => intro L; simp [be]
  | succ b ih =>
    intro L
    show be (a + b) (L / 256) ++ [UInt8.ofNat L] = be a (L / 256 ^ (b + 1)) ++ (be b (L / 256) ++ [UInt8.ofNat L])
    rw [ih, Nat.div_div_eq_div_mul, show 256 * 256 ^ b = 256 ^ (b + 1) from by rw [Nat.pow_succ, Nat.mul_comm], List.append_assoc]
theorem be_one (L : Nat) : be 1 L = [UInt8.ofNat L] := rfl
theorem be_zero (n : Nat) : be n 0 = List.replicate n 0 := by
  induction n with
  | zero => rfl
  | succ n ih => rw [be, Nat.zero_div, ih, List.replicate_succ']; rfl
theorem be_shift (n L : Nat) : be (n + 1) (256 * L) = be n L ++ [0] := by
  rw [be, Nat.mul_div_cancel_left L (by omega)]
  congr 2
  apply UInt8.toNat_inj.1
  simp
/-- The sum of a number, half done: the last j bytes are those of the sum. -/
def mix (k j L n : Nat) : List UInt8 := be (k - j) (L / 256 ^ j) ++ be j (L + n)
/-- What is left to be added behind j bytes. -/
def carry (j L n : Nat) : Nat := (L % 256 ^ j + n) / 256 ^ j
theorem mix_zero (k L n : Nat) : mix k 0 L n = be k L := by simp [mix, be]
theorem mix_all (k L n : Nat) : mix k k L n = be k (L + n) := by simp [mix, be]
theorem mix_length (k j L n : Nat) (h : j ≤ k) : (mix k j L n).length = k := by simp [mix, be_length]; omega
theorem carry_zero (L n : Nat) : carry 0 L n = n := by simp [carry, Nat.mod_one]
theorem carry_succ (j L n : Nat) : carry (j + 1) L n = (carry j L n + L / 256 ^ j % 256) / 256 := by
  unfold carry
  have hp : 0 < 256 ^ j := Nat.pow_pos (by omega)
  rw [Nat.pow_succ, Nat.mod_mul, ← Nat.div_div_eq_div_mul]
  congr 1
  rw [show L % 256 ^ j + 256 ^ j * (L / 256 ^ j % 256) + n = (L % 256 ^ j + n) + 256 ^ j * (L / 256 ^ j % 256) from by omega, Nat.add_mul_div_left _ _ hp]
theorem digit_sum (j L n : Nat) : (L + n) / 256 ^ j % 256 = (carry j L n + L / 256 ^ j % 256) % 256 := by
  unfold carry
  have hp : 0 < 256 ^ j := Nat.pow_pos (by omega)
  have e : (L + n) / 256 ^ j = (L % 256 ^ j + n) / 256 ^ j + L / 256 ^ j := by
    rw [← Nat.add_mul_div_left _ _ hp]
    congr 1
    have := Nat.mod_add_div L (256 ^ j)
    omega
  rw [e]; omega
theorem mix_at (k j L n : Nat) (h : j < k) : (mix k j L n)[k - 1 - j]? = some (UInt8.ofNat (L / 256 ^ j)) := by
  unfold mix
  rw [show k - j = (k - 1 - j) + 1 from by omega, be_split (k - 1 - j) 1, be_one, List.append_assoc, List.getElem?_append_right (by rw [be_length]; omega), be_length]
  simp
theorem mix_set (k j L n : Nat) (h : j < k) : (mix k j L n).set (k - 1 - j) (UInt8.ofNat ((L + n) / 256 ^ j)) = mix k (j + 1) L n := by
  unfold mix
  rw [show k - j = (k - 1 - j) + 1 from by omega, be_split (k - 1 - j) 1, be_one, List.append_assoc]
  rw [show j + 1 = 1 + j from by omega, be_split 1 j (L + n), be_one, show k - (1 + j) = k - 1 - j from by omega]
  rw [List.set_append_right _ _ (by rw [be_length]; omega), be_length, Nat.sub_self]
  rw [show 256 ^ (1 + j) = 256 ^ j * 256 from by rw [Nat.add_comm, Nat.pow_succ], Nat.div_div_eq_div_mul, Nat.pow_one]
  rfl

/-- The encoder as numbers. -/
structure Enc where
  low : Nat
  size : Nat
  turns : Nat
def Enc.start : Enc := ⟨0, 4294967295, 0⟩
def turn (e : Enc) : Enc := if e.size < 16777216 then ⟨e.low * 256, e.size * 256, e.turns + 1⟩ else e
def widen (e : Enc) : Enc := turn (turn (turn e))
def Enc.bit (e : Enc) (p b : Nat) : Enc := if b = 0 then widen ⟨e.low, e.size / 2048 * p, e.turns⟩ else widen ⟨e.low + e.size / 2048 * p, e.size - e.size / 2048 * p, e.turns⟩
def Enc.direct (e : Enc) (b : Nat) : Enc := widen ⟨if b = 1 then e.low + e.size / 2 else e.low, e.size / 2, e.turns⟩
def Enc.part (e : Enc) (start size total : Nat) : Enc := widen ⟨e.low + e.size / total * start, e.size / total * size, e.turns⟩
def Enc.bytes (e : Enc) : List UInt8 := 0 :: be (e.turns + 4) e.low
def learn (p b : Nat) : Nat := if b = 0 then p + (2048 - p) / 32 else p - p / 32

/-- What holds of an encoder ahead of its widening. -/
def Raw (e : Enc) : Prop := 1 ≤ e.size ∧ e.size < 4294967296 ∧ e.low + e.size ≤ 256 ^ (e.turns + 4)
/-- What always holds of an encoder. -/
def Fine (e : Enc) : Prop := 16777216 ≤ e.size ∧ e.size < 4294967296 ∧ e.low + e.size ≤ 256 ^ (e.turns + 4)
theorem fine_start : Fine Enc.start := by simp [Fine, Enc.start]
theorem turn_raw {e : Enc} (h : Raw e) : Raw (turn e) := by
  unfold turn; split
  · obtain ⟨h1, h2, h3⟩ := h
    refine ⟨by show 1 ≤ e.size * 256; omega, by show e.size * 256 < _; omega, ?_⟩
    show e.low * 256 + e.size * 256 ≤ 256 ^ (e.turns + 1 + 4)
    rw [show e.turns + 1 + 4 = (e.turns + 4) + 1 from by omega, Nat.pow_succ, ← Nat.add_mul]
    exact Nat.mul_le_mul_right _ h3
  · exact h
theorem turn_size (e : Enc) : (turn e).size = if e.size < 16777216 then e.size * 256 else e.size := by unfold turn; split <;> rfl
theorem widen_fine {e : Enc} (h : Raw e) : Fine (widen e) := by
  have h3 := turn_raw (turn_raw (turn_raw h))
  refine ⟨?_, h3.2.1, h3.2.2⟩
  have h1 := h.1
  unfold widen
  rw [turn_size, turn_size, turn_size]
  (repeat' split) <;> omega
theorem widen_keep {e : Enc} (h : 16777216 ≤ e.size) : widen e = e := by
  have ht : turn e = e := by unfold turn; rw [if_neg (by omega)]
  unfold widen; rw [ht, ht, ht]
theorem fine_raw {e : Enc} (h : Fine e) : Raw e := ⟨by have := h.1; omega, h.2.1, h.2.2⟩
theorem bound_lt {s p : Nat} (hs : 16777216 ≤ s) (hp : p ≤ 2047) : s / 2048 * p < s := by
  have h1 : s / 2048 * p ≤ s / 2048 * 2047 := Nat.mul_le_mul_left _ hp
  have h2 : s / 2048 * 2048 ≤ s := Nat.div_mul_le_self s 2048
  have h3 : 8192 ≤ s / 2048 := by omega
  omega
theorem bound_pos {s p : Nat} (hs : 16777216 ≤ s) (hp : 1 ≤ p) : 1 ≤ s / 2048 * p := by
  have h3 : 1 ≤ s / 2048 := by omega
  exact Nat.mul_pos h3 hp
theorem bit_raw {e : Enc} (h : Fine e) {p b : Nat} (h1 : 1 ≤ p) (h2 : p ≤ 2047) : Raw (if b = 0 then ⟨e.low, e.size / 2048 * p, e.turns⟩ else ⟨e.low + e.size / 2048 * p, e.size - e.size / 2048 * p, e.turns⟩) := by
  obtain ⟨a, b', c⟩ := h
  have hl := bound_lt a h2
  have hp := bound_pos a h1
  split
  · exact ⟨hp, by show e.size / 2048 * p < _; omega, by show e.low + e.size / 2048 * p ≤ 256 ^ (e.turns + 4); omega⟩
  · exact ⟨by show 1 ≤ e.size - e.size / 2048 * p; omega, by show e.size - _ < _; omega, by show e.low + e.size / 2048 * p + (e.size - e.size / 2048 * p) ≤ 256 ^ (e.turns + 4); omega⟩
theorem bit_eq (e : Enc) (p b : Nat) : e.bit p b = widen (if b = 0 then ⟨e.low, e.size / 2048 * p, e.turns⟩ else ⟨e.low + e.size / 2048 * p, e.size - e.size / 2048 * p, e.turns⟩) := by
  unfold Enc.bit; split <;> rfl
theorem fine_bit {e : Enc} (h : Fine e) {p b : Nat} (h1 : 1 ≤ p) (h2 : p ≤ 2047) : Fine (e.bit p b) := by
  rw [bit_eq]; exact widen_fine (bit_raw h h1 h2)
theorem direct_raw {e : Enc} (h : Fine e) (b : Nat) : Raw ⟨if b = 1 then e.low + e.size / 2 else e.low, e.size / 2, e.turns⟩ := by
  obtain ⟨a, b', c⟩ := h
  refine ⟨by show 1 ≤ e.size / 2; omega, by show e.size / 2 < _; omega, ?_⟩
  show (if b = 1 then e.low + e.size / 2 else e.low) + e.size / 2 ≤ 256 ^ (e.turns + 4)
  split <;> omega
theorem fine_direct {e : Enc} (h : Fine e) (b : Nat) : Fine (e.direct b) := widen_fine (direct_raw h b)
theorem part_raw {e : Enc} (h : Fine e) {start size total : Nat} (h1 : 1 ≤ size) (h2 : start + size ≤ total) (h3 : total ≤ 65536) : Raw ⟨e.low + e.size / total * start, e.size / total * size, e.turns⟩ := by
  obtain ⟨a, b', c⟩ := h
  have hr : 1 ≤ e.size / total := by
    rw [Nat.le_div_iff_mul_le (by omega)]; omega
  have hm : e.size / total * (start + size) ≤ e.size := Nat.le_trans (Nat.mul_le_mul_left _ h2) (Nat.div_mul_le_self _ _)
  rw [Nat.mul_add] at hm
  refine ⟨Nat.mul_pos hr h1, ?_, ?_⟩
  · show e.size / total * size < _; omega
  · show e.low + e.size / total * start + e.size / total * size ≤ 256 ^ (e.turns + 4); omega
theorem fine_part {e : Enc} (h : Fine e) {start size total : Nat} (h1 : 1 ≤ size) (h2 : start + size ≤ total) (h3 : total ≤ 65536) : Fine (e.part start size total) := widen_fine (part_raw h h1 h2 h3)
/-- Probabilities stay within 31 and 2017, once they began at 1024. -/
theorem learn_in {p b : Nat} (h1 : 31 ≤ p) (h2 : p ≤ 2017) : 31 ≤ learn p b ∧ learn p b ≤ 2017 := by
  unfold learn; split <;> omega
theorem turns_turn (e : Enc) : (turn e).turns ≤ e.turns + 1 := by unfold turn; split <;> simp
theorem turns_widen (e : Enc) : (widen e).turns ≤ e.turns + 3 := by
  have h1 := turns_turn e
  have h2 := turns_turn (turn e)
  have h3 := turns_turn (turn (turn e))
  unfold widen; omega
end Go.Proofs.YtoabeohfbikpcaaDoor.Rc
namespace Go.Proofs.YtoabeohfbikpcaaDoor.Rc
theorem carry_le (j L n : Nat) : carry j L n ≤ n := by
  unfold carry
  have hp : 0 < 256 ^ j := Nat.pow_pos (by omega)
  have hx : L % 256 ^ j < 256 ^ j := Nat.mod_lt _ hp
  rw [Nat.div_le_iff_le_mul_add_pred hp]
  generalize 256 ^ j = P at *
  have : n ≤ P * n := Nat.le_mul_of_pos_left n hp
  omega
end Go.Proofs.YtoabeohfbikpcaaDoor.Rc
namespace Go.Proofs.YtoabeohfbikpcaaDoor.Rc
/-- So many turns, where they are wanted. -/
def turnN : Nat → Enc → Enc
  | 0, e => e
  | r + 1, e => turnN r (turn e)
theorem turnN_keep (r : Nat) {e : Enc} (h : 16777216 ≤ e.size) : turnN r e = e := by
  have ht : turn e = e := by unfold turn; rw [if_neg (by omega)]
  induction r with
  | zero => rfl
  | succ r ih => rw [turnN, ht, ih]
end Go.Proofs.YtoabeohfbikpcaaDoor.Rc
namespace Go.Proofs.YtoabeohfbikpcaaDoor.Rc
theorem turn_lo (lo s t : Nat) (h : s < 16777216) : turn ⟨lo, s, t⟩ = ⟨lo * 256, s * 256, t + 1⟩ := by
  unfold turn; rw [if_pos h]
end Go.Proofs.YtoabeohfbikpcaaDoor.Rc
namespace Go.Proofs.YtoabeohfbikpcaaDoor.Rc
/-- The bit of a number that is i places from the lowest one. -/
def bitAt (v i : Nat) : Nat := v / 2 ^ i % 2
theorem bitAt_le (v i : Nat) : bitAt v i ≤ 1 := by unfold bitAt; omega
/-- Direct bits of a number, the highest of n first: i of them are done. -/
def directN (v n : Nat) (e : Enc) : Nat → Enc
  | 0 => e
  | i + 1 => (directN v n e i).direct (bitAt v (n - 1 - i))
theorem fine_directN {e : Enc} (h : Fine e) (v n : Nat) : ∀ i, Fine (directN v n e i)
  | 0 => h
  | i + 1 => fine_direct (fine_directN h v n i) _
theorem direct_turns (e : Enc) (b : Nat) : (e.direct b).turns ≤ e.turns + 3 := turns_widen _
theorem directN_turns (e : Enc) (v n : Nat) : ∀ i, (directN v n e i).turns ≤ e.turns + 3 * i
  | 0 => Nat.le_refl _
  | i + 1 => by
    have h1 := directN_turns e v n i
    have h2 := direct_turns (directN v n e i) (bitAt v (n - 1 - i))
    show ((directN v n e i).direct _).turns ≤ _
    omega
theorem part_turns (e : Enc) (a b c : Nat) : (e.part a b c).turns ≤ e.turns + 3 := turns_widen _
theorem bit_turns (e : Enc) (p b : Nat) : (e.bit p b).turns ≤ e.turns + 3 := by
  rw [bit_eq]
  refine Nat.le_trans (turns_widen _) ?_
  split <;> exact Nat.le_refl _
end Go.Proofs.YtoabeohfbikpcaaDoor.Rc
end
section
namespace Go.Proofs.YtoabeohfbikpcaaDoor.Rc
open Go.RowKit

def byte (x : UInt8) : Value := .int .u8 (x.toNat : Int)
theorem info8 : (Tryd.prog.info? 5).map (fun i => (i.zero, i.size, i.bytes)) = some (some (.int .u8 0), 1, 1) := by kernel_rfl
/-- A slice that owns just these bytes. -/
def Row (w : World) (v : Value) (l : List UInt8) : Prop := w.ownsRow 0 5 1 v l.length (l.map byte)
theorem Row.form {w : World} {v : Value} {l : List UInt8} (h : Row w v l) (hn : 0 < l.length) : ∃ g cap, v = .slice (some ⟨g, 0, none⟩) l.length cap := own_form h hn
theorem Row.cell {w : World} {g cap : Nat} {l : List UInt8} (h : Row w (.slice (some ⟨g, 0, none⟩) l.length cap) l) (j : Nat) (hj : j < l.length) : w.cell? ⟨g, j, none⟩ = some (byte l[j]) := by
  rw [World.ownsRow.cellAt h j (by omega)]
  simp [hj]
theorem Row.news {w : World} {g cap : Nat} {l : List UInt8} (h : Row w (.slice (some ⟨g, 0, none⟩) l.length cap) l) : ∀ j u, (l.map byte)[j]? = some u → w.cell? ((⟨g, 0, none⟩ : Addr).add j) = some u := World.ownsRow.cells h rfl
theorem Row.lt {w : World} {g cap n : Nat} {l : List UInt8} (h : Row w (.slice (some ⟨g, 0, none⟩) n cap) l) : g < w.heap.size := ownsRow_lt h g rfl
theorem Row.below {w w' : World} {v : Value} {l : List UInt8} {B : Nat} (h : Row w v l) (hb : Below B w w') (hv : ∀ k, v.ownBlock = some k → k < B) : Row w' v l :=
  ownsRow_frame h (Frame.of_below hb) (fun k hk => by have := hv k hk; omega)
theorem Row.frame {own : Nat → Prop} {w w' : World} {v : Value} {l : List UInt8} (h : Row w v l) (hf : Frame own w w') (hn : ∀ k, v.ownBlock = some k → ¬ own k) : Row w' v l := ownsRow_frame h hf hn
theorem row_empty (w : World) : Row (w.alloc (.cells #[] 5)) (.slice (some ⟨w.heap.size, 0, none⟩) 0 0) [] :=
  ⟨rfl, .inr ⟨w.heap.size, 0, #[], rfl, Nat.zero_le _, heap_alloc_new w _, Nat.le_refl _, by unfold maxLen; omega, rfl, rfl⟩⟩
theorem ones (l : List UInt8) : ∀ u ∈ l.map byte, u.oneCell' = true := by
  intro u hu
  obtain ⟨x, _, rfl⟩ := List.mem_map.1 hu
  rfl
theorem Row.set {w : World} {g k cap : Nat} {l : List UInt8} (h : Row w (.slice (some ⟨g, 0, none⟩) k cap) l) (hl : l.length = k) (p : Nat) (y : UInt8) {n : Int} (hn : n = (y.toNat : Int)) :
    Row (w.setCell ⟨g, p, none⟩ (.int .u8 n)) (.slice (some ⟨g, 0, none⟩) k cap) (l.set p y) := by
  subst hn
  unfold Row at h ⊢
  rw [hl] at h
  rw [List.length_set, hl]
  have := (World.ownsRow.stored h p (byte y)).1
  rw [List.map_set]
  exact this
/-- A new row, in a block that was not there. -/
def Fresh (w : World) (l : List UInt8) (e : Ending) (w' : World) : Prop := ∃ g cap, e = .returned (.slice (some ⟨g, 0, none⟩) l.length cap) ∧ Row w' (.slice (some ⟨g, 0, none⟩) l.length cap) l ∧ Below w.heap.size w w' ∧ w.heap.size ≤ g
theorem fresh_of {w w2 : World} {g k cap : Nat} {l : List UInt8} (hl : (l.map byte).length = k * 1) (ho : w2.ownsRow 0 5 1 (.slice (some ⟨g, 0, none⟩) (0 + k) cap) (0 + k) ([] ++ l.map byte))
    (hg : (w.alloc (.cells #[] 5)).grownBy w2 (Value.slice (some ⟨w.heap.size, 0, none⟩) 0 0).ownBlock) (hm : Moved (w.alloc (.cells #[] 5)) (.slice (some ⟨w.heap.size, 0, none⟩) 0 0) (.slice (some ⟨g, 0, none⟩) (0 + k) cap)) :
    Row w2 (.slice (some ⟨g, 0, none⟩) k cap) l ∧ Below w.heap.size w w2 ∧ w.heap.size ≤ g := by
  have hlk : l.length = k := by simpa using hl
  refine ⟨?_, ?_, ?_⟩
  · unfold Row; rw [hlk]; simpa using ho
  · exact ((Below.refl _ _).alloc (Nat.le_refl _) _).grown hg (by simp) (fun j hj => by simp [Value.ownBlock] at hj; omega)
  · rcases hm with e | e
    · simp [Value.ownBlock] at e; omega
    · have := e g rfl
      rw [World.size_alloc] at this; omega
theorem own_row {w : World} {g k cap : Nat} {l : List UInt8} (hl : (l.map byte).length = k * 1) (h : Row w (.slice (some ⟨g, 0, none⟩) k cap) l) : w.ownsRow 0 5 1 (.slice (some ⟨g, 0, none⟩) k cap) k (l.map byte) := by
  have hlk : l.length = k := by simpa using hl
  unfold Row at h; rw [hlk] at h; exact h
/-- A cell of a block that lay below: behind two appends on rows that are newer. -/
theorem old_cell {w1 w2 w3 : World} {b g2 k cap2 : Nat} {cs : Array Value} {t : TypeId} {o : Obj} (hc : w1.heap[b]? = some (.cells cs t (0, 0))) (hb : b + 1 < w1.heap.size) (hbl : Below w1.heap.size w1 w2) (hg : w1.heap.size ≤ g2) (hgr : (w2.alloc o).grownBy w3 (Value.slice (some ⟨g2, 0, none⟩) k cap2).ownBlock) :
    w3.cell? ⟨b, 0, none⟩ = cs[0]? ∧ w3.frozen? ⟨b, 0, none⟩ = false ∧ b + 1 < w3.heap.size := by
  have h2 := hbl.size
  have h3 := hgr.size
  rw [World.size_alloc] at h3
  have e : w3.heap[b]? = some (.cells cs t (0, 0)) := by
    rw [hgr.block b (by rw [World.size_alloc]; omega) (by simp [Value.ownBlock]; omega), Below.heap_alloc w2 o b (by omega), hbl.block b (by omega)]
    exact hc
  exact ⟨by simp [World.cell?, e], by simp [World.frozen?, e], by omega⟩
end Go.Proofs.YtoabeohfbikpcaaDoor.Rc
end
section
namespace Go.Proofs.YtoabeohfbikpcaaDoor.Rc
structure Dec where
  rest : List UInt8
  code : Nat
  size : Nat
  bad : Bool
/-- The next byte, 0 where there is none. -/
def Dec.byte (d : Dec) : Nat := match d.rest with
  | [] => 0
  | b :: _ => b.toNat
/-- Behind the next byte. -/
def Dec.next (d : Dec) : Dec := match d.rest with
  | [] => { d with bad := true }
  | _ :: r => { d with rest := r }
def turnD (d : Dec) : Dec := if d.size < 16777216 then { d.next with size := d.size * 256, code := (256 * d.code + d.byte) % 4294967296 } else d
def wide (d : Dec) : Dec := turnD (turnD (turnD d))
def Dec.bitOf (d : Dec) (p : Nat) : Nat := if d.code < d.size / 2048 * p then 0 else 1
def Dec.getBit (d : Dec) (p : Nat) : Dec := if d.code < d.size / 2048 * p then wide { d with size := d.size / 2048 * p } else wide { d with code := d.code - d.size / 2048 * p, size := d.size - d.size / 2048 * p }
def Dec.directOf (d : Dec) : Nat := if d.code < d.size / 2 then 0 else 1
def Dec.getDirect (d : Dec) : Dec := if d.code < d.size / 2 then wide { d with size := d.size / 2 } else wide { d with code := d.code - d.size / 2, size := d.size / 2 }
def Dec.whereIn (d : Dec) (total : Nat) : Nat := min (d.code / (d.size / total)) (total - 1)
def Dec.take (d : Dec) (start size total : Nat) : Dec := wide { d with code := (d.code + 4294967296 - d.size / total * start % 4294967296) % 4294967296, size := d.size / total * size }
def RawD (d : Dec) : Prop := 1 ≤ d.size ∧ d.size < 4294967296 ∧ d.code < 4294967296
def FineD (d : Dec) : Prop := 16777216 ≤ d.size ∧ d.size < 4294967296 ∧ d.code < 4294967296
theorem next_size (d : Dec) : d.next.size = d.size := by unfold Dec.next; split <;> rfl
theorem next_code (d : Dec) : d.next.code = d.code := by unfold Dec.next; split <;> rfl
theorem next_len (d : Dec) : d.next.rest.length ≤ d.rest.length := by
  unfold Dec.next; split
  · exact Nat.le_refl _
  · rename_i r h; rw [h]; simp
theorem turnD_size (d : Dec) : (turnD d).size = if d.size < 16777216 then d.size * 256 else d.size := by unfold turnD; split <;> rfl
theorem turnD_raw {d : Dec} (h : RawD d) : RawD (turnD d) := by
  obtain ⟨h1, h2, h3⟩ := h
  unfold turnD; split
  · exact ⟨by show 1 ≤ d.size * 256; omega, by show d.size * 256 < 4294967296; omega, Nat.mod_lt _ (by omega)⟩
  · exact ⟨h1, h2, h3⟩
theorem wide_fine {d : Dec} (h : RawD d) : FineD (wide d) := by
  have h3 := turnD_raw (turnD_raw (turnD_raw h))
  refine ⟨?_, h3.2.1, h3.2.2⟩
  have h1 := h.1
  unfold wide
  rw [turnD_size, turnD_size, turnD_size]
  (repeat' split) <;> omega
def turnDN : Nat → Dec → Dec
  | 0, e => e
  | r + 1, e => turnDN r (turnD e)
theorem turnDN_keep (r : Nat) {e : Dec} (h : 16777216 ≤ e.size) : turnDN r e = e := by
  have ht : turnD e = e := by unfold turnD; rw [if_neg (by omega)]
  induction r with
  | zero => rfl
  | succ r ih => rw [turnDN, ht, ih]
theorem turnD_lo (d : Dec) (h : d.size < 16777216) : turnD d = { d.next with size := d.size * 256, code := (256 * d.code + d.byte) % 4294967296 } := by
  unfold turnD; rw [if_pos h]
theorem getBit_raw {d : Dec} (h : FineD d) {p : Nat} (h1 : 1 ≤ p) (h2 : p ≤ 2047) : RawD (if d.code < d.size / 2048 * p then { d with size := d.size / 2048 * p } else { d with code := d.code - d.size / 2048 * p, size := d.size - d.size / 2048 * p }) := by
  obtain ⟨a, b, c⟩ := h
  have hl := bound_lt a h2
  have hp := bound_pos a h1
  split
  · exact ⟨hp, by show d.size / 2048 * p < 4294967296; omega, c⟩
  · exact ⟨by show 1 ≤ d.size - d.size / 2048 * p; omega, by show d.size - d.size / 2048 * p < 4294967296; omega, by show d.code - _ < 4294967296; omega⟩
theorem fine_getBit {d : Dec} (h : FineD d) {p : Nat} (h1 : 1 ≤ p) (h2 : p ≤ 2047) : FineD (d.getBit p) := by
  have hr := getBit_raw h h1 h2
  unfold Dec.getBit
  split
  · rename_i hc; rw [if_pos hc] at hr; exact wide_fine hr
  · rename_i hc; rw [if_neg hc] at hr; exact wide_fine hr
theorem getDirect_raw {d : Dec} (h : FineD d) : RawD (if d.code < d.size / 2 then { d with size := d.size / 2 } else { d with code := d.code - d.size / 2, size := d.size / 2 }) := by
  obtain ⟨a, b, c⟩ := h
  split
  · exact ⟨by show 1 ≤ d.size / 2; omega, by show d.size / 2 < 4294967296; omega, c⟩
  · exact ⟨by show 1 ≤ d.size / 2; omega, by show d.size / 2 < 4294967296; omega, by show d.code - _ < 4294967296; omega⟩
theorem fine_getDirect {d : Dec} (h : FineD d) : FineD d.getDirect := by
  have hr := getDirect_raw h
  unfold Dec.getDirect
  split
  · rename_i hc; rw [if_pos hc] at hr; exact wide_fine hr
  · rename_i hc; rw [if_neg hc] at hr; exact wide_fine hr
theorem take_raw {d : Dec} (h : FineD d) {start size total : Nat} (h1 : 1 ≤ size) (h2 : start + size ≤ total) (h3 : total ≤ 65536) : RawD { d with code := (d.code + 4294967296 - d.size / total * start % 4294967296) % 4294967296, size := d.size / total * size } := by
  obtain ⟨a, b', c⟩ := h
  have hr : 1 ≤ d.size / total := by
    rw [Nat.le_div_iff_mul_le (by omega)]; omega
  have hm : d.size / total * (start + size) ≤ d.size := Nat.le_trans (Nat.mul_le_mul_left _ h2) (Nat.div_mul_le_self _ _)
  rw [Nat.mul_add] at hm
  exact ⟨Nat.mul_pos hr h1, by show d.size / total * size < 4294967296; omega, Nat.mod_lt _ (by omega)⟩
theorem fine_take {d : Dec} (h : FineD d) {start size total : Nat} (h1 : 1 ≤ size) (h2 : start + size ≤ total) (h3 : total ≤ 65536) : FineD (d.take start size total) := wide_fine (take_raw h h1 h2 h3)
def stepD (d : Dec) : Dec := { d.next with code := 256 * d.code + d.byte }
/-- A decoder of bytes. -/
def readN : Nat → Dec → Dec
  | 0, d => d
  | n + 1, d => stepD (readN n d)
def Dec.fresh (s : List UInt8) : Dec := ⟨s, 0, 4294967295, false⟩
def Dec.read (s : List UInt8) : Dec := if (Dec.fresh s).byte = 0 then readN 4 (Dec.fresh s).next else { readN 4 (Dec.fresh s).next with bad := true }
theorem byte_lt (d : Dec) : d.byte < 256 := by
  unfold Dec.byte; split
  · omega
  · rename_i b _ _; exact b.toNat_lt
theorem readN_len (n : Nat) (d : Dec) : (readN n d).rest.length ≤ d.rest.length := by
  induction n with
  | zero => exact Nat.le_refl _
  | succ n ih => exact Nat.le_trans (next_len _) ih
theorem readN_size (n : Nat) (d : Dec) : (readN n d).size = d.size := by
  induction n with
  | zero => rfl
  | succ n ih => rw [readN]; show (readN n d).next.size = _; rw [next_size, ih]
theorem readN_code (n : Nat) (d : Dec) (h : d.code = 0) : (readN n d).code < 256 ^ n := by
  induction n with
  | zero => show d.code < 1; omega
  | succ n ih =>
    show 256 * (readN n d).code + (readN n d).byte < 256 ^ (n + 1)
    have := byte_lt (readN n d)
    rw [Nat.pow_succ]; omega
theorem fine_read (s : List UInt8) : FineD (Dec.read s) := by
  have hc := readN_code 4 (Dec.fresh s).next (by rw [next_code]; rfl)
  have hz := readN_size 4 (Dec.fresh s).next
  rw [next_size] at hz
  have hz' : (readN 4 (Dec.fresh s).next).size = 4294967295 := hz
  unfold Dec.read
  split
  · exact ⟨by rw [hz']; omega, by rw [hz']; omega, by omega⟩
  · exact ⟨by show 16777216 ≤ (readN 4 (Dec.fresh s).next).size; rw [hz']; omega, by show (readN 4 (Dec.fresh s).next).size < _; rw [hz']; omega, by show (readN 4 (Dec.fresh s).next).code < _; omega⟩
/-- Direct bits, i of them: the decoder behind them, and their number. -/
def gotN (d : Dec) : Nat → Dec × Nat
  | 0 => (d, 0)
  | i + 1 => ((gotN d i).1.getDirect, 2 * (gotN d i).2 + (gotN d i).1.directOf)
theorem directOf_le (d : Dec) : d.directOf ≤ 1 := by unfold Dec.directOf; split <;> omega
theorem bitOf_le (d : Dec) (p : Nat) : d.bitOf p ≤ 1 := by unfold Dec.bitOf; split <;> omega
theorem fine_gotN {d : Dec} (h : FineD d) : ∀ i, FineD (gotN d i).1
  | 0 => h
  | i + 1 => fine_getDirect (fine_gotN h i)
theorem gotN_lt (d : Dec) : ∀ i, (gotN d i).2 < 2 ^ i
  | 0 => Nat.one_pos
  | i + 1 => by
    have h1 := gotN_lt d i
    have h2 := directOf_le (gotN d i).1
    show 2 * (gotN d i).2 + (gotN d i).1.directOf < 2 ^ (i + 1)
    rw [Nat.pow_succ]; omega
end Go.Proofs.YtoabeohfbikpcaaDoor.Rc
end
section
namespace Go.Proofs.YtoabeohfbikpcaaDoor.Rc

/-- F lies within the encoder's range, seen from T turns. -/
def Ahead (e : Enc) (F T : Nat) : Prop := e.turns ≤ T ∧ e.low * 256 ^ (T - e.turns) ≤ F ∧ F < (e.low + e.size) * 256 ^ (T - e.turns)
/-- The decoder stands where the encoder stood. -/
def Follows (d : Dec) (e : Enc) (F T : Nat) (more : List UInt8) : Prop := d.bad = false ∧ d.size = e.size ∧ d.rest = be (T - e.turns) F ++ more ∧ d.code + e.low = F / 256 ^ (T - e.turns)

theorem ahead_self {e : Enc} (h : 1 ≤ e.size) : Ahead e e.low e.turns := by
  refine ⟨Nat.le_refl _, ?_, ?_⟩
  · rw [Nat.sub_self]; simp
  · rw [Nat.sub_self]; simp; omega
theorem ahead_within {e e1 : Enc} {F T : Nat} (h : Ahead e1 F T) (ht : e1.turns = e.turns) (hl : e.low ≤ e1.low) (hh : e1.low + e1.size ≤ e.low + e.size) : Ahead e F T := by
  obtain ⟨h1, h2, h3⟩ := h
  rw [ht] at h1 h2 h3
  exact ⟨h1, Nat.le_trans (Nat.mul_le_mul_right _ hl) h2, Nat.lt_of_lt_of_le h3 (Nat.mul_le_mul_right _ hh)⟩
theorem pow_step {T t : Nat} (h : t + 1 ≤ T) : 256 ^ (T - t) = 256 * 256 ^ (T - (t + 1)) := by
  rw [show T - t = (T - (t + 1)) + 1 from by omega, Nat.pow_succ, Nat.mul_comm]
theorem ahead_turn {e : Enc} {F T : Nat} (h : Ahead (turn e) F T) : Ahead e F T := by
  unfold turn at h
  split at h
  · obtain ⟨h1, h2, h3⟩ := h
    simp only at h1 h2 h3
    refine ⟨by omega, ?_, ?_⟩
    · rw [pow_step h1, ← Nat.mul_assoc]; exact h2
    · rw [pow_step h1, ← Nat.mul_assoc, Nat.add_mul]; exact h3
  · exact h
theorem ahead_widen {e : Enc} {F T : Nat} (h : Ahead (widen e) F T) : Ahead e F T := ahead_turn (ahead_turn (ahead_turn h))
theorem code_lt {d : Dec} {e : Enc} {F T : Nat} {more : List UInt8} (hf : Follows d e F T more) (ha : Ahead e F T) : d.code < e.size := by
  have hp : 0 < 256 ^ (T - e.turns) := Nat.pow_pos (by omega)
  have h1 : F / 256 ^ (T - e.turns) < e.low + e.size := by
    rw [Nat.div_lt_iff_lt_mul hp]; exact ha.2.2
  have := hf.2.2.2
  omega
theorem follows_turn {d : Dec} {e : Enc} {F T : Nat} {more : List UInt8} (hf : Follows d e F T more) (ha : Ahead (turn e) F T) : Follows (turnD d) (turn e) F T more := by
  have hc := code_lt hf (ahead_turn ha)
  obtain ⟨rest, code, size, bad⟩ := d
  obtain ⟨f1, f2, f3, f4⟩ := hf
  simp only at f1 f2 f3 f4 hc
  by_cases hs : e.size < 16777216
  · unfold turn at ha ⊢
    rw [if_pos hs] at ha ⊢
    obtain ⟨a1, _, _⟩ := ha
    simp only at a1
    rw [turnD_lo _ (show (Dec.mk rest code size bad).size < 16777216 by show size < _; omega)]
    have hsp := be_split 1 (T - (e.turns + 1)) F
    rw [show 1 + (T - (e.turns + 1)) = T - e.turns from by omega, be_one] at hsp
    rw [hsp] at f3
    simp only [List.cons_append, List.nil_append] at f3
    have hb : (Dec.mk rest code size bad).byte = F / 256 ^ (T - (e.turns + 1)) % 256 := by rw [f3]; simp [Dec.byte]
    have hn : (Dec.mk rest code size bad).next = ⟨be (T - (e.turns + 1)) F ++ more, code, size, bad⟩ := by rw [f3]; simp [Dec.next]
    rw [hb, hn]
    have hd : F / 256 ^ (T - e.turns) = F / 256 ^ (T - (e.turns + 1)) / 256 := by rw [pow_step a1, Nat.mul_comm, Nat.div_div_eq_div_mul]
    rw [hd] at f4
    refine ⟨f1, by show size * 256 = e.size * 256; rw [f2], rfl, ?_⟩
    show (256 * code + F / 256 ^ (T - (e.turns + 1)) % 256) % 4294967296 + e.low * 256 = F / 256 ^ (T - (e.turns + 1))
    generalize F / 256 ^ (T - (e.turns + 1)) = X at *
    rw [Nat.mod_eq_of_lt (by omega)]
    omega
  · have ht : turn e = e := by unfold turn; rw [if_neg hs]
    have htd : turnD ⟨rest, code, size, bad⟩ = ⟨rest, code, size, bad⟩ := by unfold turnD; rw [if_neg (by show ¬ size < _; omega)]
    rw [ht, htd]
    exact ⟨f1, f2, f3, f4⟩
theorem follows_widen {d : Dec} {e : Enc} {F T : Nat} {more : List UInt8} (hf : Follows d e F T more) (ha : Ahead (widen e) F T) : Follows (wide d) (widen e) F T more :=
  follows_turn (follows_turn (follows_turn hf (ahead_turn (ahead_turn ha))) (ahead_turn ha)) ha

theorem ahead_bit {e : Enc} {F T p b : Nat} (hf : Fine e) (hp : p ≤ 2047) (h : Ahead (e.bit p b) F T) : Ahead e F T := by
  have hl := bound_lt hf.1 hp
  rw [bit_eq] at h
  have h1 := ahead_widen h
  split at h1
  · exact ahead_within h1 rfl (Nat.le_refl _) (by show e.low + e.size / 2048 * p ≤ _; omega)
  · exact ahead_within h1 rfl (by show e.low ≤ e.low + _; omega) (by show e.low + e.size / 2048 * p + (e.size - e.size / 2048 * p) ≤ _; omega)
theorem follows_bit {d : Dec} {e : Enc} {F T p b : Nat} {more : List UInt8} (hfi : Fine e) (hp : p ≤ 2047) (hb : b ≤ 1) (hf : Follows d e F T more) (h : Ahead (e.bit p b) F T) :
    d.bitOf p = b ∧ Follows (d.getBit p) (e.bit p b) F T more := by
  have hl := bound_lt hfi.1 hp
  have h0 := h
  rw [bit_eq] at h0
  have h1 := ahead_widen h0
  obtain ⟨f1, f2, f3, f4⟩ := hf
  have hpw : 0 < 256 ^ (T - e.turns) := Nat.pow_pos (by omega)
  by_cases hb0 : b = 0
  · subst hb0
    rw [if_pos rfl] at h0 h1
    have hx : F / 256 ^ (T - e.turns) < e.low + e.size / 2048 * p := by rw [Nat.div_lt_iff_lt_mul hpw]; exact h1.2.2
    have hc : d.code < d.size / 2048 * p := by rw [f2]; omega
    refine ⟨by unfold Dec.bitOf; rw [if_pos hc], ?_⟩
    unfold Dec.getBit
    rw [if_pos hc, bit_eq, if_pos rfl]
    refine follows_widen ⟨f1, by show d.size / 2048 * p = e.size / 2048 * p; rw [f2], f3, f4⟩ h0
  · obtain rfl : b = 1 := by omega
    rw [if_neg (by omega)] at h0 h1
    have hx : e.low + e.size / 2048 * p ≤ F / 256 ^ (T - e.turns) := by rw [Nat.le_div_iff_mul_le hpw]; exact h1.2.1
    have hc : ¬ d.code < d.size / 2048 * p := by rw [f2]; omega
    refine ⟨by unfold Dec.bitOf; rw [if_neg hc], ?_⟩
    unfold Dec.getBit
    rw [if_neg hc, bit_eq, if_neg (by omega)]
    refine follows_widen ⟨f1, by show d.size - d.size / 2048 * p = e.size - e.size / 2048 * p; rw [f2], f3, ?_⟩ h0
    show d.code - d.size / 2048 * p + (e.low + e.size / 2048 * p) = F / 256 ^ (T - e.turns)
    rw [f2] at hc ⊢; omega
theorem ahead_direct {e : Enc} {F T b : Nat} (h : Ahead (e.direct b) F T) : Ahead e F T := by
  have h1 := ahead_widen h
  refine ahead_within h1 rfl ?_ ?_
  · show e.low ≤ if b = 1 then e.low + e.size / 2 else e.low
    split <;> omega
  · show (if b = 1 then e.low + e.size / 2 else e.low) + e.size / 2 ≤ e.low + e.size
    split <;> omega
theorem follows_direct {d : Dec} {e : Enc} {F T b : Nat} {more : List UInt8} (hb : b ≤ 1) (hf : Follows d e F T more) (h : Ahead (e.direct b) F T) :
    d.directOf = b ∧ Follows d.getDirect (e.direct b) F T more := by
  have h1 := ahead_widen h
  obtain ⟨f1, f2, f3, f4⟩ := hf
  have hpw : 0 < 256 ^ (T - e.turns) := Nat.pow_pos (by omega)
  by_cases hb0 : b = 0
  · subst hb0
    have hx : F / 256 ^ (T - e.turns) < e.low + e.size / 2 := by rw [Nat.div_lt_iff_lt_mul hpw]; exact h1.2.2
    have hc : d.code < d.size / 2 := by rw [f2]; omega
    refine ⟨by unfold Dec.directOf; rw [if_pos hc], ?_⟩
    unfold Dec.getDirect
    rw [if_pos hc]
    exact follows_widen ⟨f1, by show d.size / 2 = e.size / 2; rw [f2], f3, f4⟩ h
  · obtain rfl : b = 1 := by omega
    have hx : e.low + e.size / 2 ≤ F / 256 ^ (T - e.turns) := by rw [Nat.le_div_iff_mul_le hpw]; exact h1.2.1
    have hc : ¬ d.code < d.size / 2 := by rw [f2]; omega
    refine ⟨by unfold Dec.directOf; rw [if_neg hc], ?_⟩
    unfold Dec.getDirect
    rw [if_neg hc]
    refine follows_widen ⟨f1, by show d.size / 2 = e.size / 2; rw [f2], f3, ?_⟩ h
    show d.code - d.size / 2 + (e.low + e.size / 2) = F / 256 ^ (T - e.turns)
    rw [f2] at hc ⊢; omega
theorem ahead_part {e : Enc} {F T a b c : Nat} (h2 : a + b ≤ c) (h : Ahead (e.part a b c) F T) : Ahead e F T := by
  have h1 := ahead_widen h
  have hm : e.size / c * (a + b) ≤ e.size := Nat.le_trans (Nat.mul_le_mul_left _ h2) (Nat.div_mul_le_self _ _)
  rw [Nat.mul_add] at hm
  exact ahead_within h1 rfl (by show e.low ≤ e.low + _; omega) (by show e.low + e.size / c * a + e.size / c * b ≤ e.low + e.size; omega)
theorem follows_part {d : Dec} {e : Enc} {F T a b c : Nat} {more : List UInt8} (hfi : Fine e) (h1 : 1 ≤ b) (h2 : a + b ≤ c) (h3 : c ≤ 65536) (hf : Follows d e F T more) (h : Ahead (e.part a b c) F T) :
    a ≤ d.whereIn c ∧ d.whereIn c < a + b ∧ Follows (d.take a b c) (e.part a b c) F T more := by
  have ha := ahead_widen h
  obtain ⟨f1, f2, f3, f4⟩ := hf
  have hpw : 0 < 256 ^ (T - e.turns) := Nat.pow_pos (by omega)
  have hr : 1 ≤ e.size / c := by rw [Nat.le_div_iff_mul_le (by omega)]; have := hfi.1; omega
  have hm : e.size / c * (a + b) ≤ e.size := Nat.le_trans (Nat.mul_le_mul_left _ h2) (Nat.div_mul_le_self _ _)
  have hlo : e.low + e.size / c * a ≤ F / 256 ^ (T - e.turns) := by rw [Nat.le_div_iff_mul_le hpw]; exact ha.2.1
  have hhi : F / 256 ^ (T - e.turns) < e.low + e.size / c * a + e.size / c * b := by rw [Nat.div_lt_iff_lt_mul hpw]; exact ha.2.2
  have c1 : e.size / c * a ≤ d.code := by omega
  have c2 : d.code < e.size / c * (a + b) := by rw [Nat.mul_add]; omega
  have q1 : a ≤ d.code / (e.size / c) := by rw [Nat.le_div_iff_mul_le (by omega), Nat.mul_comm]; exact c1
  have q2 : d.code / (e.size / c) < a + b := by rw [Nat.div_lt_iff_lt_mul (by omega), Nat.mul_comm]; exact c2
  have hw : d.whereIn c = d.code / (e.size / c) := by
    unfold Dec.whereIn
    rw [f2, Nat.min_eq_left (by omega)]
  refine ⟨by rw [hw]; exact q1, by rw [hw]; exact q2, ?_⟩
  have hsz := hfi.2.1
  have hcm : (d.code + 4294967296 - e.size / c * a % 4294967296) % 4294967296 = d.code - e.size / c * a := by
    have l1 : e.size / c * a < 4294967296 := by omega
    rw [Nat.mod_eq_of_lt l1, show d.code + 4294967296 - e.size / c * a = (d.code - e.size / c * a) + 4294967296 from by omega, Nat.add_mod_right, Nat.mod_eq_of_lt (by omega)]
  unfold Dec.take
  rw [f2, hcm]
  refine follows_widen ⟨f1, rfl, f3, ?_⟩ h
  show d.code - e.size / c * a + (e.low + e.size / c * a) = F / 256 ^ (T - e.turns)
  omega
/-- The decoder of F's bytes begins where the encoder began. -/
theorem follows_start {F T : Nat} {more : List UInt8} (h : Ahead Enc.start F T) : Follows (Dec.read (0 :: be (T + 4) F ++ more)) Enc.start F T more := by
  have h4 : be (T + 4) F = be 4 (F / 256 ^ T) ++ be T F := by rw [Nat.add_comm]; exact be_split 4 T F
  have hX : F / 256 ^ T < 4294967296 := by
    have := h.2.2
    simp [Enc.start] at this
    rw [Nat.div_lt_iff_lt_mul (Nat.pow_pos (by omega))]
    have : 4294967295 * 256 ^ T ≤ 4294967296 * 256 ^ T := Nat.mul_le_mul_right _ (by omega)
    omega
  rw [h4]
  generalize hFX : F / 256 ^ T = X at *
  have hb : be 4 X = [UInt8.ofNat (X / 256 / 256 / 256), UInt8.ofNat (X / 256 / 256), UInt8.ofNat (X / 256), UInt8.ofNat X] := rfl
  rw [hb]
  refine ⟨rfl, rfl, ?_, ?_⟩
  · show be T F ++ more = be (T - 0) F ++ more
    rw [Nat.sub_zero]
  · show 256 * (256 * (256 * (256 * 0 + (UInt8.ofNat (X / 256 / 256 / 256)).toNat) + (UInt8.ofNat (X / 256 / 256)).toNat) + (UInt8.ofNat (X / 256)).toNat) + (UInt8.ofNat X).toNat + 0 = F / 256 ^ (T - 0)
    rw [Nat.sub_zero, hFX]
    simp
    omega
/-- Behind the last step nothing is left. -/
theorem follows_end {d : Dec} {e : Enc} {more : List UInt8} (hf : Follows d e e.low e.turns more) : d.rest = more ∧ d.code = 0 ∧ d.bad = false := by
  obtain ⟨f1, _, f3, f4⟩ := hf
  rw [Nat.sub_self] at f3 f4
  refine ⟨by simpa [be] using f3, ?_, f1⟩
  simp at f4; omega
end Go.Proofs.YtoabeohfbikpcaaDoor.Rc
end
section
namespace Go.Proofs.YtoabeohfbikpcaaDoor.Rc
/-- An encoder, a tree, a place in it. -/
structure Tr where
  e : Enc
  l : List Nat
  m : Nat
def Tr.at (s : Tr) (k b : Nat) : Tr := ⟨s.e.bit (s.l.getD k 0) b, s.l.set k (learn (s.l.getD k 0) b), 2 * s.m + b⟩
def Tr.step (s : Tr) (b : Nat) : Tr := s.at s.m b
/-- Every probability lies within its bounds. -/
def Probs (l : List Nat) : Prop := ∀ x ∈ l, 31 ≤ x ∧ x ≤ 2017
theorem probs_get {l : List Nat} (h : Probs l) {k : Nat} (hk : k < l.length) : 31 ≤ l.getD k 0 ∧ l.getD k 0 ≤ 2017 := by
  have e : l.getD k 0 = l[k] := by simp [List.getD, hk]
  rw [e]; exact h _ (List.getElem_mem hk)
theorem probs_set {l : List Nat} (h : Probs l) (k : Nat) {x : Nat} (hx : 31 ≤ x ∧ x ≤ 2017) : Probs (l.set k x) := by
  intro y hy
  rcases List.mem_or_eq_of_mem_set hy with h1 | rfl
  · exact h y h1
  · exact hx
theorem probs_new (n : Nat) : Probs (List.replicate n 1024) := by
  intro x hx
  rw [List.eq_of_mem_replicate hx]; omega
/-- What holds behind i bits. -/
def Tr.Ok (s : Tr) (N i : Nat) : Prop := Fine s.e ∧ Probs s.l ∧ s.l.length = N ∧ s.m < 2 ^ (i + 1)
theorem at_ok {s : Tr} {N i k b : Nat} (h : s.Ok N i) (hk : k < N) (hb : b ≤ 1) : (s.at k b).Ok N (i + 1) := by
  obtain ⟨h1, h2, h3, h4⟩ := h
  have hp := probs_get h2 (by omega : k < s.l.length)
  refine ⟨fine_bit h1 (by omega) (by omega), probs_set h2 _ (learn_in hp.1 hp.2), by simp [Tr.at, h3], ?_⟩
  show 2 * s.m + b < 2 ^ (i + 1 + 1)
  rw [Nat.pow_succ]; omega
theorem at_turns (s : Tr) (k b : Nat) : (s.at k b).e.turns ≤ s.e.turns + 3 := by
  show (s.e.bit _ b).turns ≤ _
  rw [bit_eq]
  refine Nat.le_trans (turns_widen _) ?_
  split <;> exact Nat.le_refl _
/-- A number of n bits put, i bits of it done. -/
def putN (back : Bool) (n v : Nat) (s : Tr) : Nat → Tr
  | 0 => s
  | i + 1 => (putN back n v s i).step (if back then bitAt v i else bitAt v (n - 1 - i))
theorem putN_ok (back : Bool) (n v : Nat) {s : Tr} (h : s.Ok (2 ^ n) 0) : ∀ i, i ≤ n → (putN back n v s i).Ok (2 ^ n) i := by
  intro i
  induction i with
  | zero => intro _; exact h
  | succ i ih =>
    intro hi
    have h1 := ih (by omega)
    have hm : (putN back n v s i).m < 2 ^ n := Nat.lt_of_lt_of_le h1.2.2.2 (Nat.pow_le_pow_right (by omega) hi)
    refine at_ok h1 hm ?_
    split <;> exact bitAt_le _ _
theorem putN_turns (back : Bool) (n v : Nat) (s : Tr) : ∀ i, (putN back n v s i).e.turns ≤ s.e.turns + 3 * i := by
  intro i
  induction i with
  | zero => exact Nat.le_refl _
  | succ i ih =>
    have := at_turns (putN back n v s i) (putN back n v s i).m (if back then bitAt v i else bitAt v (n - 1 - i))
    show ((putN back n v s i).step _).e.turns ≤ _
    unfold Tr.step; omega
/-- The place of a bit beside another byte's. -/
def place (m : Nat) (like : Bool) (c : Nat) : Nat := if like then m + 256 + 256 * c else m
/-- A byte put beside another one, k bits of it done: and whether they are like. -/
def likeN (v o : Nat) (s : Tr) : Nat → Tr × Bool
  | 0 => (s, true)
  | k + 1 => ((likeN v o s k).1.at (place (likeN v o s k).1.m (likeN v o s k).2 (bitAt o (7 - k))) (bitAt v (7 - k)), (likeN v o s k).2 && (bitAt v (7 - k) == bitAt o (7 - k)))
theorem place_lt {m k c : Nat} {like : Bool} (hm : m < 2 ^ (k + 1)) (hk : k < 8) (hc : c ≤ 1) : place m like c < 768 := by
  have : 2 ^ (k + 1) ≤ 2 ^ 8 := Nat.pow_le_pow_right (by omega) (by omega)
  unfold place; split <;> omega
theorem likeN_ok (v o N : Nat) (hN : 768 ≤ N) {s : Tr} (h : s.Ok N 0) : ∀ k, k ≤ 8 → (likeN v o s k).1.Ok N k := by
  intro k
  induction k with
  | zero => intro _; exact h
  | succ k ih =>
    intro hk
    have h1 := ih (by omega)
    have hp := place_lt (like := (likeN v o s k).2) h1.2.2.2 (by omega : k < 8) (bitAt_le o (7 - k))
    exact at_ok h1 (by omega) (bitAt_le _ _)
theorem likeN_turns (v o : Nat) (s : Tr) : ∀ k, (likeN v o s k).1.e.turns ≤ s.e.turns + 3 * k := by
  intro k
  induction k with
  | zero => exact Nat.le_refl _
  | succ k ih =>
    have := at_turns (likeN v o s k).1 (place (likeN v o s k).1.m (likeN v o s k).2 (bitAt o (7 - k))) (bitAt v (7 - k))
    show ((likeN v o s k).1.at _ _).e.turns ≤ _
    omega
end Go.Proofs.YtoabeohfbikpcaaDoor.Rc
end
