/-
  Package arena, of a type of numbers: what it is in memory, and the contracts of its methods.
-/
import Derived.Test.YteacmcckhjabmaaArenaMath
import Derived.Test.YteacmcckhjabmaaBitsLen
import Derived.Deep.RegionHeld3
set_option linter.unusedVariables false
set_option linter.unusedSimpArgs false
namespace Go.Proofs.Yteacmcckhjabmaa.Ar
open Go.RowKit
open Rc
/-- Where the pages lie, and what they hold. -/
structure PgAt (w : World) (O : Paint) (c np cells : Nat) (tc : TypeId) (B : Nat → Nat) (A : Nat → Array Value) : Prop where
  blk : ∀ j, j < np → Blk w O c (B j) (.cells (A j) tc (0, 0)) ∧ (A j).size = 2 * psz cells j
  inj : ∀ j k, j < np → k < np → B j = B k → j = k
def pgs (B : Nat → Nat) (cells np : Nat) : List Value := (List.range np).map fun j => .slice (some ⟨B j, 0, none⟩) (psz cells j) (psz cells j)
/-- An arena in memory: the object's colour, its pages', the free numbers', the cells'; of one cell (ex) it isn't said what it holds. -/
structure ArenaAt (w : World) (O : Paint) (c1 c2 c3 c4 a : Nat) (ta tp tc : TypeId) (z : Aren) (ex : Nat) (B : Nat → Nat) (A : Nat → Array Value) (vp vf : Value) : Prop where
  ok : z.Ok
  col : c1 ≠ c2 ∧ c1 ≠ c3 ∧ c1 ≠ c4 ∧ c2 ≠ c3 ∧ c2 ≠ c4 ∧ c3 ≠ c4
  obj : Blk w O c1 a (.cells #[.int .i64 (z.cells : Int), vp, .int .i64 (z.used : Int), vf] ta (0, 0))
  pages : Held w O c2 tp vp (pgs B z.cells (Lib.bitLen z.used))
  freed : Held w O c3 3 vf (z.F.map fun (i : Nat) => Value.int .i64 (i : Int))
  pg : PgAt w O c4 (Lib.bitLen z.used) z.cells tc B A
  cont : ∀ i, 1 ≤ i → i ≤ z.used → i ≠ ex → (A (lg i))[2 * pk i]? = some (z.C i).1 ∧ (A (lg i))[2 * pk i + 1]? = some (.bool (z.C i).2)
section
variable {cs : List Nat} {w w' : World} {O O' : Paint} {c1 c2 c3 c4 a ex : Nat} {ta tp tc : TypeId} {z : Aren} {B : Nat → Nat} {A : Nat → Array Value} {vp vf : Value}
theorem PgAt.step {c np cells : Nat} (h : PgAt w O c np cells tc B A) (hs : Step cs w O w' O') (hc : c ∉ cs) : PgAt w' O' c np cells tc B A := ⟨fun j hj => ⟨(h.blk j hj).1.step hs hc, (h.blk j hj).2⟩, h.inj⟩
theorem ArenaAt.step (h : ArenaAt w O c1 c2 c3 c4 a ta tp tc z ex B A vp vf) (hs : Step cs w O w' O') (h1 : c1 ∉ cs) (h2 : c2 ∉ cs) (h3 : c3 ∉ cs) (h4 : c4 ∉ cs) : ArenaAt w' O' c1 c2 c3 c4 a ta tp tc z ex B A vp vf :=
  ⟨h.ok, h.col, h.obj.step hs h1, h.pages.step hs h2, h.freed.step hs h3, h.pg.step hs h4, h.cont⟩
theorem ArenaAt.idle (h : ArenaAt w O c1 c2 c3 c4 a ta tp tc z ex B A vp vf) (hs : Step [] w O w' O') : ArenaAt w' O' c1 c2 c3 c4 a ta tp tc z ex B A vp vf := h.step hs (by simp) (by simp) (by simp) (by simp)
theorem here {z : Aren} (hk : z.Ok) {i : Nat} (h1 : 1 ≤ i) (h2 : i ≤ z.used) :
    Lib.bitLen i = lg i + 1 ∧ lg i < Lib.bitLen z.used ∧ pk i < psz z.cells (lg i) ∧ 2 ^ lg i ≤ i ∧ lg i < 64 := by
  have hm := hk.most
  have hl := hk.le
  obtain ⟨a0, a1, a2, a3⟩ := lg_spec (i := i) h1 (by omega)
  obtain ⟨b0, b1, b2, b3⟩ := lg_spec (i := z.used) (by omega) (by omega)
  refine ⟨a0, ?_, pk_lt h1 (by omega) hm, a1, a3⟩
  by_cases hlt : lg i < Lib.bitLen z.used
  · exact hlt
  · have : 2 ^ (lg z.used + 1) ≤ 2 ^ lg i := Nat.pow_le_pow_right (by omega) (by omega)
    omega
theorem pgs_at (B : Nat → Nat) (cells : Nat) {np j : Nat} (h : j < np) : (pgs B cells np)[j]? = some (.slice (some ⟨B j, 0, none⟩) (psz cells j) (psz cells j)) := by
  unfold pgs
  rw [List.getElem?_map, List.getElem?_range h]
  rfl
def updA (A : Nat → Array Value) (j k : Nat) (u v : Value) : Nat → Array Value := fun i => if i = j then ((A i).setIfInBounds (2 * k) u).setIfInBounds (2 * k + 1) v else A i
theorem drewN_at (h : ArenaAt w O c1 c2 c3 c4 a ta tp tc z ex B A vp vf) (n : Nat) : ArenaAt (w.drewN n) O c1 c2 c3 c4 a ta tp tc z ex B A vp vf := h.idle ((Step.refl [] w O).drewN n)
/-- Two different cells lie apart. -/
theorem apart {i k : Nat} (h1 : 1 ≤ i) (h2 : i < 9223372036854775808) (h3 : 1 ≤ k) (h4 : k < 9223372036854775808) (hl : lg k = lg i) (hne : k ≠ i) : pk k ≠ pk i := by
  obtain ⟨_, a, _, _⟩ := lg_spec (i := i) h1 (by omega)
  obtain ⟨_, b, _, _⟩ := lg_spec (i := k) h3 (by omega)
  unfold pk
  rw [hl] at b ⊢
  omega
/-- A cell is set, its mark too. -/
theorem ArenaAt.put (h : ArenaAt w O c1 c2 c3 c4 a ta tp tc z ex B A vp vf) {i : Nat} (h1 : 1 ≤ i) (h2 : i ≤ z.used) (v : Value) (b : Bool) {z' : Aren} (he : z' = ⟨z.cells, z.used, upd z.C i (v, b), z.F⟩) (hk : z'.Ok) :
    Step [c4] w O ((w.setCell ⟨B (lg i), 2 * pk i, none⟩ v).setCell ⟨B (lg i), 2 * pk i + 1, none⟩ (.bool b)) O ∧ ∀ ex', (ex = i ∨ ex' = ex) → ArenaAt ((w.setCell ⟨B (lg i), 2 * pk i, none⟩ v).setCell ⟨B (lg i), 2 * pk i + 1, none⟩ (.bool b)) O c1 c2 c3 c4 a ta tp tc z' ex' B (updA A (lg i) (pk i) v (.bool b)) vp vf := by
  obtain ⟨a0, a1, a2, a3, a4⟩ := here h.ok h1 h2
  obtain ⟨d1, d2, d3, d4, d5, d6⟩ := h.col
  have hm := h.ok.most
  have hle := h.ok.le
  have hB := (h.pg.blk _ a1).1
  have hs : Step [c4] w O ((w.setCell ⟨B (lg i), 2 * pk i, none⟩ v).setCell ⟨B (lg i), 2 * pk i + 1, none⟩ (.bool b)) O :=
    ((Step.refl [c4] w O).setCell (p := ⟨B (lg i), 2 * pk i, none⟩) (.inl (by simp [hB.2])) _).setCell (p := ⟨B (lg i), 2 * pk i + 1, none⟩) (.inl (by simp [hB.2])) _
  refine ⟨hs, fun ex' hex => ?_⟩
  subst he
  refine ⟨hk, h.col, h.obj.step hs (by simp; exact d3), h.pages.step hs (by simp; exact d5), h.freed.step hs (by simp; exact d6), ⟨fun j hj => ?_, h.pg.inj⟩, fun k k1 k2 k3 => ?_⟩
  · have hj' : j < Lib.bitLen z.used := hj
    obtain ⟨e1, e2⟩ := h.pg.blk j hj'
    by_cases hq : j = lg i
    · subst hq
      unfold updA
      rw [if_pos rfl]
      exact ⟨(e1.setCell _ _).setCell _ _, by simpa using e2⟩
    · have hn : B (lg i) ≠ B j := fun e => hq (h.pg.inj _ _ a1 hj' e).symm
      unfold updA
      rw [if_neg hq]
      exact ⟨(e1.setCell_other hn _).setCell_other hn _, e2⟩
  · have k2' : k ≤ z.used := k2
    have hsz := (h.pg.blk _ a1).2
    by_cases hq : k = i
    · subst hq
      unfold updA upd
      rw [if_pos rfl]
      dsimp only
      rw [if_pos rfl]
      constructor
      · rw [Array.getElem?_setIfInBounds_ne (by omega), Array.getElem?_setIfInBounds_self_of_lt (by omega)]
      · rw [Array.getElem?_setIfInBounds_self_of_lt (by simp; omega)]
    · have hke : k ≠ ex := by
        rcases hex with e | e
        · omega
        · omega
      have hc := h.cont k k1 k2' hke
      unfold upd
      dsimp only
      rw [if_neg hq]
      unfold updA
      by_cases hg : lg k = lg i
      · have hp := apart h1 (by omega) k1 (by omega) hg hq
        rw [if_pos hg, Array.getElem?_setIfInBounds_ne (by omega), Array.getElem?_setIfInBounds_ne (by omega), Array.getElem?_setIfInBounds_ne (by omega), Array.getElem?_setIfInBounds_ne (by omega)]
        exact hc
      · rw [if_neg hg]
        exact hc
end
theorem held_init {w : World} {O : Paint} {c : Nat} {e : TypeId} {g n cap : Nat} {xs : List Value} {x : Value} (h : Held w O c e (.slice (some ⟨g, 0, none⟩) n cap) (xs ++ [x])) : Held w O c e (.slice (some ⟨g, 0, none⟩) xs.length cap) xs := by
  obtain ⟨⟨h1, h2⟩, hp⟩ := h
  rcases h2 with ⟨e0, _⟩ | ⟨g', p, cur, e1, e2, e3, e4, e5, e6, e7⟩
  · cases e0
  · simp only [Value.slice.injEq, Option.some.injEq, Addr.mk.injEq, and_true] at e1
    obtain ⟨rfl, _, rfl⟩ := e1
    simp only [List.length_append, List.length_cons, List.length_nil] at e4 e7
    refine ⟨⟨by simp, .inr ⟨g, cap, cur, rfl, e2, e3, by omega, e5, e6, ?_⟩⟩, fun k hk => hp k hk⟩
    have := congrArg (List.take xs.length) e7
    rw [List.take_take, List.take_left'  rfl] at this
    rw [show min xs.length ((xs.length + (0 + 1)) * 1) = xs.length * 1 by omega] at this
    exact this
theorem held_more {w w' : World} {O : Paint} {c : Nat} {e : TypeId} {v x : Value} {xs : List Value} {o : Obj} {g n cap : Nat} (h : Held w O c e v xs) (hn : xs.length = n) (hr : w'.ownsRow 0 e 1 (.slice (some ⟨g, 0, none⟩) (n + 1) cap) (n + 1) (xs ++ [x])) (hg : (w.alloc o).grownBy w' v.ownBlock) (hm : Moved (w.alloc o) v (.slice (some ⟨g, 0, none⟩) (n + 1) cap)) :
    Step [c] w O w' (Step.paint O w c) ∧ Held w' (Step.paint O w c) c e (.slice (some ⟨g, 0, none⟩) (n + 1) cap) (xs ++ [x]) := by
  have s1 : Step [c] w O w' (Step.paint O w c) := ((((Step.refl [c] w O).alloc o).grown hg (fun k hk => by
    left; simp; exact h.paint k hk))).repaint c
  refine ⟨s1, ⟨?_, fun k hk => ?_⟩⟩
  · rw [List.length_append, hn]
    exact hr
  · rcases hm with e1 | e1
    · rw [e1] at hk
      rw [Step.paint_old (h.lt hk)]; exact h.paint k hk
    · have := e1 k hk
      rw [World.size_alloc] at this
      exact Step.paint_new (by omega)
theorem step_append1 {P : Program} (w : World) {ops : Array Oper} {o : Oper} {a : Act} {K : Act → World → Prop} {Q : Exit → Act → World → Prop} {E : Prop} (hgd : o.guard = none) (s x : Operand) (t : TypeId)
    (ho : o.op = .call { callee := .builtin .append, args := #[s, x], argTypes := #[t, t] })
    (e : TypeId) (i : TypeInfo) (z : Value) (size bytes : Nat) (ht : P.underlying t = some (.slice e)) (hi : P.info? e = some i) (hz : i.zero = some z)
    (hsize : i.size = size) (hby : i.bytes = bytes) (hzs : z.cells.size = size) (hsz : 0 < size)
    (v : Value) (n : Nat) (xs : List Value) (hs : a.eval s = v) (hown : w.ownsRow 0 e size v n xs)
    (ad : Addr) (m c : Nat) (hm : 0 < m) (news : List Value) (hx : a.eval x = .slice (some ad) m c) (hl : news.length = m * size) (hnews : ∀ j u, news[j]? = some u → w.cell? (ad.add j) = some u) (h1 : ∀ u ∈ news, u.oneCell' = true)
    (h63 : n + m ≤ maxLen) (hbytes : (n + m) * bytes ≤ 140737488355328)
    (h : ∀ g cap w', w'.ownsRow 0 e size (.slice (some ⟨g, 0, none⟩) (n + m) cap) (n + m) (xs ++ news) → w.grownBy w' v.ownBlock → Moved w v (.slice (some ⟨g, 0, none⟩) (n + m) cap) → K (a.put o.dst (.slice (some ⟨g, 0, none⟩) (n + m) cap)) w') :
    if Region.wanted o (yielded ops a.tmps) = true then Oper.wp P o a w K Q else E := by
  have hw : Region.wanted o (yielded ops a.tmps) = true := by simp [Region.wanted, hgd]
  rw [if_pos hw]
  refine wp_append_sep w s x t ho e i z size bytes ht hi hz hsize hby hzs hsz v n xs hs hown ad m c news hx hl hnews h1 h63 hbytes ?_
  intro v' w' h2 h3 h4
  obtain ⟨g, cap, rfl⟩ := own_form h2 (by omega)
  exact h g cap w' h2 h3 h4
theorem one_new (w : World) (x : Value) (t : TypeId) : ∀ j u, [x][j]? = some u → (w.alloc (.cells #[x] t)).cell? ((⟨w.heap.size, 0, none⟩ : Addr).add j) = some u := by
  intro j u hu
  cases j with
  | zero =>
    simp only [List.getElem?_cons_zero, Option.some.injEq] at hu
    subst hu
    show (w.alloc (.cells #[x] t)).cell? ⟨w.heap.size, 0 + 0, none⟩ = _
    unfold World.cell?
    dsimp only
    rw [heap_alloc_new]
    rfl
  | succ j => simp at hu
/-- Empty: what a new one holds. -/
def zNew (n : Nat) : Aren := ⟨n, 0, fun _ => (.int .i64 0, false), []⟩
theorem zNew_ok {n : Nat} (h : n < 9223372036854775808) : (zNew n).Ok := ⟨h, Nat.zero_le _, List.nodup_nil, fun x hx => by cases hx⟩
theorem at_new {w : World} {O : Paint} {c1 c2 c3 c4 a : Nat} {ta tp tc : TypeId} (n : Nat) (hn : n < 9223372036854775808) (hc : c1 ≠ c2 ∧ c1 ≠ c3 ∧ c1 ≠ c4 ∧ c2 ≠ c3 ∧ c2 ≠ c4 ∧ c3 ≠ c4) (hb : Blk w O c1 a (.cells #[.int .i64 (n : Int), .slice none 0 0, .int .i64 0, .slice none 0 0] ta (0, 0))) (B : Nat → Nat) (A : Nat → Array Value) :
    ArenaAt w O c1 c2 c3 c4 a ta tp tc (zNew n) 0 B A (.slice none 0 0) (.slice none 0 0) :=
  ⟨zNew_ok hn, hc, hb, ⟨by rw [show pgs B (zNew n).cells (Lib.bitLen (zNew n).used) = [] by unfold zNew; simp only [bl_zero]; rfl]; exact World.ownsRow_nil _ _ _ _, fun k hk => by simp [Value.ownBlock] at hk⟩, ⟨World.ownsRow_nil _ _ _ _, fun k hk => by simp [Value.ownBlock] at hk⟩,
    ⟨fun j hj => absurd (show j < 0 by rw [show Lib.bitLen (zNew n).used = 0 from bl_zero] at hj; exact hj) (Nat.not_lt_zero _), fun j k hj => absurd (show j < 0 by rw [show Lib.bitLen (zNew n).used = 0 from bl_zero] at hj; exact hj) (Nat.not_lt_zero _)⟩, fun i h1 h2 => absurd (show i ≤ 0 from h2) (by omega)⟩
/-- The next cell, of the free ones, is no longer free: what it holds isn't said. -/
theorem take_free {z : Aren} (hk : z.Ok) {l : List Nat} {i : Nat} (hF : z.F = l ++ [i]) (v : Value) : z.next = i ∧ (z.take v).F = l ∧ (z.take v).used = z.used ∧ (z.take v).Ok ∧ 1 ≤ i ∧ i ≤ z.used := by
  have hn : z.next = i := by unfold Aren.next; rw [hF]; simp
  have hi := (hk.free i (by rw [hF]; simp)).1
  have hd : z.F.dropLast = l := by rw [hF]; simp
  have hnd := hk.nodup
  rw [hF] at hnd
  have hu : max z.used z.next = z.used := by rw [hn]; omega
  refine ⟨hn, hd, hu, ⟨hk.most, ?_, ?_, ?_⟩, hi.1, hi.2⟩
  · show max z.used z.next ≤ z.cells
    rw [hu]; exact hk.le
  · show z.F.dropLast.Nodup
    rw [hd]
    exact (List.nodup_append.1 hnd).1
  · intro x hx
    have hx2 : x ∈ l := by rw [show (z.take v).F = z.F.dropLast from rfl, hd] at hx; exact hx
    have hf := hk.free x (by rw [hF]; simp [hx2])
    have hne : x ≠ i := fun e => (List.nodup_append.1 hnd).2.2 x hx2 i (by simp) e
    refine ⟨⟨hf.1.1, ?_⟩, ?_⟩
    · show x ≤ max z.used z.next
      omega
    · show (upd z.C z.next (v, true) x).2 = false
      unfold upd
      rw [if_neg (by rw [hn]; exact hne)]
      exact hf.2
theorem take_new {z : Aren} (hk : z.Ok) (hF : z.F = []) (hl : z.used < z.cells) (v : Value) : z.next = z.used + 1 ∧ (z.take v).F = [] ∧ (z.take v).used = z.used + 1 ∧ (z.take v).Ok := by
  have hn : z.next = z.used + 1 := by unfold Aren.next; rw [hF]; rfl
  have hu : max z.used z.next = z.used + 1 := by rw [hn]; omega
  have hd : z.F.dropLast = [] := by rw [hF]; rfl
  refine ⟨hn, hd, hu, ⟨hk.most, ?_, ?_, ?_⟩⟩
  · show max z.used z.next ≤ z.cells
    omega
  · show z.F.dropLast.Nodup
    rw [hd]
    exact List.nodup_nil
  · intro x hx
    rw [show (z.take v).F = z.F.dropLast from rfl, hd] at hx
    cases hx
theorem map_snoc (l : List Nat) (i : Nat) : (l ++ [i]).map (fun (i : Nat) => Value.int .i64 (i : Int)) = l.map (fun (i : Nat) => Value.int .i64 (i : Int)) ++ [Value.int .i64 (i : Int)] := by simp
theorem pgs_snoc (B : Nat → Nat) (cells np P : Nat) : pgs (fun j => if j = np then P else B j) cells (np + 1) = pgs B cells np ++ [.slice (some ⟨P, 0, none⟩) (psz cells np) (psz cells np)] := by
  unfold pgs
  rw [List.range_succ, List.map_append]
  congr 1
  · apply List.map_congr_left
    intro j hj
    have := List.mem_range.1 hj
    simp only
    rw [if_neg (by omega)]
  · simp
theorem ArenaAt.taken {ta tp tc : TypeId} {w w' : World} {O O' : Paint} {c1 c2 c3 c4 a : Nat} {z : Aren} {B : Nat → Nat} {A : Nat → Array Value} {vp vf vf' : Value} (h : ArenaAt w O c1 c2 c3 c4 a ta tp tc z 0 B A vp vf) {l : List Nat} {i : Nat} (hF : z.F = l ++ [i]) (v : Value) (hs : Step [c1] w O w' O') (hobj : Blk w' O' c1 a (.cells #[.int .i64 (z.cells : Int), vp, .int .i64 (z.used : Int), vf'] ta (0, 0)))
    (hf : Held w' O' c3 3 vf' (l.map fun (i : Nat) => Value.int .i64 (i : Int))) : ArenaAt w' O' c1 c2 c3 c4 a ta tp tc (z.take v) i B A vp vf' := by
  obtain ⟨d1, d2, d3, d4, d5, d6⟩ := h.col
  obtain ⟨t1, t2, t3, t4, t5, t6⟩ := take_free h.ok hF v
  refine ⟨t4, h.col, ?_, ?_, ?_, ?_, fun k k1 k2 k3 => ?_⟩
  · rw [t3]; exact hobj
  · rw [t3]; exact h.pages.step hs (by simp; omega)
  · rw [t2]; exact hf
  · rw [t3]; exact h.pg.step hs (by simp; omega)
  · rw [t3] at k2
    show _ = some (upd z.C z.next (v, true) k).1 ∧ _ = some (Value.bool (upd z.C z.next (v, true) k).2)
    unfold upd
    rw [if_neg (by rw [t1]; exact k3)]
    exact h.cont k k1 k2 (by omega)
/-- One more was taken, in a page that there is, or in a new one. -/
theorem ArenaAt.grown {ta tp tc : TypeId} {w w' : World} {O O' : Paint} {c1 c2 c3 c4 a : Nat} {z : Aren} {B B' : Nat → Nat} {A A' : Nat → Array Value} {vp vp' vf : Value} (h : ArenaAt w O c1 c2 c3 c4 a ta tp tc z 0 B A vp vf) (hF : z.F = []) (hl : z.used < z.cells) (v : Value) (hs : Step [c1, c2] w O w' O') (hobj : Blk w' O' c1 a (.cells #[.int .i64 (z.cells : Int), vp', .int .i64 ((z.used + 1 : Nat) : Int), vf] ta (0, 0)))
    (hp : Held w' O' c2 tp vp' (pgs B' z.cells (Lib.bitLen (z.used + 1)))) (hg : PgAt w' O' c4 (Lib.bitLen (z.used + 1)) z.cells tc B' A') (hA : ∀ j, j < Lib.bitLen z.used → A' j = A j) : ArenaAt w' O' c1 c2 c3 c4 a ta tp tc (z.take v) (z.used + 1) B' A' vp' vf := by
  obtain ⟨d1, d2, d3, d4, d5, d6⟩ := h.col
  obtain ⟨t1, t2, t3, t4⟩ := take_new h.ok hF hl v
  refine ⟨t4, h.col, ?_, ?_, ?_, ?_, fun k k1 k2 k3 => ?_⟩
  · rw [t3]; exact hobj
  · rw [t3]; exact hp
  · have hf := h.freed.step hs (by simp; omega)
    rw [hF] at hf
    rw [t2]
    exact hf
  · rw [t3]; exact hg
  · rw [t3] at k2
    have k4 : k ≤ z.used := by omega
    show _ = some (upd z.C z.next (v, true) k).1 ∧ _ = some (Value.bool (upd z.C z.next (v, true) k).2)
    unfold upd
    rw [if_neg (by rw [t1]; exact k3), hA _ (here h.ok k1 k4).2.1]
    exact h.cont k k1 k4 (by omega)
/-- A new page behind the others. -/
theorem ArenaAt.paged {ta tp tc : TypeId} {w W0 W3 : World} {O : Paint} {c1 c2 c3 c4 a N g cap : Nat} {z : Aren} {B : Nat → Nat} {A : Nat → Array Value} {vp vf : Value} {cells : Array Value} {o : Obj} (h : ArenaAt w O c1 c2 c3 c4 a ta tp tc z 0 B A vp vf) (hF : z.F = []) (hl : z.used < z.cells) (v : Value)
    (hn : Lib.bitLen (z.used + 1) = Lib.bitLen z.used + 1) (hN : N = psz z.cells (Lib.bitLen z.used)) (hsz : cells.size = 2 * N) (s0 : Step [c1] w O W0 O) (hobj : Blk W0 O c1 a (.cells #[.int .i64 (z.cells : Int), vp, .int .i64 ((z.used + 1 : Nat) : Int), vf] ta (0, 0)))
    (hr : W3.ownsRow 0 tp 1 (.slice (some ⟨g, 0, none⟩) (Lib.bitLen z.used + 1) cap) (Lib.bitLen z.used + 1) (pgs B z.cells (Lib.bitLen z.used) ++ [.slice (some ⟨W0.heap.size, 0, none⟩) N N]))
    (hg : ((W0.alloc (.cells cells tc)).alloc o).grownBy W3 vp.ownBlock) (hm : Moved ((W0.alloc (.cells cells tc)).alloc o) vp (.slice (some ⟨g, 0, none⟩) (Lib.bitLen z.used + 1) cap)) :
    ∃ O' B' A', Step [c1, c2] w O (W3.setCell ⟨a, 1, none⟩ (.slice (some ⟨g, 0, none⟩) (Lib.bitLen z.used + 1) cap)) O' ∧ ArenaAt (W3.setCell ⟨a, 1, none⟩ (.slice (some ⟨g, 0, none⟩) (Lib.bitLen z.used + 1) cap)) O' c1 c2 c3 c4 a ta tp tc (z.take v) (z.used + 1) B' A' (.slice (some ⟨g, 0, none⟩) (Lib.bitLen z.used + 1) cap) vf := by
  obtain ⟨d1, d2, d3, d4, d5, d6⟩ := h.col
  have s1 : Step [] W0 O (W0.alloc (.cells cells tc)) (Step.paint O W0 c4) := Step.of_below ((Below.refl _ _).alloc (Nat.le_refl _) _) O c4
  have hP : Blk (W0.alloc (.cells cells tc)) (Step.paint O W0 c4) c4 W0.heap.size (.cells cells tc (0, 0)) := ⟨heap_alloc_new _ _, Step.paint_new (Nat.le_refl _)⟩
  have hp1 := (h.pages.step s0 (by simp; omega)).step s1 (by simp)
  obtain ⟨s3, hp3⟩ := held_more (o := o) hp1 (by unfold pgs; simp) hr hg hm
  have ho3 := (hobj.step s1 (by simp)).step s3 (by simp; omega)
  have s4 : Step [c1] W3 (Step.paint (Step.paint O W0 c4) (W0.alloc (.cells cells tc)) c2) (W3.setCell ⟨a, 1, none⟩ (.slice (some ⟨g, 0, none⟩) (Lib.bitLen z.used + 1) cap)) (Step.paint (Step.paint O W0 c4) (W0.alloc (.cells cells tc)) c2) := (Step.refl [c1] _ _).setCell (p := ⟨a, 1, none⟩) (.inl (by simp [ho3.2])) _
  have ho4 := ho3.setCell 1 (.slice (some ⟨g, 0, none⟩) (Lib.bitLen z.used + 1) cap)
  simp at ho4
  have hs := (((s0.mono (ds := [c1, c2]) (by simp)).trans (s1.mono (by simp))).trans (s3.mono (by simp))).trans (s4.mono (by simp))
  refine ⟨_, fun j => if j = Lib.bitLen z.used then W0.heap.size else B j, fun j => if j = Lib.bitLen z.used then cells else A j, hs, h.grown hF hl v hs ho4 ?_ ⟨fun j hj => ?_, fun j k hj hk hjk => ?_⟩ (fun j hj => if_neg (by omega))⟩
  · rw [hn, pgs_snoc, ← hN]
    exact hp3.step s4 (by simp; omega)
  · rw [hn] at hj
    by_cases hq : j = Lib.bitLen z.used
    · rw [if_pos hq, if_pos hq, hq, ← hN]
      exact ⟨(hP.step s3 (by simp; omega)).step s4 (by simp; omega), hsz⟩
    · rw [if_neg hq, if_neg hq]
      obtain ⟨e1, e2⟩ := h.pg.blk j (by omega)
      exact ⟨(((e1.step s0 (by simp; omega)).step s1 (by simp)).step s3 (by simp; omega)).step s4 (by simp; omega), e2⟩
  · rw [hn] at hj hk
    have old : ∀ i, i < Lib.bitLen z.used → B i < W0.heap.size := fun i hi => ((h.pg.blk i hi).1.step s0 (by simp; omega)).lt
    by_cases q1 : j = Lib.bitLen z.used
    · by_cases q2 : k = Lib.bitLen z.used
      · omega
      · rw [if_pos q1, if_neg q2] at hjk
        have := old k (by omega)
        omega
    · by_cases q2 : k = Lib.bitLen z.used
      · rw [if_neg q1, if_pos q2] at hjk
        have := old j (by omega)
        omega
      · rw [if_neg q1, if_neg q2] at hjk
        exact h.pg.inj j k (by omega) (by omega) hjk
theorem upd_upd (C : Nat → Value × Bool) (i : Nat) (x : Value × Bool) : upd (upd C i x) i x = upd C i x := by
  funext k
  unfold upd
  split <;> rfl
theorem free_ok {z : Aren} (hk : z.Ok) {i : Nat} (h1 : 1 ≤ i) (h2 : i ≤ z.used) (h3 : (z.C i).2 = true) (v0 : Value) : (⟨z.cells, z.used, upd z.C i (v0, false), z.F⟩ : Aren).Ok ∧ (z.free i v0).Ok := by
  have hni : ∀ x ∈ z.F, x ≠ i := fun x hx e => by
    have := (hk.free x hx).2
    rw [e, h3] at this
    cases this
  have hfr : ∀ x ∈ z.F, (1 ≤ x ∧ x ≤ z.used) ∧ (upd z.C i (v0, false) x).2 = false := fun x hx => by
    refine ⟨(hk.free x hx).1, ?_⟩
    unfold upd
    rw [if_neg (hni x hx)]
    exact (hk.free x hx).2
  refine ⟨⟨hk.most, hk.le, hk.nodup, hfr⟩, ⟨hk.most, hk.le, ?_, fun x hx => ?_⟩⟩
  · show (z.F ++ [i]).Nodup
    refine List.nodup_append.2 ⟨hk.nodup, by simp, fun a ha b hb => ?_⟩
    rw [List.mem_singleton.1 hb]
    exact hni a ha
  · rcases List.mem_append.1 hx with hx | hx
    · exact hfr x hx
    · rw [List.mem_singleton.1 hx]
      refine ⟨⟨h1, h2⟩, ?_⟩
      show (upd z.C i (v0, false) i).2 = false
      unfold upd
      rw [if_pos rfl]
theorem ArenaAt.more {ta tp tc : TypeId} {w W3 : World} {O : Paint} {c1 c2 c3 c4 a i g cap : Nat} {z z2 : Aren} {B : Nat → Nat} {A : Nat → Array Value} {vp vf : Value} {o : Obj} (h : ArenaAt w O c1 c2 c3 c4 a ta tp tc z 0 B A vp vf) (he : z2 = ⟨z.cells, z.used, z.C, z.F ++ [i]⟩) (hk : z2.Ok)
    (hr : W3.ownsRow 0 3 1 (.slice (some ⟨g, 0, none⟩) (z.F.length + 1) cap) (z.F.length + 1) ((z.F.map fun (i : Nat) => Value.int .i64 (i : Int)) ++ [.int .i64 (i : Int)])) (hg : (w.alloc o).grownBy W3 vf.ownBlock) (hm : Moved (w.alloc o) vf (.slice (some ⟨g, 0, none⟩) (z.F.length + 1) cap)) :
    ∃ O', Step [c1, c3] w O (W3.setCell ⟨a, 3, none⟩ (.slice (some ⟨g, 0, none⟩) (z.F.length + 1) cap)) O' ∧ ArenaAt (W3.setCell ⟨a, 3, none⟩ (.slice (some ⟨g, 0, none⟩) (z.F.length + 1) cap)) O' c1 c2 c3 c4 a ta tp tc z2 0 B A vp (.slice (some ⟨g, 0, none⟩) (z.F.length + 1) cap) := by
  obtain ⟨d1, d2, d3, d4, d5, d6⟩ := h.col
  obtain ⟨s3, hf3⟩ := held_more (o := o) h.freed (by simp) hr hg hm
  have ho3 := h.obj.step s3 (by simp; omega)
  have s4 : Step [c1] W3 (Step.paint O w c3) (W3.setCell ⟨a, 3, none⟩ (.slice (some ⟨g, 0, none⟩) (z.F.length + 1) cap)) (Step.paint O w c3) := (Step.refl [c1] _ _).setCell (p := ⟨a, 3, none⟩) (.inl (by simp [ho3.2])) _
  have ho4 := ho3.setCell 3 (.slice (some ⟨g, 0, none⟩) (z.F.length + 1) cap)
  simp at ho4
  subst he
  refine ⟨_, (s3.mono (by simp)).trans (s4.mono (by simp)), hk, h.col, ho4, (h.pages.step s3 (by simp; omega)).step s4 (by simp; omega), ?_, (h.pg.step s3 (by simp; omega)).step s4 (by simp; omega), h.cont⟩
  rw [map_snoc]
  exact hf3.step s4 (by simp; omega)
theorem four_cells {w : World} {X : Nat} {a b c d : Value} {t : TypeId} (h : w.heap[X]? = some (.cells #[a, b, c, d] t (0, 0))) :
    w.cell? ⟨X, 0, none⟩ = some a ∧ w.cell? ⟨X, 1, none⟩ = some b ∧ w.cell? ⟨X, 2, none⟩ = some c ∧ w.cell? ⟨X, 3, none⟩ = some d := by
  refine ⟨?_, ?_, ?_, ?_⟩ <;> simp [World.cell?, h]
theorem shl_one {j : Nat} (h : j < 63) : (2 : Nat) ^ j < 9223372036854775808 := by
  have : 2 ^ j ≤ 2 ^ 62 := Nat.pow_le_pow_right (by omega) (by omega)
  omega
theorem pk_wrap {i : Nat} (h1 : 1 ≤ i) (h2 : i < 9223372036854775808) : wrap64 ((i : Int) - wrap64 ((2 : Int) ^ lg i)) = (pk i : Int) := by
  obtain ⟨_, a1, _, _⟩ := lg_spec (i := i) h1 (by omega)
  have hcast : (2 : Int) ^ lg i = ((2 ^ lg i : Nat) : Int) := (Int.natCast_pow 2 (lg i)).symm
  have hp : pk i = i - 2 ^ lg i := rfl
  rw [hcast]
  generalize (2 : Nat) ^ lg i = P at *
  unfold wrap64
  omega
set_option maxRecDepth 100000 in
theorem place_any (i : Nat) (h1 : 1 ≤ i) (h2 : i < 9223372036854775808) (w : World) : Calls Try.prog 127 #[.int .i64 (i : Int)] w fun x w' => x = .returned (.tuple #[.int .i64 (lg i : Int), .int .i64 (pk i : Int)]) ∧ ∃ n, w' = w.drewN n := by
  obtain ⟨a0, a1, a2, a3⟩ := lg_spec (i := i) h1 (by omega)
  have h63 : lg i < 63 := by
    by_cases hh : lg i < 63
    · exact hh
    · have : 2 ^ 63 ≤ 2 ^ lg i := Nat.pow_le_pow_right (by omega) (by omega)
      omega
  have HL := Lib.hid (fun W => Pc.len_int (i : Int) (by omega) (by omega) W)
  rw [show (i : Int).toNat = i from rfl, a0] at HL
  have hu : IntKind.u64.wrap (i : Int) = (i : Int) := by rw [IntKind.wrap_u64]; omega
  have hw : IntKind.i64.wrap (((lg i + 1 : Nat) : Int) - 1) = (lg i : Int) := by rw [IntKind.wrap_i64]; omega
  have hsh := shl_one h63
  have HW2 := Lib.hid (pk_wrap h1 h2)
  clear hsh a1 a2
  go_enter Try.func127, Try.ntmps127
  go_wp2_with fail
  refine (HL.out w).mono ?_
  rintro x w1 ⟨rfl, rfl⟩
  go_upto_region 2 with (fail)
  go_quiet (fail)
  go_wp2_with fail
  go_ret2
  refine ⟨?_, _, rfl⟩
  show Ending.returned (.tuple #[.int .i64 (lg i : Int), .int .i64 (wrap64 ((i : Int) - wrap64 ((2 : Int) ^ lg i)))]) = _
  rw [HW2.out]
section
variable {cs : List Nat} {w w' : World} {O O' : Paint} {c1 c2 c3 c4 a ex : Nat} {z : Aren} {B : Nat → Nat} {A : Nat → Array Value} {vp vf : Value}
/-- The cells of a number that is there. -/
theorem ArenaAt.two {ta tp tc : TypeId} (h : ArenaAt w O c1 c2 c3 c4 a ta tp tc z ex B A vp vf) {i : Nat} (h1 : 1 ≤ i) (h2 : i ≤ z.used) (h3 : i ≠ ex) : w.cell? ⟨B (lg i), 2 * pk i, none⟩ = some (z.C i).1 ∧ w.cell? ⟨B (lg i), 2 * pk i + 1, none⟩ = some (.bool (z.C i).2) := by
  obtain ⟨a0, a1, a2, a3, a4⟩ := here h.ok h1 h2
  obtain ⟨e1, e2⟩ := h.cont i h1 h2 h3
  have hb := (h.pg.blk _ a1).1
  exact ⟨(hb.cell _).trans e1, (hb.cell _).trans e2⟩
/-- The cells of a number, whatever they hold. -/
theorem ArenaAt.some {ta tp tc : TypeId} (h : ArenaAt w O c1 c2 c3 c4 a ta tp tc z ex B A vp vf) {i : Nat} (h1 : 1 ≤ i) (h2 : i ≤ z.used) : (∃ u v, w.cell? ⟨B (lg i), 2 * pk i, none⟩ = some u ∧ w.cell? ⟨B (lg i), 2 * pk i + 1, none⟩ = some v) ∧ (w.frozen? ⟨B (lg i), 2 * pk i, none⟩ = false ∧ w.frozen? ⟨B (lg i), 2 * pk i + 1, none⟩ = false) := by
  obtain ⟨a0, a1, a2, a3, a4⟩ := here h.ok h1 h2
  obtain ⟨hb, hs⟩ := h.pg.blk _ a1
  refine ⟨⟨(A (lg i))[2 * pk i], (A (lg i))[2 * pk i + 1], ?_, ?_⟩, hb.free _, hb.free _⟩
  · rw [hb.cell, Array.getElem?_eq_getElem]
  · rw [hb.cell, Array.getElem?_eq_getElem]
end
end Go.Proofs.Yteacmcckhjabmaa.Ar
