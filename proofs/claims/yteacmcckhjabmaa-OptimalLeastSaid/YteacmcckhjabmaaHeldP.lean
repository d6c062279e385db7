/-
  A list of packets that is kept, and belongs to a colour.
-/
import Derived.Test.YteacmcckhjabmaaPackDo
import Derived.Test.YteacmcckhjabmaaBase
set_option linter.unusedVariables false
namespace Go.Proofs.Yteacmcckhjabmaa.Mo
open Go.RowKit
open Rc
open Pk (Rp Pt four)
open Pl (flatP)
/-- A list of packets that is kept. -/
structure HeldP (w : World) (O : Paint) (c : Nat) (v : Value) (l : List Pt) : Prop where
  row : w.ownsRow 0 32 4 v l.length (flatP l)
  paint : ∀ k, v.ownBlock = some k → O k = c
theorem HeldP.nil (w : World) (O : Paint) (c : Nat) : HeldP w O c (.slice none 0 0) [] := ⟨World.ownsRow_nil _ _ _ _, fun k hk => by simp [Value.ownBlock] at hk⟩
section
variable {cs : List Nat} {w w' : World} {O O' : Paint} {c : Nat} {v : Value} {l : List Pt}
theorem HeldP.lt (h : HeldP w O c v l) {k : Nat} (hk : v.ownBlock = some k) : k < w.heap.size := ownsRow_lt h.row k hk
theorem HeldP.step (h : HeldP w O c v l) (hs : Step cs w O w' O') (hc : c ∉ cs) : HeldP w' O' c v l :=
  ⟨ownsRow_frame h.row hs.frame (fun k hk ho => hc (by rw [h.paint k hk] at ho; exact ho)), fun k hk => (hs.ext k (h.lt hk)).trans (h.paint k hk)⟩
theorem HeldP.slice (h : HeldP w O c v l) : ∃ A p, v = .slice A l.length p := by
  rcases h.row.2 with ⟨e1, e2⟩ | ⟨g, p, cur, e1, _⟩
  · exact ⟨none, 0, by rw [e1, e2]⟩
  · exact ⟨_, p, e1⟩
theorem HeldP.more {o : Obj} {g n cap : Nat} {p : Pt} (h : HeldP w O c v l) (hn : l.length = n) (hr : w'.ownsRow 0 32 4 (.slice (some ⟨g, 0, none⟩) (n + 1) cap) (n + 1) (flatP l ++ [.int .i64 p.k, .int .i64 p.d, .int .i64 p.n, .int .u8 (p.b : Int)])) (hg : (w.alloc o).grownBy w' v.ownBlock) (hm : Moved (w.alloc o) v (.slice (some ⟨g, 0, none⟩) (n + 1) cap)) :
    Step [c] w O w' (Step.paint O w c) ∧ HeldP w' (Step.paint O w c) c (.slice (some ⟨g, 0, none⟩) (n + 1) cap) (l ++ [p]) := by
  have s1 : Step [c] w O w' (Step.paint O w c) := ((((Step.refl [c] w O).alloc o).grown hg (fun k hk => by
    left; simp; exact h.paint k hk))).repaint c
  refine ⟨s1, ⟨?_, fun k hk => ?_⟩⟩
  · rw [Pl.flatP_append, List.length_append, hn]
    exact hr
  · rcases hm with e1 | e1
    · rw [e1] at hk
      rw [Step.paint_old (h.lt hk)]; exact h.paint k hk
    · have := e1 k hk
      rw [World.size_alloc] at this
      exact Step.paint_new (by omega)
/-- The packets as they lie there. -/
theorem HeldP.pts (h : HeldP w O c v l) (hb : ∀ p ∈ l, p.b < 256) : ∃ a cap, v = .slice a l.length cap ∧ Pk.IsPts w a l := Pl.PtsT.slice h.row hb
end
/-- An append of one packet, in a region that draws its order. -/
theorem step_append_pt {P : Program} (w : World) {ops : Array Oper} {o : Oper} {a : Act} {K : Act → World → Prop} {Q : Exit → Act → World → Prop} {E : Prop} (hgd : o.guard = none) (s x : Operand) (t : TypeId)
    (ho : o.op = .call { callee := .builtin .append, args := #[s, x], argTypes := #[t, t] })
    (e : TypeId) (i : TypeInfo) (z : Value) (size bytes : Nat) (ht : P.underlying t = some (.slice e)) (hi : P.info? e = some i) (hz : i.zero = some z)
    (hsize : i.size = size) (hby : i.bytes = bytes) (hzs : z.cells.size = size) (hsz : 0 < size)
    (v : Value) (n : Nat) (xs : List Value) (hs : a.eval s = v) (hown : w.ownsRow 0 e size v n xs)
    (ad : Addr) (m c : Nat) (hm : 0 < m) (news : List Value) (hx : a.eval x = .slice (some ad) m c) (hl : news.length = m * size) (hnews : ∀ j u, news[j]? = some u → w.cell? (ad.add j) = some u) (h1 : ∀ u ∈ news, u.oneCell' = true)
    (h63 : n + m ≤ maxLen) (hbytes : (n + m) * bytes ≤ 140737488355328)
    (h : ∀ g cap w', w'.ownsRow 0 e size (.slice (some ⟨g, 0, none⟩) (n + m) cap) (n + m) (xs ++ news) → w.grownBy w' v.ownBlock → Moved w v (.slice (some ⟨g, 0, none⟩) (n + m) cap) → K (a.put o.dst (.slice (some ⟨g, 0, none⟩) (n + m) cap)) w') :
    if Region.wanted o (yielded ops a.tmps) = true then Oper.wp P o a w K Q else E := by
  have hw : Region.wanted o (yielded ops a.tmps) = true := by simp [Region.wanted, hgd]
  rw [if_pos hw]
  refine wp_append_sep w s x t ho e i z size bytes ht hi hz hsize hby hzs hsz v n xs hs hown ad m c news hx hl hnews h1 h63 hbytes ?_
  intro v' w' h2 h3 h4
  obtain ⟨g, cap, rfl⟩ := own_form h2 (by omega)
  exact h g cap w' h2 h3 h4
theorem qal {w W : World} {O : Paint} {cs : List Nat} (o : Obj) (h : ∃ O', Step cs w O W O') : ∃ O', Step cs w O (W.alloc o) O' := by
  obtain ⟨O', h⟩ := h
  exact ⟨O', h.alloc o⟩
theorem qgrow {w W W' : World} {O : Paint} {cs : List Nat} {row : Option Nat} (h : ∃ O', Step cs w O W O') (hg : W.grownBy W' row) (hr : ∀ k, row = some k → O k ∈ cs) : ∃ O', Step cs w O W' O' := by
  obtain ⟨O', h⟩ := h
  exact ⟨O', h.grown hg (fun k hk => .inl (hr k hk))⟩
theorem qbel {w W W' : World} {O : Paint} {cs : List Nat} (h : ∃ O', Step cs w O W O') (hb : Below W.heap.size W W') : ∃ O', Step cs w O W' O' := by
  obtain ⟨O', h⟩ := h
  exact ⟨O', h.trans (Step.of_below_same hb O').nil⟩
end Go.Proofs.Yteacmcckhjabmaa.Mo
