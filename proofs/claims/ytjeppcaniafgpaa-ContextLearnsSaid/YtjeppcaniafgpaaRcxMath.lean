/-
  The reference of layer 18, mathematics: what is learnt, as the document says it: what a sign needs, the tables that are set, the text behind it.
-/
import Derived.Test.YtjeppcaniafgpaaRcxLongest
set_option linter.unusedVariables false
set_option linter.unusedSimpArgs false
namespace Go.Proofs.Ytjeppcaniafgpaa.Rx
open Go.RowKit Go.Maps
open Fq
open Rc
open Cx (Tl TOk tok_nil tok_add tok_len)
namespace Rd
/-- What the table of the last k bytes needs. -/
def need1 (q : Rd) (s k : Nat) : Nat := match q.at' k with
  | none => 2
  | some l => if hasB l s then 0 else 1
def needs (q : Rd) (s a : Nat) : Nat → Nat
  | 0 => 0
  | n + 1 => q.needs s a n + q.need1 s (a + n)
/-- How many tables there are to be, from a on. -/
def room (q : Rd) (a : Nat) : Nat := min q.order q.hist.length + 1 - a
def forget (q : Rd) : Rd := ⟨q.order, q.cells, q.rs + 1, fun _ => none, [], 0, 0⟩
def put (q : Rd) (t : List UInt8) (l : Tl) : Rd := ⟨q.order, q.cells, q.rs, setT q.T t l, q.hist, q.sum + (1 + l.length) - wtT (q.T t), q.n + 1⟩
def addAt (q : Rd) (s k : Nat) : Rd := q.put (lastK q.hist k) (addT ((q.at' k).getD []) s)
def addN (q : Rd) (s a : Nat) : Nat → Rd
  | 0 => q
  | n + 1 => (q.addN s a n).addAt s (a + n)
def wr (q : Rd) (s : Nat) : Rd := ⟨q.order, q.cells, q.rs, q.T, q.hist ++ [UInt8.ofNat s], q.sum, q.n⟩
def learn1 (q : Rd) (s a : Nat) : Rd := (q.addN s a (q.room a)).wr s
def full (q : Rd) (s a : Nat) : Bool := decide (q.cells < q.sum + q.needs s a (q.room a))
def learn (q : Rd) (s : Nat) (f : Int) : Rd := if q.full s (max f 0).toNat then q.forget.learn1 s 0 else q.learn1 s (max f 0).toNat
variable {q : Rd}
theorem addN_parts (q : Rd) (s a : Nat) : ∀ n, (q.addN s a n).order = q.order ∧ (q.addN s a n).cells = q.cells ∧ (q.addN s a n).rs = q.rs ∧ (q.addN s a n).hist = q.hist ∧ (q.addN s a n).n = q.n + n
  | 0 => ⟨rfl, rfl, rfl, rfl, rfl⟩
  | n + 1 => by
    obtain ⟨h1, h2, h3, h4, h5⟩ := addN_parts q s a n
    exact ⟨h1, h2, h3, h4, by show (q.addN s a n).n + 1 = _; omega⟩
theorem need1_le (q : Rd) (s k : Nat) : q.need1 s k ≤ 2 := by
  unfold need1
  split
  · omega
  · split <;> omega
theorem needs_le (q : Rd) (s a : Nat) : ∀ n, q.needs s a n ≤ 2 * n
  | 0 => Nat.le_refl _
  | n + 1 => by
    have h1 := needs_le q s a n
    have h2 := need1_le q s (a + n)
    show q.needs s a n + q.need1 s (a + n) ≤ _
    omega
end Rd
section
variable {cs : List Nat} {w w' : World} {O O' : Paint} {c d mb : Nat} {D : Dv} {q : Rd} {v1 v2 : Value} {t : Option Tl}
theorem has_place (l : Tl) (s : Nat) : (hasB l s = true ∧ 0 ≤ placeI l s) ∨ (hasB l s = false ∧ placeI l s = -1) := by
  unfold hasB placeI
  by_cases h : find l s < l.length
  · left
    rw [if_pos h]
    exact ⟨decide_eq_true h, by omega⟩
  · right
    rw [if_neg h]
    exact ⟨decide_eq_false h, rfl⟩
theorem at_dw (h : RowsC w O c v1 v2 t) (s : Nat) (hs : s < 256) : Calls Try.prog 60 #[.agg #[v1, v2], .int .u8 (s : Int)] w fun x w' => x = .returned (.int .i64 (placeI (t.getD []) s)) ∧ Below w.heap.size w w' := by
  by_cases hn : t.getD [] = []
  · obtain ⟨rfl, rfl⟩ := h.nil0 hn
    rw [hn]
    exact at_none s
  · exact at_more h.ref.ref (fun x hx => by have := h.ok.1 x hx; omega) (List.length_pos_iff.2 hn) s hs
theorem add_dw (h : RowsC w O c v1 v2 t) (s : Nat) (hs : s < 256) : Calls Try.prog 61 #[.agg #[v1, v2], .int .u8 (s : Int)] w fun x w' => ∃ u1 u2 O', x = .returned (.agg #[u1, u2]) ∧ RefC w' O' c u1 u2 (addT (t.getD []) s) ∧ Step [] w O w' O' := by
  refine (radd_any h.ref.ref h.nil0 h.ok.1 (by have := tok_len h.ok; omega) s hs).mono ?_
  rintro x w' ⟨u1, u2, rfl, hr, hb, k1, k2⟩
  exact ⟨u1, u2, Step.paint O w c, rfl, ⟨hr, fun k hk => Step.paint_new (k1 k hk), fun k hk => Step.paint_new (k2 k hk)⟩, Step.of_below hb O c⟩
/-- What a call leaves of contexts. -/
def DwTo (w : World) (O : Paint) (c d : Nat) (q : Rd) (w' : World) : Prop := ∃ O' mb' D', Step [c] w O w' O' ∧ RdAt w' O' c d mb' D' q
theorem RdAt.put (h : RdAt w O c d mb D q) (hN : q.n ≤ 100000000) {s : ByteArray} (hs : s.size ≤ 1000000) {l : Tl} (hr : RefC w O c v1 v2 l) (hl : TOk l) (h0 : l ≠ []) :
    ∃ w' D', (Instr.mapUpdate 46 (.map (some mb)) (.string s) (.agg #[v1, v2])).run Try.prog w = .ok () w' ∧ Step [c] w O w' O ∧ RdAt w' O c d mb D' (q.put s.data.toList l) := by
  obtain ⟨w', D', hrun, hst, hm, hsu⟩ := h.map.set hN hs hr hl h0
  refine ⟨w', D', hrun, hst, ⟨?_, hm, ?_⟩⟩
  · have hne : d ≠ mb := by
      rintro rfl
      obtain ⟨es, clock, hb, _⟩ := h.map.own
      rw [h.obj.1] at hb
      cases hb
    have hg : w.grownBy w' (some mb) := by
      obtain ⟨w'', hrun', _, hg⟩ := h.map.own.update keyS Try.underlying46 (by unfold maxLen; omega) (key_of hs) (val := .agg #[v1, v2]) (d := .held (.agg #[v1, v2])) (ps := []) rfl
      rw [hrun] at hrun'
      cases hrun'
      exact hg
    exact ⟨(hg.block d h.obj.lt (by simpa using hne)).trans h.obj.1, h.obj.2⟩
  · rw [h.sum] at hsu
    show sumD D' = q.sum + (1 + l.length) - wtT (q.T s.data.toList)
    omega
end
end Go.Proofs.Ytjeppcaniafgpaa.Rx
