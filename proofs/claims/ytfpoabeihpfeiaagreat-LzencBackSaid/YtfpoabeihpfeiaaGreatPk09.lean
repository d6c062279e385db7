/-
  Package packet: the contract of Fits.
  Package packet: the contract of writeTo.
  Package packet: what Apply tells, and its objects in memory.
  Package packet: the contract of Apply.
  Lists of packets in memory: their cells; a slice that owns just these; a list that came in.
-/
import Derived.Test.YtfpoabeihpfeiaaGreatPk04
import Derived.Test.YtfpoabeihpfeiaaGreatPk05
import Derived.Test.YtfpoabeihpfeiaaGreatPk06
import Derived.Test.YtfpoabeihpfeiaaGreatPk07
import Derived.Test.YtfpoabeihpfeiaaGreatPk08
import Derived.Deep.RegionWith
import Derived.Deep.RegionHeld3
import Derived.Deep.DeepCutAuto
import Derived.Deep.CutBlock
set_option maxRecDepth 100000
set_option maxHeartbeats 16000000
set_option linter.unusedVariables false
set_option linter.unusedSimpArgs false
section
namespace Go.Proofs.YtfpoabeihpfeiaaGreat.Pk
open Go.RowKit
theorem plain_kind {p : Pt} (h : p.plain = true) : p.k = 1 \/ p.k = 2 \/ p.k = 3 \/ p.k = 4 := by
 unfold Pt.plain at h
 split at h
 · left; assumption
 · split at h
   · omega
   · split at h
     · omega
     · cases h
theorem fits_any (p : Pt) (hv : Int) (r : Rp) (w : World) :
  Calls Tryz.prog 25 #[p.val, .int .i64 hv, r.val] w fun x w' => x = .returned (fitVal r (p.fit hv r)) /\ Below w.heap.size w w' := by
 obtain ⟨k, d, n, b⟩ := p
 obtain ⟨r0, r1, r2, r3⟩ := r
 cases hpl : (⟨k, d, n, b⟩ : Pt).plain with
 | false =>
  rw [show (⟨k, d, n, b⟩ : Pt).fit hv ⟨r0, r1, r2, r3⟩ = none by unfold Pt.fit; rw [if_pos hpl]]
  exact fits_bad k d n b hv r0 r1 r2 r3 w hpl
 | true =>
  rcases plain_kind hpl with h | h | h | h
  · simp only at h
    subst h
    rw [show (⟨1, d, n, b⟩ : Pt).fit hv ⟨r0, r1, r2, r3⟩ = some (0, 1, ⟨r0, r1, r2, r3⟩) by unfold Pt.fit; rw [if_neg (by rw [hpl]; simp)]; rfl]
    exact fits_lit d n b hv r0 r1 r2 r3 w hpl
  · simp only at h
    subst h
    have e : (⟨2, d, n, b⟩ : Pt).fit hv ⟨r0, r1, r2, r3⟩ = if 1 <= d /\ d <= min hv 1048576 /\ lenB n = true then some (d, n, (⟨r0, r1, r2, r3⟩ : Rp).push d) else none := by unfold Pt.fit; rw [if_neg (by rw [hpl]; simp)]; rfl
    rw [e]
    by_cases c1 : 1 <= d
    · by_cases c2 : d <= min hv 1048576
      · cases c3 : lenB n with
        | false => rw [if_neg (by simp)]; exact fits_match_len d n b hv r0 r1 r2 r3 w hpl c1 (by omega) (by omega) c3
        | true => rw [if_pos ⟨c1, c2, rfl⟩]; exact fits_match d n b hv r0 r1 r2 r3 w hpl c1 (by omega) (by omega) c3
      · rw [if_neg (by omega)]; exact fits_match_far2 d n b hv r0 r1 r2 r3 w hpl c1 c2
    · rw [if_neg (by omega)]; exact fits_match_far1 d n b hv r0 r1 r2 r3 w hpl c1
  · simp only at h
    subst h
    have e : (⟨3, d, n, b⟩ : Pt).fit hv ⟨r0, r1, r2, r3⟩ = if (0 <= d /\ d < 4) /\ (⟨r0, r1, r2, r3⟩ : Rp).at d <= hv /\ lenB n = true then some ((⟨r0, r1, r2, r3⟩ : Rp).at d, n, (⟨r0, r1, r2, r3⟩ : Rp).front d) else none := by unfold Pt.fit; rw [if_neg (by rw [hpl]; simp)]; rfl
    rw [e]
    by_cases c1 : 0 <= d /\ d < 4
    · rcases (show d = 0 \/ d = 1 \/ d = 2 \/ d = 3 by omega) with rfl | rfl | rfl | rfl
      · by_cases c2 : r0 <= hv
        · cases c3 : lenB n with
          | false => rw [if_neg (by simp)]; exact fits_rep_len0 n b hv r0 r1 r2 r3 w hpl c2 c3
          | true => rw [if_pos ⟨c1, c2, rfl⟩]; exact fits_rep0 n b hv r0 r1 r2 r3 w hpl c2 c3
        · rw [if_neg (fun h => c2 h.2.1)]; exact fits_rep_far0 n b hv r0 r1 r2 r3 w hpl c2
      · by_cases c2 : r1 <= hv
        · cases c3 : lenB n with
          | false => rw [if_neg (by simp)]; exact fits_rep_len1 n b hv r0 r1 r2 r3 w hpl c2 c3
          | true => rw [if_pos ⟨c1, c2, rfl⟩]; exact fits_rep1 n b hv r0 r1 r2 r3 w hpl c2 c3
        · rw [if_neg (fun h => c2 h.2.1)]; exact fits_rep_far1 n b hv r0 r1 r2 r3 w hpl c2
      · by_cases c2 : r2 <= hv
        · cases c3 : lenB n with
          | false => rw [if_neg (by simp)]; exact fits_rep_len2 n b hv r0 r1 r2 r3 w hpl c2 c3
          | true => rw [if_pos ⟨c1, c2, rfl⟩]; exact fits_rep2 n b hv r0 r1 r2 r3 w hpl c2 c3
        · rw [if_neg (fun h => c2 h.2.1)]; exact fits_rep_far2 n b hv r0 r1 r2 r3 w hpl c2
      · by_cases c2 : r3 <= hv
        · cases c3 : lenB n with
          | false => rw [if_neg (by simp)]; exact fits_rep_len3 n b hv r0 r1 r2 r3 w hpl c2 c3
          | true => rw [if_pos ⟨c1, c2, rfl⟩]; exact fits_rep3 n b hv r0 r1 r2 r3 w hpl c2 c3
        · rw [if_neg (fun h => c2 h.2.1)]; exact fits_rep_far3 n b hv r0 r1 r2 r3 w hpl c2
    · rw [if_neg (fun h => c1 h.1)]; exact fits_rep_out d n b hv r0 r1 r2 r3 w hpl c1
  · simp only at h
    subst h
    have e : (⟨4, d, n, b⟩ : Pt).fit hv ⟨r0, r1, r2, r3⟩ = if r0 <= hv then some (r0, 1, ⟨r0, r1, r2, r3⟩) else none := by unfold Pt.fit; rw [if_neg (by rw [hpl]; simp)]; rfl
    rw [e]
    by_cases c1 : r0 <= hv
    · rw [if_pos c1]; exact fits_short d n b hv r0 r1 r2 r3 w hpl c1
    · rw [if_neg c1]; exact fits_short_far d n b hv r0 r1 r2 r3 w hpl c1
end Go.Proofs.YtfpoabeihpfeiaaGreat.Pk
end
section
namespace Go.Proofs.YtfpoabeihpfeiaaGreat.Pk
open Go.RowKit
open Wnd (Win Grew Owns copied)
def Pt.tell (p : Pt) (most : Nat) (l : List UInt8) (d n : Int) : Option (List UInt8) :=
 if p.k = 1 then (if l.length < most then some (l ++ [UInt8.ofNat p.b]) else none)
 else if l.length + n.toNat <= most then some (copied l d.toNat n.toNat) else none
def tellVal : Option (List UInt8) -> Bool
 | none => false
 | some _ => true
end Go.Proofs.YtfpoabeihpfeiaaGreat.Pk
end
section
namespace Go.Proofs.YtfpoabeihpfeiaaGreat.Pk
open Go.RowKit
open Wnd (Win Grew Owns copied)
def applyL (most : Nat) : List Pt -> List UInt8 -> Rp -> List UInt8 × Nat
 | [], l, _ => (l, 0)
 | p :: ps, l, r => match p.fit (l.length : Int) r with
  | none => ([], 6)
  | some (d, n, s) => match p.tell most l d n with
   | none => ([], 11)
   | some l' => applyL most ps l' s
def Rp.pos (r : Rp) : Prop := 1 <= r.a /\ 1 <= r.b /\ 1 <= r.c /\ 1 <= r.d
theorem fit_some {p : Pt} {hv d n : Int} {r s : Rp} (h : p.fit hv r = some (d, n, s)) (hr : r.pos) : s.pos /\ (p.k = 1 /\ n = 1 \/ p.k ≠ 1 /\ 1 <= d /\ d <= hv /\ 1 <= n /\ n <= 273) := by
 unfold Rp.pos at *
 unfold Pt.fit at h
 split at h
 · cases h
 · split at h
   · simp only [Option.some.injEq, Prod.mk.injEq] at h
     obtain ⟨rfl, rfl, rfl⟩ := h
     exact ⟨hr, .inl ⟨by assumption, rfl⟩⟩
   · split at h
     · split at h
       · rename_i hc
         simp only [Option.some.injEq, Prod.mk.injEq] at h
         obtain ⟨rfl, rfl, rfl⟩ := h
         obtain ⟨c1, c2, c3⟩ := hc
         unfold lenB at c3
         simp at c3
         exact ⟨⟨c1, hr.1, hr.2.1, hr.2.2.1⟩, .inr ⟨by assumption, c1, by omega, by omega, by omega⟩⟩
       · cases h
     · split at h
       · split at h
         · rename_i hc
           simp only [Option.some.injEq, Prod.mk.injEq] at h
           obtain ⟨rfl, rfl, rfl⟩ := h
           obtain ⟨c1, c2, c3⟩ := hc
           unfold lenB at c3
           simp at c3
           have ha : 1 <= r.at p.d := by unfold Rp.at; (repeat' split) <;> omega
           refine ⟨?_, .inr ⟨by assumption, ha, c2, by omega, by omega⟩⟩
           unfold Rp.front
           split
           · exact ⟨hr.2.1, hr.1, hr.2.2.1, hr.2.2.2⟩
           · split
             · exact ⟨hr.2.2.1, hr.1, hr.2.1, hr.2.2.2⟩
             · split
               · exact ⟨hr.2.2.2, hr.1, hr.2.1, hr.2.2.1⟩
               · exact hr
         · cases h
       · split at h
         · simp only [Option.some.injEq, Prod.mk.injEq] at h
           obtain ⟨rfl, rfl, rfl⟩ := h
           exact ⟨hr, .inr ⟨by assumption, hr.1, by assumption, by omega, by omega⟩⟩
         · cases h
theorem tell_len {p : Pt} {most : Nat} {l l' : List UInt8} {d n : Int} (h : p.tell most l d n = some l') (hn : p.k = 1 \/ 0 <= n /\ n <= 273) : l'.length <= most /\ l'.length <= l.length + 273 := by
 unfold Pt.tell at h
 split at h
 · split at h
   · cases h; simp; omega
   · cases h
 · split at h
   · cases h; rw [Wnd.copied_length]; omega
   · cases h
structure ApLock (W w : World) (B R most : Nat) (v : Value) (l : List UInt8) (r : Rp) : Prop where
 below : Below W.heap.size W w
 win : Win w B v most l
 hB : W.heap.size <= B
 hR : W.heap.size <= R
 ne : R ≠ B
 own : ∀ k, v.ownBlock = some k -> W.heap.size <= k /\ k ≠ R
 reps : w.heap[R]? = some (.cells #[.int .i64 r.a, .int .i64 r.b, .int .i64 r.c, .int .i64 r.d] 70 (0, 0))
 len : l.length <= most
 pos : r.pos
theorem ApLock.news {W w w' : World} {B R most : Nat} {v : Value} {l : List UInt8} {r : Rp} (h : ApLock W w B R most v l r) (hb : Below w.heap.size w w') : ApLock W w' B R most v l r :=
 ⟨h.below.trans (hb.mono h.below.size), h.win.frame (own := fun _ => False) (Frame.of_below_size hb) (fun _ _ => id), h.hB, h.hR, h.ne, h.own, (hb.block R (lt_of_heap h.reps)).trans h.reps, h.len, h.pos⟩
theorem ApLock.grew {W w w' : World} {B R most : Nat} {v : Value} {l l' : List UInt8} {r : Rp} (h : ApLock W w B R most v l r) (hg : Grew w B most v l' w') (hl : l'.length <= most) : ∃ v', ApLock W w' B R most v' l' r := by
 obtain ⟨v', hw, hF, hM⟩ := hg
 have hno : ¬ Owns B v R := by
  rintro (e | e)
  · exact h.ne e
  · exact (h.own R e).2 rfl
 refine ⟨v', h.below.trans (hF.below h.below.size fun k hk ho => ?_), hw, h.hB, h.hR, h.ne, fun k hk => ?_, (hF.block R (lt_of_heap h.reps) hno).trans h.reps, hl, h.pos⟩
 · rcases ho with ho | ho
   · have := h.hB; omega
   · have := (h.own k ho).1; omega
 · rcases hM with hM | hM
   · rw [hM] at hk; exact h.own k hk
   · have h1 := hM k hk
     have h2 := h.below.size
     have h3 := lt_of_heap h.reps
     exact ⟨by omega, by omega⟩
theorem set_heap {w : World} {X : Nat} {cs : Array Value} {t : TypeId} (h : w.heap[X]? = some (.cells cs t (0, 0))) (j : Nat) (v : Value) : (w.setCell ⟨X, j, none⟩ v).heap[X]? = some (.cells (cs.setIfInBounds j v) t (0, 0)) := by
 simp [World.setCell, Array.getElem?_modify, h]
theorem four_heap {w : World} {X : Nat} {z0 z1 z2 z3 : Value} {t : TypeId} (h : w.heap[X]? = some (.cells #[z0, z1, z2, z3] t (0, 0))) (a b c d : Value) :
  ((((w.setCell ⟨X, 0, none⟩ a).setCell ⟨X, 1, none⟩ b).setCell ⟨X, 2, none⟩ c).setCell ⟨X, 3, none⟩ d).heap[X]? = some (.cells #[a, b, c, d] t (0, 0)) :=
 set_heap (set_heap (set_heap (set_heap h 0 a) 1 b) 2 c) 3 d
theorem four_frame (w : World) (X : Nat) (a b c d : Value) : Frame (fun k => k = X) w ((((w.setCell ⟨X, 0, none⟩ a).setCell ⟨X, 1, none⟩ b).setCell ⟨X, 2, none⟩ c).setCell ⟨X, 3, none⟩ d) :=
 ((((Frame.refl (fun k => k = X) w).setCell (p := ⟨X, 0, none⟩) (.inl rfl) a).setCell (p := ⟨X, 1, none⟩) (.inl rfl) b).setCell (p := ⟨X, 2, none⟩) (.inl rfl) c).setCell (p := ⟨X, 3, none⟩) (.inl rfl) d
theorem ApLock.store {W w : World} {B R most : Nat} {v : Value} {l : List UInt8} {r : Rp} (h : ApLock W w B R most v l r) {s : Rp} (hs : s.pos) :
  ApLock W ((((w.setCell ⟨R, 0, none⟩ (.int .i64 s.a)).setCell ⟨R, 1, none⟩ (.int .i64 s.b)).setCell ⟨R, 2, none⟩ (.int .i64 s.c)).setCell ⟨R, 3, none⟩ (.int .i64 s.d)) B R most v l s := by
 have hF := four_frame w R (.int .i64 s.a) (.int .i64 s.b) (.int .i64 s.c) (.int .i64 s.d)
 refine ⟨h.below.trans (hF.below h.below.size fun k hk ho => ?_), h.win.frame hF (fun k hk ho => ?_), h.hB, h.hR, h.ne, h.own, four_heap h.reps _ _ _ _, h.len, hs⟩
 · have := h.hR; omega
 · subst ho
   rcases hk with e | e
   · exact h.ne e
   · exact (h.own k e).2 rfl
def IsPt (w : World) (b o : Nat) (p : Pt) : Prop :=
 w.cell? ⟨b, o, none⟩ = some (.int .i64 p.k) /\ w.cell? ⟨b, o + 1, none⟩ = some (.int .i64 p.d) /\ w.cell? ⟨b, o + 2, none⟩ = some (.int .i64 p.n) /\ w.cell? ⟨b, o + 3, none⟩ = some (.int .u8 p.b) /\ p.b < 256
theorem IsPt.below {w w' : World} {b o : Nat} {p : Pt} (h : IsPt w b o p) (hb : Below w.heap.size w w') : IsPt w' b o p := by
 have hbl := World.block_lt_of_cell? _ _ h.1
 exact ⟨(hb.cell (p := ⟨b, o, none⟩) hbl).trans h.1, (hb.cell (p := ⟨b, o + 1, none⟩) hbl).trans h.2.1, (hb.cell (p := ⟨b, o + 2, none⟩) hbl).trans h.2.2.1, (hb.cell (p := ⟨b, o + 3, none⟩) hbl).trans h.2.2.2.1, h.2.2.2.2⟩
def Fitted (W w : World) (X : Nat) (s : Rp) : Prop := Below W.heap.size W w /\ W.heap.size <= X /\ w.heap[X]? = some (.cells #[.int .i64 s.a, .int .i64 s.b, .int .i64 s.c, .int .i64 s.d] 70 (0, 0))
theorem fitted_new {W w : World} (h : Below W.heap.size W w) (s : Rp) : Fitted W (w.alloc (.cells #[.int .i64 s.a, .int .i64 s.b, .int .i64 s.c, .int .i64 s.d] 70 (0, 0))) w.heap.size s :=
 ⟨h.alloc h.size _, h.size, heap_alloc_new _ _⟩
theorem fitted_set {W w : World} {X : Nat} {z0 z1 z2 z3 : Value} (h : Below W.heap.size W w) (hX : W.heap.size <= X) (hz : w.heap[X]? = some (.cells #[z0, z1, z2, z3] 70 (0, 0))) (s : Rp) :
  Fitted W ((((w.setCell ⟨X, 0, none⟩ (.int .i64 s.a)).setCell ⟨X, 1, none⟩ (.int .i64 s.b)).setCell ⟨X, 2, none⟩ (.int .i64 s.c)).setCell ⟨X, 3, none⟩ (.int .i64 s.d)) X s :=
 ⟨below_four h hX _ _ _ _, hX, four_heap hz _ _ _ _⟩
theorem bel_drew {B : Nat} {W0 W : World} (h : Below B W0 W) : Below B W0 W.drew := ⟨h.os, h.tape, h.output, h.size, h.block⟩
theorem bel_alloc {W0 W : World} (o : Obj) (h : Below W0.heap.size W0 W) : Below W0.heap.size W0 (W.alloc o) := h.alloc h.size o
theorem bel_new {W0 W W' : World} (h2 : Below W.heap.size W W') (h : Below W0.heap.size W0 W) : Below W0.heap.size W0 W' := h.trans (h2.mono h.size)
theorem bel_set {W0 W : World} {p : Addr} (u : Value) (hp : W0.heap.size <= p.block) (h : Below W0.heap.size W0 W) : Below W0.heap.size W0 (W.setCell p u) := h.setCell hp u
theorem alloc_kept {W w' : World} {o : Obj} (h : Below (W.alloc o).heap.size (W.alloc o) w') : w'.heap[W.heap.size]? = some o :=
 (h.block W.heap.size (by simp)).trans (heap_alloc_new W o)
end Go.Proofs.YtfpoabeihpfeiaaGreat.Pk
end
section
namespace Go.Proofs.YtfpoabeihpfeiaaGreat.Pk
open Go.RowKit
open Wnd (Win Grew Owns copied)
theorem fit_form (p : Pt) (hv : Int) (r : Rp) : ∃ d n s, fitVal r (p.fit hv r) = .tuple #[.int .i64 d, .int .i64 n, .agg #[.int .i64 s.a, .int .i64 s.b, .int .i64 s.c, .int .i64 s.d], .bool (p.fit hv r).isSome] /\ ∀ x, p.fit hv r = some x -> x = (d, n, s) := by
 cases h : p.fit hv r with
 | none => exact ⟨0, 0, r, rfl, fun x hx => by cases hx⟩
 | some x =>
  obtain ⟨d, n, s⟩ := x
  exact ⟨d, n, s, rfl, fun y hy => by cases hy; rfl⟩
theorem applyL_none {most : Nat} {p : Pt} {ps : List Pt} {l : List UInt8} {r : Rp} (h : p.fit (l.length : Int) r = none) : applyL most (p :: ps) l r = ([], 6) := by unfold applyL; rw [h]
theorem applyL_long {most : Nat} {p : Pt} {ps : List Pt} {l : List UInt8} {r : Rp} {d n : Int} {s : Rp} (h : p.fit (l.length : Int) r = some (d, n, s)) (ht : p.tell most l d n = none) : applyL most (p :: ps) l r = ([], 11) := by unfold applyL; rw [h]; simp only [ht]
theorem applyL_more {most : Nat} {p : Pt} {ps : List Pt} {l l' : List UInt8} {r : Rp} {d n : Int} {s : Rp} (h : p.fit (l.length : Int) r = some (d, n, s)) (ht : p.tell most l d n = some l') : applyL most (p :: ps) l r = applyL most ps l' s := by rw [applyL, h]; simp only [ht]
def ApAt (W : World) (B R most : Nat) (ps : List Pt) (k : Nat) (w : World) : Prop :=
 ∃ v l r, ApLock W w B R most v l r /\ l.length <= k * 273 /\ applyL most (ps.drop k) l r = applyL most ps [] ⟨1, 1, 1, 1⟩
theorem alloc_kept2 {W w' : World} {o : Obj} (h : Below (W.alloc o).drew.heap.size (W.alloc o).drew w') : w'.heap[W.heap.size]? = some o :=
 (h.block W.heap.size (by simp)).trans (heap_alloc_new W o)
def IsPts (w : World) (a : Option Addr) (ps : List Pt) : Prop :=
 ps = [] \/ ∃ b off, a = some ⟨b, off, none⟩ /\ ∀ i (h : i < ps.length), IsPt w b (off + i * 4) ps[i]
theorem IsPts.below {w w' : World} {a : Option Addr} {ps : List Pt} (h : IsPts w a ps) (hb : Below w.heap.size w w') : IsPts w' a ps := by
 rcases h with h | ⟨b, off, e, h⟩
 · exact .inl h
 · exact .inr ⟨b, off, e, fun i hi => (h i hi).below hb⟩
end Go.Proofs.YtfpoabeihpfeiaaGreat.Pk
end
section
namespace Go.Proofs.YtfpoabeihpfeiaaGreat.Pl
open Go.RowKit
open Pk (Pt IsPt IsPts)
def flatP (l : List Pt) : List Value := l.flatMap fun p => [.int .i64 p.k, .int .i64 p.d, .int .i64 p.n, .int .u8 p.b]
theorem flatP_length : ∀ l, (flatP l).length = l.length * 4
 | [] => rfl
 | x :: l => by have := flatP_length l; simp only [flatP, List.flatMap_cons, List.length_append, List.length_cons, List.length_nil] at this ⊢; omega
theorem flatP_append (l k : List Pt) : flatP (l ++ k) = flatP l ++ flatP k := by simp [flatP]
theorem flatP_at : ∀ (l : List Pt) (i : Nat) (h : i < l.length), (flatP l)[i * 4]? = some (.int .i64 l[i].k) /\ (flatP l)[i * 4 + 1]? = some (.int .i64 l[i].d) /\ (flatP l)[i * 4 + 2]? = some (.int .i64 l[i].n) /\ (flatP l)[i * 4 + 3]? = some (.int .u8 (l[i].b : Int))
 | [], i, h => by simp at h
 | x :: l, 0, _ => ⟨rfl, rfl, rfl, rfl⟩
 | x :: l, i + 1, h => by
  have := flatP_at l i (by simpa using h)
  rw [show (i + 1) * 4 = i * 4 + 1 + 1 + 1 + 1 from by omega]
  exact this
def PtsT (t : TypeId) (w : World) (v : Value) (l : List Pt) : Prop := w.ownsRow 0 t 4 v l.length (flatP l)
theorem PtsT.slice {t : TypeId} {w : World} {v : Value} {l : List Pt} (h : PtsT t w v l) (hb : ∀ p ∈ l, p.b < 256) : ∃ a cap, v = .slice a l.length cap /\ IsPts w a l := by
 rcases h.2 with ⟨h1, h2⟩ | ⟨g, cap, cur, rfl, _, hg, hnc, hcm, hcs, htake⟩
 · exact ⟨none, 0, by rw [h1, h2], .inl (List.eq_nil_of_length_eq_zero h2)⟩
 · refine ⟨_, cap, rfl, .inr ⟨g, 0, rfl, fun i hi => ?_⟩⟩
   obtain ⟨k0, k1, k2, k3⟩ := flatP_at l i hi
   have key : ∀ j x, (flatP l)[j]? = some x -> w.cell? ⟨g, j, none⟩ = some x := fun j x hx => by
    have hj : j < (flatP l).length := (List.getElem?_eq_some_iff.1 hx).1
    rw [flatP_length] at hj
    rw [World.ownsRow.cellAt h j hj]
    exact hx
   rw [Nat.zero_add]
   exact ⟨key _ _ k0, key _ _ k1, key _ _ k2, key _ _ k3, hb _ (List.getElem_mem hi)⟩
theorem pt_news {w : World} {X : Nat} {a b c d : Value} {t : TypeId} (h : w.heap[X]? = some (.cells #[a, b, c, d] t (0, 0))) : ∀ j u, [a, b, c, d][j]? = some u -> w.cell? ((⟨X, 0, none⟩ : Addr).add j) = some u := World.news_of_block h
theorem pt_one (a b c : Int) (d : Nat) : ∀ u ∈ [Value.int .i64 a, .int .i64 b, .int .i64 c, .int .u8 d], u.oneCell' = true := by
 intro u hu
 simp at hu
 rcases hu with rfl | rfl | rfl | rfl <;> rfl
theorem infoPk : (Tryz.prog.info? 37).map (fun i => (i.zero, i.size, i.bytes)) = some (some (.agg #[.int .i64 0, .int .i64 0, .int .i64 0, .int .u8 0]), 4, 32) := by kernel_rfl
theorem pts_of {w : World} {b off len : Nat} (key : ∀ i, i < len -> ∃ p, IsPt w b (off + i * 4) p) (n : Nat) (hn : n <= len) : ∃ ps : List Pt, ps.length = n /\ IsPts w (some ⟨b, off, none⟩) ps := by
 refine ⟨List.ofFn (fun i : Fin n => Classical.choose (key i.1 (by omega))), by simp, .inr ⟨b, off, rfl, fun i hi => ?_⟩⟩
 rw [List.getElem_ofFn]
 exact Classical.choose_spec (key i (by simp at hi; omega))
end Go.Proofs.YtfpoabeihpfeiaaGreat.Pl
end
