/-
  Layer 10's statements: params that may be, of three numbers; a list of packets that is kept; two models side by side.
  Layer 10's statements: what is put is got, packet by packet, and the end (mathematics); two models and a coder through Put, PutEnd and Get.
  Layer 10's statements: their first lines (speaks) return true.
-/
import Derived.Test.YtfpoabeihpfeiaaGreatPk03
import Derived.Test.YtfpoabeihpfeiaaGreatPk09
import Derived.Test.YtfpoabeihpfeiaaGreatPk10
import Derived.Test.YtfpoabeihpfeiaaGreatPk31
import Derived.Deep.CutBlock
import Derived.Deep.DeepCutAuto
import Derived.Deep.QuietTactic
import Derived.BigQuiet
import Derived.Deep.RegionHeld3
set_option maxRecDepth 100000
set_option maxHeartbeats 16000000
set_option linter.unusedVariables false
set_option linter.unusedSimpArgs false
section
namespace Go.Proofs.YtfpoabeihpfeiaaGreat.Mo
open Go.RowKit
open Rc
open Pk (Rp Pt four)
open Pl (flatP)
theorem tri {w : World} {X : Nat} {a b c : Value} {t : TypeId} (h : w.heap[X]? = some (.cells #[a, b, c] t (0, 0))) :
  w.cell? ⟨X, 0, none⟩ = some a /\ w.cell? ⟨X, 1, none⟩ = some b /\ w.cell? ⟨X, 2, none⟩ = some c :=
 ⟨by simp [World.cell?, h], by simp [World.cell?, h], by simp [World.cell?, h]⟩
-- PAR
theorem mod5 (x : Nat) : Int.tmod (x : Int) 5 = ((x % 5 : Nat) : Int) := by
 rw [Int.tmod_eq_emod_of_nonneg (by omega)]; omega
theorem modL (x y : Nat) (h : x < 5) : Int.tmod (y : Int) (5 - (x : Int)) = ((y % (5 - x) : Nat) : Int) := by
 rw [show (5 : Int) - (x : Int) = ((5 - x : Nat) : Int) by omega]
 rw [Int.tmod_eq_emod_of_nonneg (by omega)]
 exact (Int.natCast_emod y (5 - x)).symm
def parL (x0 : Nat) : Nat := x0 % 5
def parP (x0 x1 : Nat) : Nat := x1 % (5 - x0 % 5)
theorem par_sum (x0 x1 : Nat) : parL x0 + parP x0 x1 <= 4 := by
 unfold parL parP
 have h1 : x0 % 5 < 5 := Nat.mod_lt _ (by omega)
 have h2 : x1 % (5 - x0 % 5) < 5 - x0 % 5 := Nat.mod_lt _ (by omega)
 omega
structure TwoM (w0 : World) (i j : Mid) (m : Ms) (Q : Qs) (n : Ms) (R : Qs) (w : World) (O : Paint) : Prop where
 run : Run w0 w O
 one : Whole w O i m Q
 two : Whole w O j n R
 col : (i.cw = 1 /\ i.cm = 2 /\ j.cw = 3 /\ j.cm = 4) \/ (i.cw = 3 /\ i.cm = 4 /\ j.cw = 1 /\ j.cm = 2)
section
variable {cs : List Nat} {w0 w w' : World} {O O' : Paint} {i j : Mid} {m n m' n' : Ms} {Q R Q' R' : Qs}
theorem TwoM.step (h : TwoM w0 i j m Q n R w O) (hs : Step cs w O w' O') (h0 : 0 ∉ cs) (h1 : 1 ∉ cs) (h2 : 2 ∉ cs) (h3 : 3 ∉ cs) (h4 : 4 ∉ cs) : TwoM w0 i j m Q n R w' O' := by
 refine ⟨h.run.step hs h0, h.one.step hs ?_ ?_, h.two.step hs ?_ ?_, h.col⟩ <;> rcases h.col with ⟨e1, e2, e3, e4⟩ | ⟨e1, e2, e3, e4⟩ <;> first | (rw [e1]; assumption) | (rw [e2]; assumption) | (rw [e3]; assumption) | (rw [e4]; assumption)
theorem TwoM.idle (h : TwoM w0 i j m Q n R w O) (hs : Step [] w O w' O') : TwoM w0 i j m Q n R w' O' := h.step hs (by simp) (by simp) (by simp) (by simp) (by simp)
theorem TwoM.off (h : TwoM w0 i j m Q n R w O) {c : Nat} (hc : 4 < c) : i.cw ≠ c /\ c ≠ i.cm /\ j.cw ≠ c /\ c ≠ j.cm := by have := h.col; omega
theorem TwoM.put {c : Nat} (h : TwoM w0 i j m Q n R w O) (hc : 4 < c) (hs : Step [c, i.cw, i.cm] w O w' O') (hw : Whole w' O' i m' Q') : TwoM w0 i j m' Q' n R w' O' := by
 have hcol := h.col
 exact ⟨h.run.step hs (by simp; omega), hw, h.two.step hs (by simp; omega) (by simp; omega), hcol⟩
theorem TwoM.get {c : Nat} (h : TwoM w0 i j m Q n R w O) (hc : 4 < c) (hs : Step [c, j.cw, j.cm] w O w' O') (hw : Whole w' O' j n' R') : TwoM w0 i j m Q n' R' w' O' := by
 have hcol := h.col
 exact ⟨h.run.step hs (by simp; omega), h.one.step hs (by simp; omega) (by simp; omega), hw, hcol⟩
end
def mNew (lc lp pb : Nat) : Ms := ⟨lc, lp, pb, 0, [], ⟨1, 1, 1, 1⟩⟩
def qNew : Qs := fun _ _ _ => 1024
theorem start_ok (lc lp pb : Nat) : (⟨mNew lc lp pb, ⟨Enc.start, qNew⟩⟩ : Pr).s.Ok := ⟨fine_start, fun _ _ _ => by show 31 <= 1024 /\ 1024 <= 2017; omega⟩
end Go.Proofs.YtfpoabeihpfeiaaGreat.Mo
end
section
namespace Go.Proofs.YtfpoabeihpfeiaaGreat.Mo
open Go.RowKit
open Rc
open Pk (Rp Pt four)
open Pl (flatP)
noncomputable def dsN (most : Int) (x : Pr) (l : List Pt) (d : Ds) : Nat -> Ds
 | 0 => d
 | k + 1 => (dsN most x l d k).code (runs most x (l.take k)).m
theorem fol_runs {most : Int} {x : Pr} {l : List Pt} {d : Ds} {F T : Nat} {more : List UInt8} (h : x.s.Ok) (hl : FitAll most x l) (ha : Ahead (runs most x l).s.e F T) (h0 : Fol d x.s F T more) : ∀ k, k <= l.length -> Fol (dsN most x l d k) (runs most x (l.take k)).s F T more
 | 0, _ => by simpa [runs, dsN] using h0
 | k + 1, hk => by
  have ih := fol_runs h hl ha h0 k (by omega)
  have hlk : l[k]? = some l[k] := List.getElem?_eq_getElem (by omega)
  obtain ⟨hb, y, hy⟩ := fitAll_at hl hlk
  have ha2 := ahead_runs (k + 1) h ha
  rw [runs_take hlk] at ha2 ⊢
  exact (fol_put (runs_ok h) hb hy ha2 ih).2
structure LockE (w0 : World) (i j : Mid) (E : Nat) (x : Pr) (n : Ms) (R : Qs) (w : World) (O : Paint) : Prop where
 two : TwoM w0 i j x.m x.s.q n R w O
 enc : EncAt w O 5 E x.s.e
structure LockD (w0 : World) (i j : Mid) (D : Nat) (m : Ms) (Q : Qs) (n : Ms) (d : Ds) (tot : Nat) (w : World) (O : Paint) : Prop where
 two : TwoM w0 i j m Q n d.q w O
 dec : DecAt w O 6 D d.d tot
section
variable {cs : List Nat} {w0 w w' : World} {O O' : Paint} {i j : Mid} {E D tot : Nat} {x : Pr} {d : Ds} {m n : Ms} {Q R : Qs}
theorem LockE.idle (h : LockE w0 i j E x n R w O) (hs : Step [] w O w' O') : LockE w0 i j E x n R w' O' := ⟨h.two.idle hs, h.enc.step hs (by simp)⟩
theorem LockE.other {c : Nat} (h : LockE w0 i j E x n R w O) (hs : Step [c] w O w' O') (hc : 5 < c) : LockE w0 i j E x n R w' O' := ⟨h.two.step hs (by simp; omega) (by simp; omega) (by simp; omega) (by simp; omega) (by simp; omega), h.enc.step hs (by simp; omega)⟩
theorem LockD.idle (h : LockD w0 i j D m Q n d tot w O) (hs : Step [] w O w' O') : LockD w0 i j D m Q n d tot w' O' := ⟨h.two.idle hs, h.dec.step hs (by simp)⟩
theorem LockE.put (h : LockE w0 i j E x n R w O) (ht : x.s.e.turns <= 600000) (p : Pt) (hb : p.b < 256) :
  Calls Tryz.prog 30 #[.pointer (some ⟨i.mo, 0, none⟩), .pointer (some ⟨E, 0, none⟩), p.val] w fun z w' => z = .returned (.bool (fitM i.most x.m p).isSome) /\ ∃ O', Step [5, i.cw, i.cm] w O w' O' /\ LockE w0 i j E (x.put i.most p) n R w' O' := by
 obtain ⟨o1, o2, o3, o4⟩ := h.two.off (c := 5) (by omega)
 cases hf : fitM i.most x.m p with
 | none =>
  refine (put_no h.two.one E p hf).mono ?_
  rintro z w' ⟨rfl, hb'⟩
  rw [Pr.put_no hf]
  have hs := Step.of_below_same hb' O
  exact ⟨rfl, O, hs.nil, h.idle hs⟩
 | some y =>
  obtain ⟨q1, q2⟩ := pkOf_ok hb (fitM_some hf).1
  refine (put_yes h.two.one h.enc o1 o2 ht p hb y hf (pkOf p) q1 q2).mono ?_
  rintro z w' ⟨rfl, O', hs, hw, he⟩
  rw [Pr.put_yes hf]
  exact ⟨rfl, O', hs, h.two.put (by omega) hs hw, he⟩
theorem LockE.fin (h : LockE w0 i j E x n R w O) (ht : x.s.e.turns <= 600000) :
  Calls Tryz.prog 31 #[.pointer (some ⟨i.mo, 0, none⟩), .pointer (some ⟨E, 0, none⟩)] w fun z w' => z = .returned (.tuple #[]) /\ ∃ O', Step [5, i.cw, i.cm] w O w' O' /\ LockE w0 i j E ⟨x.m, x.s.code x.m pend⟩ n R w' O' := by
 obtain ⟨o1, o2, o3, o4⟩ := h.two.off (c := 5) (by omega)
 refine (put_end h.two.one h.enc o1 o2 ht).mono ?_
 rintro z w' ⟨rfl, O', hs, hw, he⟩
 have hs' : Step [5, i.cw, i.cm] w O w' O' := hs.mono (by intro z hz; simp at hz ⊢; omega)
 exact ⟨rfl, O', hs', h.two.put (by omega) hs' hw, he⟩
theorem LockD.get (h : LockD w0 i j D m Q n d tot w O) {most : Int} (hm : j.most = most) {p : Pt} {e k : Bool} {n' : Ms} {d' : Ds} (hg : got most n (d.codeP n).pt = (p, e, k, n')) (hd : d.code n = d') :
  Calls Tryz.prog 116 #[.pointer (some ⟨j.mo, 0, none⟩), .pointer (some ⟨D, 0, none⟩)] w fun z w' => z = .returned (.tuple #[p.val, .bool e, .bool k]) /\ ∃ O', Step [6, j.cw, j.cm] w O w' O' /\ LockD w0 i j D m Q n' d' tot w' O' := by
 obtain ⟨o1, o2, o3, o4⟩ := h.two.off (c := 6) (by omega)
 refine (get_any h.two.two h.dec o3 o4).mono ?_
 rw [show (⟨d.d, d.q⟩ : Ds) = d from rfl, hm, hg, hd]
 rintro z w' ⟨rfl, O', hs, hw, he⟩
 exact ⟨rfl, O', hs, h.two.get (by omega) hs hw, he⟩
end
end Go.Proofs.YtfpoabeihpfeiaaGreat.Mo
end
section
namespace Go.Proofs.YtfpoabeihpfeiaaGreat.Mo
open Go.RowKit
open Rc
open Pk (Rp Pt four)
open Pl (flatP)
def spA : Pt := ⟨1, 0, 0, 97⟩
def spB : Pt := ⟨4, 0, 0, 0⟩
noncomputable def sp0 : Pr := ⟨mNew 3 0 2, ⟨Enc.start, qNew⟩⟩
noncomputable def sp1 : Pr := sp0.put 9 spA
noncomputable def sp2 : Pr := sp1.put 9 spB
end Go.Proofs.YtfpoabeihpfeiaaGreat.Mo
end
