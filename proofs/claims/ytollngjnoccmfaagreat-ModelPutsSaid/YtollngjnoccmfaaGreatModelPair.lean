/-
  Layer 10's statements: params that may be, of three numbers; a list of packets that is kept; two models side by side.
  Layer 10's statements: what is put is got, packet by packet, and the end (mathematics); two models and a coder through Put, PutEnd and Get.
  Layer 10's statements: their first lines (speaks) return true.
-/
import Derived.Test.YtollngjnoccmfaaGreatModelAll
import Derived.Test.YtollngjnoccmfaaGreatHeldP
import Derived.Test.YtollngjnoccmfaaGreatPackDo
import Derived.Test.YtollngjnoccmfaaGreatRcDecs
import Derived.Deep.CutBlock
import Derived.Deep.DeepCutAuto
import Derived.Deep.QuietTactic
import Derived.BigQuiet
import Derived.Deep.RegionHeld3
section
set_option linter.unusedVariables false
namespace Go.Proofs.YtollngjnoccmfaaGreat.Mo
open Go.RowKit
open Rc
open Pk (Rp Pt four)
open Pl (flatP)
theorem tri {w : World} {X : Nat} {a b c : Value} {t : TypeId} (h : w.heap[X]? = some (.cells #[a, b, c] t (0, 0))) :
    w.cell? ⟨X, 0, none⟩ = some a ∧ w.cell? ⟨X, 1, none⟩ = some b ∧ w.cell? ⟨X, 2, none⟩ = some c :=
  ⟨by simp [World.cell?, h], by simp [World.cell?, h], by simp [World.cell?, h]⟩
-- PAR
theorem mod5 (x : Nat) : Int.tmod (x : Int) 5 = ((x % 5 : Nat) : Int) := by
  rw [Int.tmod_eq_emod_of_nonneg (by omega)]; omega
theorem modL (x y : Nat) (h : x < 5) : Int.tmod (y : Int) (5 - (x : Int)) = ((y % (5 - x) : Nat) : Int) := by
  rw [show (5 : Int) - (x : Int) = ((5 - x : Nat) : Int) by omega]
  rw [Int.tmod_eq_emod_of_nonneg (by omega)]
  exact (Int.natCast_emod y (5 - x)).symm
/-- The params of three numbers. -/
def parL (x0 : Nat) : Nat := x0 % 5
def parP (x0 x1 : Nat) : Nat := x1 % (5 - x0 % 5)
theorem par_sum (x0 x1 : Nat) : parL x0 + parP x0 x1 ≤ 4 := by
  unfold parL parP
  have h1 : x0 % 5 < 5 := Nat.mod_lt _ (by omega)
  have h2 : x1 % (5 - x0 % 5) < 5 - x0 % 5 := Nat.mod_lt _ (by omega)
  omega
set_option maxRecDepth 100000 in
theorem params_any (x0 x1 x2 : Nat) (h0 : x0 < 256) (h1 : x1 < 256) (h2 : x2 < 256) (w : World) :
    Calls Tryz.prog 8 #[.agg #[.int .u8 (x0 : Int), .int .u8 (x1 : Int), .int .u8 (x2 : Int)]] w fun x w' => x = .returned (.agg #[.int .i64 (parL x0 : Int), .int .i64 (parP x0 x1 : Int), .int .i64 ((x2 % 5 : Nat) : Int)]) ∧ Below w.heap.size w w' := by
  have hb1 : Below w.heap.size w (w.alloc (.cells #[.int .u8 (x0 : Int), .int .u8 (x1 : Int), .int .u8 (x2 : Int)] 22)) := (Below.refl _ _).alloc (Nat.le_refl _) _
  have hz := heap_alloc_new w (.cells #[.int .u8 (x0 : Int), .int .u8 (x1 : Int), .int .u8 (x2 : Int)] 22)
  have hy := heap_alloc_new (w.alloc (.cells #[.int .u8 (x0 : Int), .int .u8 (x1 : Int), .int .u8 (x2 : Int)] 22)) (.cells #[.int .i64 0, .int .i64 0, .int .i64 0] 26)
  have hb2 := hb1.alloc (by simp) (.cells #[.int .i64 0, .int .i64 0, .int .i64 0] 26)
  have hz2 := (Below.heap_alloc (w.alloc (.cells #[.int .u8 (x0 : Int), .int .u8 (x1 : Int), .int .u8 (x2 : Int)] 22)) (.cells #[.int .i64 0, .int .i64 0, .int .i64 0] 26) _ (lt_of_heap hz)).trans hz
  rw [World.size_alloc] at hy
  have e0 := mod5 x0
  have e2 := mod5 x2
  have l0 : x0 % 5 < 5 := Nat.mod_lt _ (by omega)
  have l2 : x2 % 5 < 5 := Nat.mod_lt _ (by omega)
  have e1 := modL (x0 % 5) x1 l0
  have l1 : x1 % (5 - x0 % 5) < 5 := Nat.lt_of_lt_of_le (Nat.mod_lt _ (by omega)) (by omega)
  obtain ⟨a, ha⟩ : ∃ a, a = x0 % 5 := ⟨_, rfl⟩
  obtain ⟨c, hc⟩ : ∃ c, c = x2 % 5 := ⟨_, rfl⟩
  obtain ⟨b, hb⟩ : ∃ b, b = x1 % (5 - a) := ⟨_, rfl⟩
  rw [← ha] at e0 l0 e1 l1
  rw [← hc] at e2 l2
  rw [← hb] at e1 l1
  have HA : Hid (parL x0 = a ∧ parP x0 x1 = b ∧ x2 % 5 = c) := Lib.hid ⟨ha.symm, by unfold parP; rw [← ha, ← hb], hc.symm⟩
  clear ha hb hc
  go_enter Tryz.func8, Tryz.ntmps8
  go_upto_region 1 with (fail)
  have HB2 := Lib.hid hb2
  generalize (w.alloc (.cells #[.int .u8 (x0 : Int), .int .u8 (x1 : Int), .int .u8 (x2 : Int)] 22)).alloc (.cells #[.int .i64 0, .int .i64 0, .int .i64 0] 26) = W2 at *
  obtain ⟨p0, p1, p2⟩ := tri hz2
  obtain ⟨q0, q1, q2⟩ := tri hy
  have f0 : W2.frozen? ⟨w.heap.size + 1, 0, none⟩ = false := by simp [World.frozen?, hy]
  have f1 : W2.frozen? ⟨w.heap.size + 1, 1, none⟩ = false := by simp [World.frozen?, hy]
  have f2 : W2.frozen? ⟨w.heap.size + 1, 2, none⟩ = false := by simp [World.frozen?, hy]
  have hpl := lt_of_heap hz2
  clear hb1 hz hb2 
  generalize hPe : w.heap.size = P at *
  go_upto_region 2 with (fail)
  have hne : (5 - (a : Int)) ≠ 0 := by omega
  have w1 : IntKind.i64.wrap (5 - (a : Int)) = 5 - a := by rw [IntKind.wrap_i64]; omega
  have w2 : IntKind.i64.wrap (b : Int) = b := by rw [IntKind.wrap_i64]; omega
  go_region
  all_goals
    go_wp2_with fail
    have b0 := heap_setCell_same W2 _ 0 _ _ (.int .i64 (a : Int)) hy
    have b1 := heap_setCell_same _ _ 1 _ _ (.int .i64 (b : Int)) b0
    have b2 := heap_setCell_same _ _ 2 _ _ (.int .i64 (c : Int)) b1
    have hb3 : Below P w (((W2.setCell ⟨P + 1, 0, none⟩ (.int .i64 (a : Int))).setCell ⟨P + 1, 1, none⟩ (.int .i64 (b : Int))).setCell ⟨P + 1, 2, none⟩ (.int .i64 (c : Int))).drew :=
      Pk.bel_drew (((HB2.out.setCell (p := ⟨P + 1, 0, none⟩) (by simp) _).setCell (p := ⟨P + 1, 1, none⟩) (by simp) _).setCell (p := ⟨P + 1, 2, none⟩) (by simp) _)
    simp at b2
    have b3 : (((W2.setCell ⟨P + 1, 0, none⟩ (.int .i64 (a : Int))).setCell ⟨P + 1, 1, none⟩ (.int .i64 (b : Int))).setCell ⟨P + 1, 2, none⟩ (.int .i64 (c : Int))).drew.heap[P + 1]? = some (.cells #[.int .i64 (a : Int), .int .i64 (b : Int), .int .i64 (c : Int)] 26 (0, 0)) := b2
    generalize (((W2.setCell ⟨P + 1, 0, none⟩ (.int .i64 (a : Int))).setCell ⟨P + 1, 1, none⟩ (.int .i64 (b : Int))).setCell ⟨P + 1, 2, none⟩ (.int .i64 (c : Int))).drew = W3 at *
    clear b0 b1 b2 p0 p1 p2 q0 q1 q2 f0 f1 f2
    obtain ⟨r0, r1, r2⟩ := tri b3
    refine bodyPost_ret (v := .agg #[.int .i64 (a : Int), .int .i64 (b : Int), .int .i64 (c : Int)]) ?_ rfl ?_
    · simp [results, Tryz.results8, go_sem, r0, r1, r2]
    · rw [HA.out.1, HA.out.2.1, HA.out.2.2, hPe]
      exact ⟨rfl, hb3⟩
/-- Two models. -/
structure TwoM (w0 : World) (i j : Mid) (m : Ms) (Q : Qs) (n : Ms) (R : Qs) (w : World) (O : Paint) : Prop where
  run : Run w0 w O
  one : Whole w O i m Q
  two : Whole w O j n R
  col : (i.cw = 1 ∧ i.cm = 2 ∧ j.cw = 3 ∧ j.cm = 4) ∨ (i.cw = 3 ∧ i.cm = 4 ∧ j.cw = 1 ∧ j.cm = 2)
section
variable {cs : List Nat} {w0 w w' : World} {O O' : Paint} {i j : Mid} {m n m' n' : Ms} {Q R Q' R' : Qs}
theorem TwoM.step (h : TwoM w0 i j m Q n R w O) (hs : Step cs w O w' O') (h0 : 0 ∉ cs) (h1 : 1 ∉ cs) (h2 : 2 ∉ cs) (h3 : 3 ∉ cs) (h4 : 4 ∉ cs) : TwoM w0 i j m Q n R w' O' := by
  refine ⟨h.run.step hs h0, h.one.step hs ?_ ?_, h.two.step hs ?_ ?_, h.col⟩ <;> rcases h.col with ⟨e1, e2, e3, e4⟩ | ⟨e1, e2, e3, e4⟩ <;> first | (rw [e1]; assumption) | (rw [e2]; assumption) | (rw [e3]; assumption) | (rw [e4]; assumption)
theorem TwoM.idle (h : TwoM w0 i j m Q n R w O) (hs : Step [] w O w' O') : TwoM w0 i j m Q n R w' O' := h.step hs (by simp) (by simp) (by simp) (by simp) (by simp)
theorem TwoM.off (h : TwoM w0 i j m Q n R w O) {c : Nat} (hc : 4 < c) : i.cw ≠ c ∧ c ≠ i.cm ∧ j.cw ≠ c ∧ c ≠ j.cm := by have := h.col; omega
theorem TwoM.put {c : Nat} (h : TwoM w0 i j m Q n R w O) (hc : 4 < c) (hs : Step [c, i.cw, i.cm] w O w' O') (hw : Whole w' O' i m' Q') : TwoM w0 i j m' Q' n R w' O' := by
  have hcol := h.col
  exact ⟨h.run.step hs (by simp; omega), hw, h.two.step hs (by simp; omega) (by simp; omega), hcol⟩
theorem TwoM.get {c : Nat} (h : TwoM w0 i j m Q n R w O) (hc : 4 < c) (hs : Step [c, j.cw, j.cm] w O w' O') (hw : Whole w' O' j n' R') : TwoM w0 i j m Q n' R' w' O' := by
  have hcol := h.col
  exact ⟨h.run.step hs (by simp; omega), h.one.step hs (by simp; omega) (by simp; omega), hw, hcol⟩
end
/-- A new model's part. -/
def mNew (lc lp pb : Nat) : Ms := ⟨lc, lp, pb, 0, [], ⟨1, 1, 1, 1⟩⟩
def qNew : Qs := fun _ _ _ => 1024
theorem start_ok (lc lp pb : Nat) : (⟨mNew lc lp pb, ⟨Enc.start, qNew⟩⟩ : Pr).s.Ok := ⟨fine_start, fun _ _ _ => by show 31 ≤ 1024 ∧ 1024 ≤ 2017; omega⟩
end Go.Proofs.YtollngjnoccmfaaGreat.Mo
end
section
set_option linter.unusedVariables false
namespace Go.Proofs.YtollngjnoccmfaaGreat.Mo
open Go.RowKit
open Rc
open Pk (Rp Pt four)
open Pl (flatP)
noncomputable def dsN (most : Int) (x : Pr) (l : List Pt) (d : Ds) : Nat → Ds
  | 0 => d
  | k + 1 => (dsN most x l d k).code (runs most x (l.take k)).m
theorem fol_runs {most : Int} {x : Pr} {l : List Pt} {d : Ds} {F T : Nat} {more : List UInt8} (h : x.s.Ok) (hl : FitAll most x l) (ha : Ahead (runs most x l).s.e F T) (h0 : Fol d x.s F T more) : ∀ k, k ≤ l.length → Fol (dsN most x l d k) (runs most x (l.take k)).s F T more
  | 0, _ => by simpa [runs, dsN] using h0
  | k + 1, hk => by
    have ih := fol_runs h hl ha h0 k (by omega)
    have hlk : l[k]? = some l[k] := List.getElem?_eq_getElem (by omega)
    obtain ⟨hb, y, hy⟩ := fitAll_at hl hlk
    have ha2 := ahead_runs (k + 1) h ha
    rw [runs_take hlk] at ha2 ⊢
    exact (fol_put (runs_ok h) hb hy ha2 ih).2
/-- What is put is got. -/
theorem back_all {most : Int} {lc lp pb : Nat} {l : List Pt} (hl : FitAll most ⟨mNew lc lp pb, ⟨Enc.start, qNew⟩⟩ l) {X : Pr} (hX : X = runs most ⟨mNew lc lp pb, ⟨Enc.start, qNew⟩⟩ l) :
    ∃ ds : Nat → Ds, ds 0 = ⟨Dec.read (X.s.code X.m pend).e.bytes, qNew⟩ ∧
      (∀ k p, l[k]? = some p → got most (runs most ⟨mNew lc lp pb, ⟨Enc.start, qNew⟩⟩ (l.take k)).m ((ds k).codeP (runs most ⟨mNew lc lp pb, ⟨Enc.start, qNew⟩⟩ (l.take k)).m).pt = (p, false, true, (runs most ⟨mNew lc lp pb, ⟨Enc.start, qNew⟩⟩ (l.take (k + 1))).m) ∧ (ds k).code (runs most ⟨mNew lc lp pb, ⟨Enc.start, qNew⟩⟩ (l.take k)).m = ds (k + 1)) ∧
      got most X.m ((ds l.length).codeP X.m).pt = (⟨0, 0, 0, 0⟩, true, true, X.m) ∧ ((ds l.length).code X.m).d.done = true ∧ ((ds l.length).code X.m).d.bad = false := by
  have h0 := start_ok lc lp pb
  have hx : (⟨mNew lc lp pb, ⟨Enc.start, qNew⟩⟩ : Pr).s = ⟨Enc.start, qNew⟩ := rfl
  generalize (⟨mNew lc lp pb, ⟨Enc.start, qNew⟩⟩ : Pr) = x at *
  subst hX
  have hok := runs_ok (most := most) (l := l) h0
  have hE := (Es.Ok.code hok (runs most x l).m pend)
  have hs := ahead_self (e := ((runs most x l).s.code (runs most x l).m pend).e) (by have := hE.fine.1; omega)
  have ha := ahead_code hok hs
  have ha0 := ahead_runs 0 h0 ha
  have hrd : ((runs most x l).s.code (runs most x l).m pend).e.bytes = 0 :: be (((runs most x l).s.code (runs most x l).m pend).e.turns + 4) ((runs most x l).s.code (runs most x l).m pend).e.low ++ [] := by simp [Enc.bytes]
  have ha1 : Ahead Enc.start ((runs most x l).s.code (runs most x l).m pend).e.low ((runs most x l).s.code (runs most x l).m pend).e.turns := by
    have := ha0
    simp only [List.take_zero] at this
    have e : (runs most x []).s.e = Enc.start := by show x.s.e = _; rw [hx]
    rwa [e] at this
  have hst := follows_start (more := []) ha1
  rw [← hrd] at hst
  have hf0 : Fol ⟨Dec.read ((runs most x l).s.code (runs most x l).m pend).e.bytes, qNew⟩ x.s ((runs most x l).s.code (runs most x l).m pend).e.low ((runs most x l).s.code (runs most x l).m pend).e.turns [] := by
    rw [hx]
    exact ⟨hst, rfl⟩
  have hr := fol_runs h0 hl ha hf0
  refine ⟨dsN most x l _, rfl, fun k p hk => ?_, ?_⟩
  · have hkl : k < l.length := (List.getElem?_eq_some_iff.1 hk).1
    obtain ⟨hb, y, hy⟩ := fitAll_at hl hk
    have ha2 := ahead_runs (k + 1) h0 ha
    rw [runs_take hk] at ha2
    have h1 := fol_put (runs_ok h0) hb hy ha2 (hr k (by omega))
    rw [← runs_take hk] at h1
    exact ⟨h1.1, rfl⟩
  · have h1 := hr l.length (Nat.le_refl _)
    rw [List.take_length] at h1
    obtain ⟨g1, g2⟩ := fol_end (most := most) hok hs h1
    obtain ⟨r1, r2, r3⟩ := follows_end g2.f
    exact ⟨g1, by simp [Dec.done, r1, r2], r3⟩
/-- Two models and an encoder. -/
structure LockE (w0 : World) (i j : Mid) (E : Nat) (x : Pr) (n : Ms) (R : Qs) (w : World) (O : Paint) : Prop where
  two : TwoM w0 i j x.m x.s.q n R w O
  enc : EncAt w O 5 E x.s.e
/-- Two models and a decoder. -/
structure LockD (w0 : World) (i j : Mid) (D : Nat) (m : Ms) (Q : Qs) (n : Ms) (d : Ds) (tot : Nat) (w : World) (O : Paint) : Prop where
  two : TwoM w0 i j m Q n d.q w O
  dec : DecAt w O 6 D d.d tot
section
variable {cs : List Nat} {w0 w w' : World} {O O' : Paint} {i j : Mid} {E D tot : Nat} {x : Pr} {d : Ds} {m n : Ms} {Q R : Qs}
theorem LockE.idle (h : LockE w0 i j E x n R w O) (hs : Step [] w O w' O') : LockE w0 i j E x n R w' O' := ⟨h.two.idle hs, h.enc.step hs (by simp)⟩
theorem LockE.other {c : Nat} (h : LockE w0 i j E x n R w O) (hs : Step [c] w O w' O') (hc : 5 < c) : LockE w0 i j E x n R w' O' := ⟨h.two.step hs (by simp; omega) (by simp; omega) (by simp; omega) (by simp; omega) (by simp; omega), h.enc.step hs (by simp; omega)⟩
theorem LockD.idle (h : LockD w0 i j D m Q n d tot w O) (hs : Step [] w O w' O') : LockD w0 i j D m Q n d tot w' O' := ⟨h.two.idle hs, h.dec.step hs (by simp)⟩
theorem LockE.put (h : LockE w0 i j E x n R w O) (ht : x.s.e.turns ≤ 600000) (p : Pt) (hb : p.b < 256) :
    Calls Tryz.prog 14 #[.pointer (some ⟨i.mo, 0, none⟩), .pointer (some ⟨E, 0, none⟩), p.val] w fun z w' => z = .returned (.bool (fitM i.most x.m p).isSome) ∧ ∃ O', Step [5, i.cw, i.cm] w O w' O' ∧ LockE w0 i j E (x.put i.most p) n R w' O' := by
  obtain ⟨o1, o2, o3, o4⟩ := h.two.off (c := 5) (by omega)
  cases hf : fitM i.most x.m p with
  | none =>
    refine (put_no h.two.one E p hf).mono ?_
    rintro z w' ⟨rfl, hb'⟩
    rw [Pr.put_no hf]
    have hs := Step.of_below_same hb' O
    exact ⟨rfl, O, hs.nil, h.idle hs⟩
  | some y =>
    obtain ⟨q1, q2⟩ := pkOf_ok hb (fitM_some hf).1
    refine (put_yes h.two.one h.enc o1 o2 ht p hb y hf (pkOf p) q1 q2).mono ?_
    rintro z w' ⟨rfl, O', hs, hw, he⟩
    rw [Pr.put_yes hf]
    exact ⟨rfl, O', hs, h.two.put (by omega) hs hw, he⟩
theorem LockE.fin (h : LockE w0 i j E x n R w O) (ht : x.s.e.turns ≤ 600000) :
    Calls Tryz.prog 16 #[.pointer (some ⟨i.mo, 0, none⟩), .pointer (some ⟨E, 0, none⟩)] w fun z w' => z = .returned (.tuple #[]) ∧ ∃ O', Step [5, i.cw, i.cm] w O w' O' ∧ LockE w0 i j E ⟨x.m, x.s.code x.m pend⟩ n R w' O' := by
  obtain ⟨o1, o2, o3, o4⟩ := h.two.off (c := 5) (by omega)
  refine (put_end h.two.one h.enc o1 o2 ht).mono ?_
  rintro z w' ⟨rfl, O', hs, hw, he⟩
  have hs' : Step [5, i.cw, i.cm] w O w' O' := hs.mono (by intro z hz; simp at hz ⊢; omega)
  exact ⟨rfl, O', hs', h.two.put (by omega) hs' hw, he⟩
theorem LockD.get (h : LockD w0 i j D m Q n d tot w O) {most : Int} (hm : j.most = most) {p : Pt} {e k : Bool} {n' : Ms} {d' : Ds} (hg : got most n (d.codeP n).pt = (p, e, k, n')) (hd : d.code n = d') :
    Calls Tryz.prog 38 #[.pointer (some ⟨j.mo, 0, none⟩), .pointer (some ⟨D, 0, none⟩)] w fun z w' => z = .returned (.tuple #[p.val, .bool e, .bool k]) ∧ ∃ O', Step [6, j.cw, j.cm] w O w' O' ∧ LockD w0 i j D m Q n' d' tot w' O' := by
  obtain ⟨o1, o2, o3, o4⟩ := h.two.off (c := 6) (by omega)
  refine (get_any h.two.two h.dec o3 o4).mono ?_
  rw [show (⟨d.d, d.q⟩ : Ds) = d from rfl, hm, hg, hd]
  rintro z w' ⟨rfl, O', hs, hw, he⟩
  exact ⟨rfl, O', hs, h.two.get (by omega) hs hw, he⟩
end
end Go.Proofs.YtollngjnoccmfaaGreat.Mo
end
section
set_option linter.unusedVariables false
namespace Go.Proofs.YtollngjnoccmfaaGreat.Mo
open Go.RowKit
open Rc
open Pk (Rp Pt four)
open Pl (flatP)
def spA : Pt := ⟨1, 0, 0, 97⟩
def spB : Pt := ⟨4, 0, 0, 0⟩
noncomputable def sp0 : Pr := ⟨mNew 3 0 2, ⟨Enc.start, qNew⟩⟩
noncomputable def sp1 : Pr := sp0.put 9 spA
noncomputable def sp2 : Pr := sp1.put 9 spB
theorem sp_fit1 : fitM 9 sp0.m spA = some (0, 1, ⟨1, 1, 1, 1⟩) := by rfl
theorem sp_m1 : sp1.m = ⟨3, 0, 2, 0, [97], ⟨1, 1, 1, 1⟩⟩ := by
  unfold sp1
  rw [Pr.put_yes sp_fit1]
  show sp0.m.tell spA _ = _
  unfold Ms.tell
  rfl
theorem sp_fit2 : fitM 9 sp1.m spB = some (1, 1, ⟨1, 1, 1, 1⟩) := by rw [sp_m1]; rfl
theorem sp_m2 : sp2.m.l = [97, 97] := by
  unfold sp2
  rw [Pr.put_yes sp_fit2, sp_m1]
  decide +kernel
theorem sp_all : FitAll 9 sp0 [spA, spB] := ⟨⟨by decide, _, sp_fit1⟩, ⟨by decide, _, sp_fit2⟩, trivial⟩
theorem sp_turns : sp0.s.e.turns = 0 ∧ sp1.s.e.turns ≤ 200 ∧ sp2.s.e.turns ≤ 400 := by
  have h1 := Pr.put_turns (most := 9) (x := sp0) (p := spA) (by decide)
  have h2 := Pr.put_turns (most := 9) (x := sp1) (p := spB) (by decide)
  have h0 : sp0.s.e.turns = 0 := rfl
  refine ⟨h0, ?_, ?_⟩
  · show (sp0.put 9 spA).s.e.turns ≤ _; omega
  · have : sp1.s.e.turns ≤ 200 := by show (sp0.put 9 spA).s.e.turns ≤ _; omega
    show (sp1.put 9 spB).s.e.turns ≤ _; omega
set_option maxRecDepth 100000 in
set_option maxHeartbeats 8000000 in
theorem speaks10 (w : World) : Calls Tryz.prog 7 #[] w fun x w' => x = .returned (.bool true) ∧ Below w.heap.size w w' := by
  have HSUM : Hid (3 + 0 ≤ 4) := Lib.hid (by omega)
  have HPB : Hid (2 ≤ 4) := Lib.hid (by omega)
  have HRUN := Lib.hid (Run.start w)
  go_enter Tryz.func7, Tryz.ntmps7
  go_upto_region 2 with (fail)
  have hs1 := Step.alloc_paint w (fun _ => 0) 8 (.cells #[.int .i64 3, .int .i64 0, .int .i64 2] 26)
  have hX := Blk.new w (fun _ => 0) 8 (.cells #[.int .i64 3, .int .i64 0, .int .i64 2] 26)
  have HR1 := Lib.hid (HRUN.out.step hs1 (by simp))
  generalize w.alloc (.cells #[.int .i64 3, .int .i64 0, .int .i64 2] 26) = W1 at *
  generalize Step.paint (fun _ => 0) w 8 = O1 at *
  have HX := Lib.hid hX
  clear hX hs1
  obtain ⟨p0, p1, p2⟩ := three HX.out.1
  go_cut [2, 3] (fun a b wc => ∃ i j O', a = .pointer (some ⟨i.mo, 0, none⟩) ∧ b = .pointer (some ⟨j.mo, 0, none⟩) ∧ i.most = 9 ∧ j.most = 9 ∧ TwoM w i j (mNew 3 0 2) qNew (mNew 3 0 2) qNew wc O')
  case first =>
    as_aux_lemma =>
    have HS : Hid (∀ W' : World, Below W1.heap.size W1 W' → (fun W' => Below W1.heap.size W1 W' ∧ (W'.cell? ⟨w.heap.size, 0, none⟩ = some (.int .i64 3) ∧ W'.cell? ⟨w.heap.size, 1, none⟩ = some (.int .i64 0) ∧ W'.cell? ⟨w.heap.size, 2, none⟩ = some (.int .i64 2))) W') := Lib.hid fun W' hb => ⟨hb, three ((hb.block w.heap.size HX.out.lt).trans HX.out.1)⟩
    have HN : Hid (∀ (V : World) (O : Paint) (cw cm : Nat), cw ≠ cm → Calls Tryz.prog 9 #[.agg #[.int .i64 3, .int .i64 0, .int .i64 2], .int .i64 9] V fun x w' => ∃ i O', x = .returned (.pointer (some ⟨i.mo, 0, none⟩)) ∧ i.cw = cw ∧ i.cm = cm ∧ i.most = 9 ∧ Step [] V O w' O' ∧ Whole w' O' i (mNew 3 0 2) qNew) := Lib.hid fun V O cw cm hne => new_model _ _ _ HSUM.out HPB.out 9 (by omega) (by omega) V O cw cm hne
    go_region_held3 (fun W' => Below W1.heap.size W1 W' ∧ (W'.cell? ⟨w.heap.size, 0, none⟩ = some (.int .i64 3) ∧ W'.cell? ⟨w.heap.size, 1, none⟩ = some (.int .i64 0) ∧ W'.cell? ⟨w.heap.size, 2, none⟩ = some (.int .i64 2))) ((refine HS.out _ ?_; repeat (first | assumption | exact Below.refl _ _ | refine Pk.bel_drew ?_ | refine Pk.bel_alloc _ ?_))) (first | (go_at_call 9; (with_reducible refine (HN.out W1.drew O1 1 2 (by decide)).mono ?_); rintro x Va ⟨i, Oa, rfl, ia, ib, ic, hsa, hWa⟩; have hba := (hsa.from_drew).below (Nat.le_refl _) (by simp)) | (go_at_call 9; (with_reducible refine (HN.out _ Oa 3 4 (by decide)).mono ?_); rintro x Vb ⟨j, Ob, rfl, ja, jb, jc, hsb, hWb⟩; have hbb := ((hsa.from_drew).trans hsb).below (Nat.le_refl _) (by simp)))
    all_goals
      have HRB := Lib.hid ((HR1.out.step hsa.from_drew (by simp)).step hsb (by simp))
      have HWA := Lib.hid (hWa.step hsb (by simp) (by simp))
      have HWB := Lib.hid hWb
      clear hsa hsb hWa hWb hba hbb HN HS p0 p1 p2
      go_wp2_with fail
      go_meet
      first | exact ⟨i, j, Ob, rfl, rfl, ic, jc, HRB.out, HWA.out, HWB.out, .inl ⟨ia, ib, ja, jb⟩⟩ | exact ⟨j, i, Ob, rfl, rfl, jc, ic, HRB.out, HWB.out, HWA.out, .inr ⟨ja, jb, ia, ib⟩⟩
  case rest =>
    obtain ⟨i, j, O2, rfl, rfl, hi9, hj9, hT⟩ := hcut
    have HT := Lib.hid hT
    have HI := Lib.hid hi9
    have HJ := Lib.hid hj9
    clear hT hi9 hj9 HX HR1 p0 p1 p2 HSUM HPB HRUN
    go_wp2_with fail
    refine (new_enc _ O2 5).mono ?_
    rintro x w3 ⟨E, rfl, _, O3, hs3, he3⟩
    have hL3 : LockE w i j E sp0 (mNew 3 0 2) qNew w3 O3 := ⟨HT.out.idle hs3, he3⟩
    obtain ⟨t0, t1, t2⟩ := sp_turns
    have hp1 := hL3.put (by omega) spA (by decide)
    rw [HI.out, sp_fit1] at hp1
    have HP1 : Hid (Calls Tryz.prog 14 #[.pointer (some ⟨i.mo, 0, none⟩), .pointer (some ⟨E, 0, none⟩), .agg #[.int .i64 1, .int .i64 0, .int .i64 0, .int .u8 97]] w3 fun z w' => z = .returned (.bool true) ∧ ∃ O', Step [5, i.cw, i.cm] w3 O3 w' O' ∧ LockE w i j E sp1 (mNew 3 0 2) qNew w' O') := Lib.hid hp1
    have HT1 := Lib.hid t1
    have HT2 := Lib.hid t2
    clear hL3 hs3 he3 hp1 HT t0 t1 t2
    go_wp2_with fail
    refine HP1.out.mono ?_
    rintro x w4 ⟨rfl, O4, _, hL4⟩
    have hp2 := hL4.put (Nat.le_trans HT1.out (by omega)) spB (by decide)
    rw [HI.out, sp_fit2] at hp2
    have HP2 : Hid (Calls Tryz.prog 14 #[.pointer (some ⟨i.mo, 0, none⟩), .pointer (some ⟨E, 0, none⟩), .agg #[.int .i64 4, .int .i64 0, .int .i64 0, .int .u8 0]] w4 fun z w' => z = .returned (.bool true) ∧ ∃ O', Step [5, i.cw, i.cm] w4 O4 w' O' ∧ LockE w i j E sp2 (mNew 3 0 2) qNew w' O') := Lib.hid hp2
    clear hL4 hp2 HP1
    go_wp2_with fail
    refine HP2.out.mono ?_
    rintro x w5 ⟨rfl, O5, _, hL5⟩
    have HP3 := Lib.hid (hL5.fin (Nat.le_trans HT2.out (by omega)))
    clear hL5 HP2
    go_wp2_with fail
    refine HP3.out.mono ?_
    rintro x w6 ⟨rfl, O6, _, hL6⟩
    have HL6 := Lib.hid hL6
    have htu : ((sp2.s.code sp2.m pend).e).turns ≤ 600 := by
      have h := Es.code_turns sp2.s sp2.m pend_ok
      have := HT2.out
      omega
    clear hL6 HP3
    have HTU := Lib.hid htu
    clear htu
    obtain ⟨ds, d0, dk, dend, ddone, dbad⟩ := back_all sp_all (X := sp2) rfl
    have HG0 : Hid (got 9 (mNew 3 0 2) ((ds 0).codeP (mNew 3 0 2)).pt = (spA, false, true, sp1.m) ∧ (ds 0).code (mNew 3 0 2) = ds 1) := Lib.hid (dk 0 spA rfl)
    have HG1 : Hid (got 9 sp1.m ((ds 1).codeP sp1.m).pt = (spB, false, true, sp2.m) ∧ (ds 1).code sp1.m = ds 2) := Lib.hid (dk 1 spB rfl)
    have HG2 : Hid (got 9 sp2.m ((ds 2).codeP sp2.m).pt = (⟨0, 0, 0, 0⟩, true, true, sp2.m)) := Lib.hid dend
    have HDN : Hid (((ds 2).code sp2.m).d.done = true) := Lib.hid ddone
    have HD0 := Lib.hid d0
    clear d0 dk dend ddone dbad
    have hE := enc_end HL6.out.enc (Nat.le_trans HTU.out (by omega))
    have hbs : (⟨(sp2.s.code sp2.m pend).e.bytes.toArray⟩ : ByteArray).size ≤ 1000000000000 := by
      show (sp2.s.code sp2.m pend).e.bytes.toArray.size ≤ _
      have := HTU.out
      simp [Enc.bytes, Rc.be_length]; omega
    have HND := Lib.hid (fun W O => Rc.newdec (⟨(sp2.s.code sp2.m pend).e.bytes.toArray⟩ : ByteArray) hbs W O 6)
    have HDT : Hid (Dec.read (⟨(sp2.s.code sp2.m pend).e.bytes.toArray⟩ : ByteArray).data.toList = (ds 0).d) := Lib.hid (by rw [HD0.out])
    have HQ : Hid ((ds 0).q = qNew) := Lib.hid (by rw [HD0.out])
    have HE := Lib.hid hE
    clear hE hbs HD0
    simp only at HE
    generalize (sp2.s.code sp2.m pend).e.bytes = BY at *
    go_wp2_with fail
    refine HE.out.mono ?_
    rintro x w7 ⟨rfl, hb7⟩
    have HL7 := Lib.hid (HL6.out.idle (Step.of_below_same hb7 O6))
    clear hb7 HL6 HE
    go_wp2_with fail
    refine (HND.out w7 O6).mono ?_
    rintro x w8 ⟨rfl, O8, hs8, hd8⟩
    rw [HDT.out] at hd8
    have hD8 : LockD w i j w7.heap.size sp2.m (sp2.s.code sp2.m pend).q (mNew 3 0 2) (ds 0) 0 w8 O8 := ⟨by rw [HQ.out]; exact HL7.out.two.idle hs8, hd8⟩
    generalize w7.heap.size = D at *
    have HGT := Lib.hid (hD8.get HJ.out HG0.out.1 HG0.out.2)
    unfold spA Pk.Pt.val at HGT
    simp only at HGT
    clear hs8 hd8 hD8 HL7 HND HDT HQ
    go_wp2_with fail
    refine HGT.out.mono ?_
    rintro x w9 ⟨rfl, O9, _, hD9⟩
    clear HGT
    go_upto_region 8 with (fail)
    have hs10 := Step.alloc_paint w9 O9 8 (.cells #[.int .i64 1, .int .i64 0, .int .i64 0, .int .u8 97] 49)
    have HA10 := Lib.hid (Blk.new w9 O9 8 (.cells #[.int .i64 1, .int .i64 0, .int .i64 0, .int .u8 97] 49))
    have hD10 := hD9.idle hs10
    clear hs10 hD9
    generalize w9.alloc (.cells #[.int .i64 1, .int .i64 0, .int .i64 0, .int .u8 97] 49) = W10 at *
    generalize Step.paint O9 w9 8 = O10 at *
    generalize w9.heap.size = A at *
    have HGT := Lib.hid (hD10.get HJ.out HG1.out.1 HG1.out.2)
    have HCOL := Lib.hid hD10.two.col
    unfold spB Pk.Pt.val at HGT
    simp only at HGT
    clear hD10
    go_wp2_with fail
    refine HGT.out.mono ?_
    rintro x w11 ⟨rfl, O11, hs11, hD11⟩
    have HA11 := Lib.hid (HA10.out.step hs11 (by have := HCOL.out; simp; omega))
    clear HGT hs11 HA10
    go_upto_region 9 with (fail)
    have hs12 := Step.alloc_paint w11 O11 8 (.cells #[.int .i64 4, .int .i64 0, .int .i64 0, .int .u8 0] 49)
    have HB12 := Lib.hid (Blk.new w11 O11 8 (.cells #[.int .i64 4, .int .i64 0, .int .i64 0, .int .u8 0] 49))
    have HA12 := Lib.hid (HA11.out.step hs12 (by simp))
    have hD12 := hD11.idle hs12
    clear hs12 hD11 HA11
    generalize w11.alloc (.cells #[.int .i64 4, .int .i64 0, .int .i64 0, .int .u8 0] 49) = W12 at *
    generalize Step.paint O11 w11 8 = O12 at *
    generalize w11.heap.size = B at *
    have HGT := Lib.hid (hD12.get HJ.out HG2.out rfl)
    unfold Pk.Pt.val at HGT
    simp only at HGT
    clear hD12
    go_wp2_with fail
    refine HGT.out.mono ?_
    rintro x w13 ⟨rfl, O13, hs13, hD13⟩
    have HA13 := Lib.hid (HA12.out.step hs13 (by have := HCOL.out; simp; omega))
    have HB13 := Lib.hid (HB12.out.step hs13 (by have := HCOL.out; simp; omega))
    clear HGT hs13 HA12 HB12
    go_upto_region 10 with (fail)
    have hs14 := Step.alloc_paint w13 O13 8 (.cells #[.int .i64 0, .int .i64 0, .int .i64 0, .int .u8 0] 49)
    have HA14 := Lib.hid (HA13.out.step hs14 (by simp))
    have HB14 := Lib.hid (HB13.out.step hs14 (by simp))
    have HD14 := Lib.hid (hD13.idle hs14)
    clear hs14 hD13 HA13 HB13
    generalize w13.alloc (.cells #[.int .i64 0, .int .i64 0, .int .i64 0, .int .u8 0] 49) = W14 at *
    generalize Step.paint O13 w13 8 = O14 at *
    obtain ⟨⟨a0, a1, a2, a3⟩, _, _⟩ := four HA14.out.1
    obtain ⟨⟨b0, b1, b2, b3⟩, _, _⟩ := four HB14.out.1
    have HTX1 := Lib.hid (model_text HD14.out.two.one)
    have HTX2 := Lib.hid (model_text HD14.out.two.two)
    have HDO := Lib.hid (Rc.dec_done HD14.out.dec)
    rw [sp_m2] at HTX1 HTX2
    rw [HDN.out] at HDO
    clear HDN HG0 HG1 HG2 HTU HT1 HT2 HI HJ
    go_wp2_with fail
    refine HTX1.out.mono ?_
    rintro x w15 ⟨rfl, rfl⟩
    go_wp2_with fail
    refine HTX2.out.mono ?_
    rintro x w15 ⟨rfl, rfl⟩
    go_wp2_with fail
    refine HDO.out.mono ?_
    rintro x w15 ⟨rfl, n, rfl⟩
    go_wp2_with fail
    go_ret
    exact ⟨rfl, ((HD14.out.idle ((Step.refl [] _ _).drewN n)).two.run).below⟩
end Go.Proofs.YtollngjnoccmfaaGreat.Mo
end
