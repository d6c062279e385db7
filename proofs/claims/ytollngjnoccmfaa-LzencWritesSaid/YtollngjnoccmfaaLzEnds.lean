/-
  Package lzdec: the contracts of newDecoding and decode.
  Package lzdec: the contract of decode's middle: a decoder, and a decoding by it.
  Package lzdec: the contract of decode, whoever is told the packets.
  Package lzdec: the contracts of Decode and Packets.
  Package lzdec: the contract of Packets.
  Layers 11 and 12, plain mathematics: what is encoded of packets that tell a text is decoded again.
  Layers 11 and 12: packets that tell a text are encoded, and their bytes decoded.
  Layer 11's statements: their params, of three numbers; their first lines (speaks) return true.
-/
import Derived.Test.YtollngjnoccmfaaLzdecGo
import Derived.Deep.RegionHeld3
import Derived.Test.YtollngjnoccmfaaModelAnyBase
section
section
set_option linter.unusedVariables false
set_option linter.unusedSimpArgs false
namespace Go.Proofs.Ytollngjnoccmfaa.Lz
open Go.RowKit
open Rc Mo
open Pk (Rp Pt four IsPts)
/-- How many bytes at most. -/
def mostOf (n most : Int) : Int := if n < 0 then most else n
end Go.Proofs.Ytollngjnoccmfaa.Lz
end
section
set_option linter.unusedVariables false
set_option linter.unusedSimpArgs false
namespace Go.Proofs.Ytollngjnoccmfaa.Lz
open Go.RowKit
open Rc Mo
open Pk (Rp Pt four IsPts)
/-- The decoder is 6's, all else that is new 8's. -/
def pnt (W : World) (O : Paint) (D : Nat) : Paint := fun k => if k < W.heap.size then O k else if k = D then 6 else 8
theorem six_cells {w : World} {X : Nat} {a b c : Value} {t : TypeId} (h : w.heap[X]? = some (.cells #[a, b, c] t (0, 0))) :
    w.cell? ⟨X, 0, none⟩ = some a ∧ w.cell? ⟨X, 1, none⟩ = some b ∧ w.cell? ⟨X, 2, none⟩ = some c ∧ w.frozen? ⟨X, 0, none⟩ = false ∧ w.frozen? ⟨X, 1, none⟩ = false ∧ w.frozen? ⟨X, 2, none⟩ = false :=
  ⟨by simp [World.cell?, h], by simp [World.cell?, h], by simp [World.cell?, h], by simp [World.frozen?, h], by simp [World.frozen?, h], by simp [World.frozen?, h]⟩
theorem pnt_old {W : World} {O : Paint} {D k : Nat} (h : k < W.heap.size) : pnt W O D k = O k := by unfold pnt; rw [if_pos h]
theorem pnt_dec {W : World} {O : Paint} {D : Nat} (h : W.heap.size ≤ D) : pnt W O D D = 6 := by unfold pnt; rw [if_neg (by omega), if_pos rfl]
theorem pnt_new {W : World} {O : Paint} {D k : Nat} (h : W.heap.size ≤ k) (hk : k ≠ D) : pnt W O D k = 8 := by unfold pnt; rw [if_neg (by omega), if_neg hk]
theorem pnt_step {W w' : World} {O : Paint} {D : Nat} (h : Below W.heap.size W w') : Step [] W O w' (pnt W O D) := ⟨Frame.of_below_size h, fun k hk => pnt_old hk⟩
end Go.Proofs.Ytollngjnoccmfaa.Lz
end
section
set_option linter.unusedVariables false
set_option linter.unusedSimpArgs false
namespace Go.Proofs.Ytollngjnoccmfaa.Lz
open Go.RowKit
open Rc Mo
open Pk (Rp Pt four IsPts)
theorem TellAt.nine {w w' : World} {O O' : Paint} {L : Nat} {acc : List Pt} (h : TellAt w O L acc) (hs : Step [9] w O w' O') : TellAt w' O' L acc := h.step hs (by simp) (by simp)
def zeroDv : Value := .agg #[.pointer none, .nilIface, .int .i64 0]
/-- What bytes tell. -/
noncomputable def readR (lc lp pb : Nat) (s : ByteArray) (n most : Int) : Option (Ms × List Pt) := decR n (mostOf n most) ((mostOf n most).toNat + 1) (mNew lc lp pb) ⟨Dec.read s.data.toList, qNew⟩ []
end Go.Proofs.Ytollngjnoccmfaa.Lz
end
end
section
section
set_option linter.unusedVariables false
set_option linter.unusedSimpArgs false
namespace Go.Proofs.Ytollngjnoccmfaa.Lz
open Go.RowKit
open Rc Mo
open Pk (Rp Pt four IsPts)
/-- What Decode hands back. -/
noncomputable def decV (R : Option (Ms × List Pt)) : Value := match R with
  | none => .tuple #[.string ⟨#[]⟩, .int .i64 6]
  | some y => .tuple #[.string ⟨y.1.l.toArray⟩, .int .i64 0]
end Go.Proofs.Ytollngjnoccmfaa.Lz
end
section
set_option linter.unusedVariables false
set_option linter.unusedSimpArgs false
namespace Go.Proofs.Ytollngjnoccmfaa.Lz
open Go.RowKit
open Rc Mo
open Pk (Rp Pt four IsPts)
/-- What Packets leaves. -/
def PkTo (w : World) (R : Option (Ms × List Pt)) (x : Ending) (w' : World) : Prop :=
  (x = .returned (.tuple #[.slice none 0 0, .int .i64 6]) ∧ R = none ∧ Below w.heap.size w w') ∨ ∃ v m acc, x = .returned (.tuple #[v, .int .i64 0]) ∧ R = some (m, acc) ∧ Below w.heap.size w w' ∧ w'.ownsRow 0 37 4 v acc.length (Pl.flatP acc) ∧ ∀ q ∈ acc, q.b < 256
end Go.Proofs.Ytollngjnoccmfaa.Lz
end
section
set_option linter.unusedVariables false
namespace Go.Proofs.Ytollngjnoccmfaa.Lz
open Go.RowKit
open Rc Mo
open Pk (Rp Pt applyL applyL_more applyL_none applyL_long fit_some)
theorem fitM_mono {n M : Int} {m : Ms} {p : Pt} {y : Int × Int × Rp} (h : fitM n m p = some y) (hM : n ≤ M) : fitM M m p = some y := by
  obtain ⟨h1, h2⟩ := fitM_some h
  unfold fitM
  rw [h1]
  simp only
  rw [if_pos (by omega)]
theorem runs_mono {n M : Int} (hM : n ≤ M) : ∀ {l : List Pt} {x : Pr}, FitAll n x l → FitAll M x l ∧ runs M x l = runs n x l
  | [], x, _ => ⟨trivial, rfl⟩
  | p :: l, x, h => by
    obtain ⟨⟨hb, y, hy⟩, h2⟩ := h
    have hyM := fitM_mono hy hM
    have e : x.put M p = x.put n p := by rw [Pr.put_yes hy, Pr.put_yes hyM]
    obtain ⟨i1, i2⟩ := runs_mono hM h2
    refine ⟨⟨⟨hb, y, hyM⟩, by rw [e]; exact i1⟩, ?_⟩
    show runs M (x.put M p) l = runs n (x.put n p) l
    rw [e]
    exact i2
/-- Packets that tell a text fit, one after another. -/
theorem fitAll_apply {N : Nat} {t : List UInt8} : ∀ (l : List Pt) (x : Pr), x.m.r.pos → (∀ p ∈ l, p.b < 256) → applyL N l x.m.l x.m.r = (t, 0) → FitAll (N : Int) x l ∧ (runs (N : Int) x l).m.l = t
  | [], x, _, _, h => by
    simp only [applyL, Prod.mk.injEq, and_true] at h
    exact ⟨trivial, h⟩
  | p :: l, x, hr, hb, h => by
    cases hf : p.fit (x.m.l.length : Int) x.m.r with
    | none => rw [applyL_none hf] at h; cases h
    | some y =>
      obtain ⟨d, n, s⟩ := y
      cases ht : p.tell N x.m.l d n with
      | none => rw [applyL_long hf ht] at h; cases h
      | some l' =>
        rw [applyL_more hf ht] at h
        obtain ⟨hs, hk⟩ := fit_some hf hr
        have key : n ≤ (N : Int) - (x.m.l.length : Int) ∧ (x.m.tell p (d, n, s)).l = l' := by
          unfold Pk.Pt.tell at ht
          rcases hk with ⟨hk, rfl⟩ | ⟨hk, _, _, h3, _⟩
          · rw [if_pos hk] at ht
            split at ht
            · refine ⟨by omega, ?_⟩
              simp only [Ms.tell, if_pos hk]
              exact Option.some.inj ht
            · cases ht
          · rw [if_neg hk] at ht
            split at ht
            · refine ⟨by omega, ?_⟩
              simp only [Ms.tell, if_neg hk]
              exact Option.some.inj ht
            · cases ht
        have hy : fitM (N : Int) x.m p = some (d, n, s) := by
          unfold fitM
          rw [hf]
          simp only
          rw [if_pos key.1]
        have hput := Pr.put_yes (most := (N : Int)) hy
        have hpl : (x.put (N : Int) p).m.l = l' := by rw [hput]; exact key.2
        have hpr : (x.put (N : Int) p).m.r = s := by rw [hput]; rfl
        obtain ⟨i1, i2⟩ := fitAll_apply l (x.put (N : Int) p) (by rw [hpr]; exact hs) (fun q hq => hb q (List.mem_cons_of_mem _ hq)) (by rw [hpl, hpr]; exact h)
        exact ⟨⟨⟨hb p List.mem_cons_self, _, hy⟩, i1⟩, i2⟩
theorem put_pos {most : Int} {x : Pr} {p : Pt} {y : Int × Int × Rp} (hr : x.m.r.pos) (hy : fitM most x.m p = some y) : (x.put most p).m.r.pos ∧ x.m.l.length < (x.put most p).m.l.length := by
  obtain ⟨h1, _, h3⟩ := tell_grows hy hr
  rw [Pr.put_yes hy]
  exact ⟨h3, by simp only; omega⟩
theorem runs_len {most : Int} : ∀ {l : List Pt} {x : Pr}, x.m.r.pos → FitAll most x l → x.m.l.length + l.length ≤ (runs most x l).m.l.length ∧ (runs most x l).m.r.pos
  | [], x, h, _ => ⟨Nat.le_refl _, h⟩
  | p :: l, x, h, hl => by
    obtain ⟨⟨_, y, hy⟩, h2⟩ := hl
    obtain ⟨h3, h4⟩ := put_pos h hy
    obtain ⟨i1, i2⟩ := runs_len (l := l) h3 h2
    refine ⟨?_, i2⟩
    have e : runs most x (p :: l) = runs most (x.put most p) l := rfl
    rw [e, List.length_cons]
    omega
theorem runs_parts {most : Int} : ∀ {l : List Pt} {x : Pr} (k : Nat), FitAll most x l → FitAll most x (l.take k) ∧ FitAll most (runs most x (l.take k)) (l.drop k) ∧ runs most x l = runs most (runs most x (l.take k)) (l.drop k)
  | l, x, 0, h => ⟨trivial, h, rfl⟩
  | [], x, k + 1, _ => ⟨trivial, trivial, rfl⟩
  | p :: l, x, k + 1, h => by
    obtain ⟨i1, i2, i3⟩ := runs_parts (l := l) (x := x.put most p) k h.2
    exact ⟨⟨h.1, i1⟩, i2, i3⟩
/-- What was put, without the end, is got. -/
theorem read_run {N : Nat} {lc lp pb : Nat} {l : List Pt} {X : Pr} (hl : FitAll (N : Int) (xNew lc lp pb) l) (hX : X = runs (N : Int) (xNew lc lp pb) l) (hN : X.m.l.length = N) (hN2 : N < 4611686018427387904) :
    readR lc lp pb ⟨(encB X false).toArray⟩ (N : Int) (N : Int) = some (X.m, l) := by
  have h0 : (xNew lc lp pb).s.Ok := start_ok lc lp pb
  have hpos : (xNew lc lp pb).m.r.pos := by unfold xNew mNew Pk.Rp.pos; simp
  have hx : (xNew lc lp pb).s = ⟨Enc.start, qNew⟩ := rfl
  have hmo : mostOf (N : Int) (N : Int) = (N : Int) := by unfold mostOf; split <;> rfl
  have hok := runs_ok (most := (N : Int)) (l := l) h0
  rw [← hX] at hok
  have hs := ahead_self (e := X.s.e) (by have := hok.fine.1; omega)
  have ha0 := ahead_runs (most := (N : Int)) (l := l) (x := xNew lc lp pb) 0 h0 (by rw [← hX]; exact hs)
  have hrd : encB X false = 0 :: be (X.s.e.turns + 4) X.s.e.low ++ [] := by simp [encB, Enc.bytes]
  have ha1 : Ahead Enc.start X.s.e.low X.s.e.turns := by
    have := ha0
    simp only [List.take_zero] at this
    exact this
  have hst := follows_start (more := []) ha1
  rw [← hrd] at hst
  have hf0 : Fol ⟨Dec.read (encB X false), qNew⟩ (xNew lc lp pb).s X.s.e.low X.s.e.turns [] := ⟨hst, rfl⟩
  have hr := fol_runs h0 hl (by rw [← hX]; exact hs) hf0
  have hlen := (runs_len hpos hl).1
  rw [← hX, hN] at hlen
  have hll : l.length ≤ N := by have : (xNew lc lp pb).m.l.length = 0 := rfl; omega
  have key : ∀ (j k f : Nat), j + k = l.length → j < f → decR (N : Int) (N : Int) f (runs (N : Int) (xNew lc lp pb) (l.take k)).m (dsN (N : Int) (xNew lc lp pb) l ⟨Dec.read (encB X false), qNew⟩ k) (l.take k) = some (X.m, l) := by
    intro j
    induction j with
    | zero =>
      intro k f hk hf
      obtain ⟨f', rfl⟩ : ∃ f', f = f' + 1 := ⟨f - 1, by omega⟩
      have hkl : k = l.length := by omega
      have hfol := hr k (by omega)
      rw [hkl, List.take_length, ← hX] at hfol ⊢
      obtain ⟨r1, r2, r3⟩ := follows_end hfol.f
      have hlk : lacksB (N : Int) X.m = false := by unfold lacksB; rw [hN]; simp
      have hov : over (dsN (N : Int) (xNew lc lp pb) l ⟨Dec.read (encB X false), qNew⟩ l.length) = true := by unfold over; simp [Dec.done, r1, r2, r3]
      rw [decR_stop (by rw [hlk]; simp), hov, if_pos rfl]
    | succ j ih =>
      intro k f hk hf
      obtain ⟨f', rfl⟩ : ∃ f', f = f' + 1 := ⟨f - 1, by omega⟩
      have hkl : k < l.length := by omega
      have hlk : l[k]? = some l[k] := List.getElem?_eq_getElem hkl
      obtain ⟨hb, y, hy⟩ := fitAll_at hl hlk
      have ha2 := ahead_runs (most := (N : Int)) (l := l) (x := xNew lc lp pb) (k + 1) h0 (by rw [← hX]; exact hs)
      rw [runs_take hlk] at ha2
      have hfol := hr k (by omega)
      obtain ⟨g1, _⟩ := fol_put (runs_ok h0) hb hy ha2 hfol
      rw [← runs_take hlk] at g1
      obtain ⟨p1, p2, p3⟩ := runs_parts k hl
      have hp2 := (runs_len (runs_len hpos p1).2 p2).1
      rw [← p3, ← hX, hN, List.length_drop] at hp2
      have hlack : lacksB (N : Int) (runs (N : Int) (xNew lc lp pb) (l.take k)).m = true := by unfold lacksB; simp; omega
      rw [decR_more ⟨hlack, hfol.f.1⟩ g1]
      have htk : l.take k ++ [l[k]] = l.take (k + 1) := by rw [List.take_succ_eq_append_getElem hkl]
      rw [htk]
      exact ih (k + 1) f' (by omega) (by omega)
  unfold readR
  rw [hmo]
  have := key l.length 0 ((N : Int).toNat + 1) (by omega) (by simp; omega)
  rw [List.take_zero] at this
  simpa [dsN, runs, xNew] using this
/-- Packets that tell a text are told by their bytes. -/
theorem read_all {N : Nat} (lc lp pb : Nat) {l : List Pt} {t : List UInt8} (hb : ∀ p ∈ l, p.b < 256) (h : applyL N l [] ⟨1, 1, 1, 1⟩ = (t, 0)) (hN : t.length = N) (hN2 : N ≤ 16777216) :
    ∃ X, encR 16777216 (xNew lc lp pb) l = some X ∧ readR lc lp pb ⟨(encB X false).toArray⟩ (N : Int) (N : Int) = some (X.m, l) ∧ X.m.l = t ∧ (encB X false).length ≤ 200 * l.length + 5 := by
  obtain ⟨h1, h2⟩ := fitAll_apply l (xNew lc lp pb) (by unfold xNew mNew Pk.Rp.pos; simp) hb h
  obtain ⟨h3, h4⟩ := runs_mono (M := 16777216) (by omega) h1
  refine ⟨runs (N : Int) (xNew lc lp pb) l, by rw [encR_all h3, h4], read_run h1 rfl (by rw [h2]; exact hN) (by omega), h2, ?_⟩
  have ht := runs_turns h1
  have h0 : (xNew lc lp pb).s.e.turns = 0 := rfl
  have hb : (encB (runs (N : Int) (xNew lc lp pb) l) false).length = (runs (N : Int) (xNew lc lp pb) l).s.e.turns + 5 := by simp [encB, Enc.bytes, be_length]
  omega
end Go.Proofs.Ytollngjnoccmfaa.Lz
end
section
set_option linter.unusedVariables false
namespace Go.Proofs.Ytollngjnoccmfaa.Lz
open Go.RowKit
open Rc Mo
open Pk (Rp Pt applyL IsPts)
end Go.Proofs.Ytollngjnoccmfaa.Lz
end
end
section
set_option linter.unusedVariables false
set_option linter.unusedSimpArgs false
namespace Go.Proofs.Ytollngjnoccmfaa.Lz
open Go.RowKit
open Rc Mo
open Pk (Rp Pt four IsPts)
set_option maxRecDepth 100000 in
theorem params11_any (x0 x1 x2 : Nat) (h0 : x0 < 256) (h1 : x1 < 256) (h2 : x2 < 256) (w : World) :
    Calls Try.prog 10 #[.agg #[.int .u8 (x0 : Int), .int .u8 (x1 : Int), .int .u8 (x2 : Int)]] w fun x w' => x = .returned (.agg #[.int .i64 (parL x0 : Int), .int .i64 (parP x0 x1 : Int), .int .i64 ((x2 % 5 : Nat) : Int)]) ∧ Below w.heap.size w w' := by
  have hb1 : Below w.heap.size w (w.alloc (.cells #[.int .u8 (x0 : Int), .int .u8 (x1 : Int), .int .u8 (x2 : Int)] 22)) := (Below.refl _ _).alloc (Nat.le_refl _) _
  have hz := heap_alloc_new w (.cells #[.int .u8 (x0 : Int), .int .u8 (x1 : Int), .int .u8 (x2 : Int)] 22)
  have hy := heap_alloc_new (w.alloc (.cells #[.int .u8 (x0 : Int), .int .u8 (x1 : Int), .int .u8 (x2 : Int)] 22)) (.cells #[.int .i64 0, .int .i64 0, .int .i64 0] 26)
  have hb2 := hb1.alloc (by simp) (.cells #[.int .i64 0, .int .i64 0, .int .i64 0] 26)
  have hz2 := (Below.heap_alloc (w.alloc (.cells #[.int .u8 (x0 : Int), .int .u8 (x1 : Int), .int .u8 (x2 : Int)] 22)) (.cells #[.int .i64 0, .int .i64 0, .int .i64 0] 26) _ (lt_of_heap hz)).trans hz
  rw [World.size_alloc] at hy
  have e0 := mod5 x0
  have e2 := mod5 x2
  have l0 : x0 % 5 < 5 := Nat.mod_lt _ (by omega)
  have l2 : x2 % 5 < 5 := Nat.mod_lt _ (by omega)
  have e1 := modL (x0 % 5) x1 l0
  have l1 : x1 % (5 - x0 % 5) < 5 := Nat.lt_of_lt_of_le (Nat.mod_lt _ (by omega)) (by omega)
  obtain ⟨a, ha⟩ : ∃ a, a = x0 % 5 := ⟨_, rfl⟩
  obtain ⟨c, hc⟩ : ∃ c, c = x2 % 5 := ⟨_, rfl⟩
  obtain ⟨b, hb⟩ : ∃ b, b = x1 % (5 - a) := ⟨_, rfl⟩
  rw [← ha] at e0 l0 e1 l1
  rw [← hc] at e2 l2
  rw [← hb] at e1 l1
  have HA : Hid (parL x0 = a ∧ parP x0 x1 = b ∧ x2 % 5 = c) := Lib.hid ⟨ha.symm, by unfold parP; rw [← ha, ← hb], hc.symm⟩
  clear ha hb hc
  go_enter Try.func10, Try.ntmps10
  go_upto_region 1 with (fail)
  have HB2 := Lib.hid hb2
  generalize (w.alloc (.cells #[.int .u8 (x0 : Int), .int .u8 (x1 : Int), .int .u8 (x2 : Int)] 22)).alloc (.cells #[.int .i64 0, .int .i64 0, .int .i64 0] 26) = W2 at *
  obtain ⟨p0, p1, p2⟩ := tri hz2
  obtain ⟨q0, q1, q2⟩ := tri hy
  have f0 : W2.frozen? ⟨w.heap.size + 1, 0, none⟩ = false := by simp [World.frozen?, hy]
  have f1 : W2.frozen? ⟨w.heap.size + 1, 1, none⟩ = false := by simp [World.frozen?, hy]
  have f2 : W2.frozen? ⟨w.heap.size + 1, 2, none⟩ = false := by simp [World.frozen?, hy]
  have hpl := lt_of_heap hz2
  clear hb1 hz hb2 
  generalize hPe : w.heap.size = P at *
  go_upto_region 2 with (fail)
  have hne : (5 - (a : Int)) ≠ 0 := by omega
  have w1 : IntKind.i64.wrap (5 - (a : Int)) = 5 - a := by rw [IntKind.wrap_i64]; omega
  have w2 : IntKind.i64.wrap (b : Int) = b := by rw [IntKind.wrap_i64]; omega
  go_region
  all_goals
    go_wp2_with fail
    have b0 := heap_setCell_same W2 _ 0 _ _ (.int .i64 (a : Int)) hy
    have b1 := heap_setCell_same _ _ 1 _ _ (.int .i64 (b : Int)) b0
    have b2 := heap_setCell_same _ _ 2 _ _ (.int .i64 (c : Int)) b1
    have hb3 : Below P w (((W2.setCell ⟨P + 1, 0, none⟩ (.int .i64 (a : Int))).setCell ⟨P + 1, 1, none⟩ (.int .i64 (b : Int))).setCell ⟨P + 1, 2, none⟩ (.int .i64 (c : Int))).drew :=
      Pk.bel_drew (((HB2.out.setCell (p := ⟨P + 1, 0, none⟩) (by simp) _).setCell (p := ⟨P + 1, 1, none⟩) (by simp) _).setCell (p := ⟨P + 1, 2, none⟩) (by simp) _)
    simp at b2
    have b3 : (((W2.setCell ⟨P + 1, 0, none⟩ (.int .i64 (a : Int))).setCell ⟨P + 1, 1, none⟩ (.int .i64 (b : Int))).setCell ⟨P + 1, 2, none⟩ (.int .i64 (c : Int))).drew.heap[P + 1]? = some (.cells #[.int .i64 (a : Int), .int .i64 (b : Int), .int .i64 (c : Int)] 26 (0, 0)) := b2
    generalize (((W2.setCell ⟨P + 1, 0, none⟩ (.int .i64 (a : Int))).setCell ⟨P + 1, 1, none⟩ (.int .i64 (b : Int))).setCell ⟨P + 1, 2, none⟩ (.int .i64 (c : Int))).drew = W3 at *
    clear b0 b1 b2 p0 p1 p2 q0 q1 q2 f0 f1 f2
    obtain ⟨r0, r1, r2⟩ := tri b3
    refine bodyPost_ret (v := .agg #[.int .i64 (a : Int), .int .i64 (b : Int), .int .i64 (c : Int)]) ?_ rfl ?_
    · simp [results, Try.results10, go_sem, r0, r1, r2]
    · rw [HA.out.1, HA.out.2.1, HA.out.2.2, hPe]
      exact ⟨rfl, hb3⟩
theorem read_none : readR 0 0 0 ⟨#[0, 0, 0, 0, 0]⟩ 0 9 = some (mNew 0 0 0, []) := by
  unfold readR
  rw [show mostOf 0 9 = 0 from rfl, show (0 : Int).toNat + 1 = 0 + 1 from rfl, decR_stop (by unfold lacksB mNew; simp), show over ⟨Dec.read (⟨#[0, 0, 0, 0, 0]⟩ : ByteArray).data.toList, qNew⟩ = true from by unfold over; decide +kernel]
  rfl
theorem read_bad : readR 0 0 0 ⟨#[1, 0, 0, 0, 0]⟩ 0 9 = none := by
  unfold readR
  rw [show mostOf 0 9 = 0 from rfl, show (0 : Int).toNat + 1 = 0 + 1 from rfl, decR_stop (by unfold lacksB mNew; simp), show over ⟨Dec.read (⟨#[1, 0, 0, 0, 0]⟩ : ByteArray).data.toList, qNew⟩ = false from by unfold over; decide +kernel]
  rfl
end Go.Proofs.Ytollngjnoccmfaa.Lz
end
