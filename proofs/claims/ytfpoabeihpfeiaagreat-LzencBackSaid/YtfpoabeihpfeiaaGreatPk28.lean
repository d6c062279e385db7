/-
  Package model: a packet that fits, as one that may be put; contracts of fit.
-/
import Derived.Test.YtfpoabeihpfeiaaGreatPk09
import Derived.Test.YtfpoabeihpfeiaaGreatPk14
import Derived.Test.YtfpoabeihpfeiaaGreatPk16
import Derived.Test.YtfpoabeihpfeiaaGreatPk27
import Derived.Deep.DeepCutAuto
import Derived.Deep.CutBlock
import Derived.Deep.RegionHeld3
import Derived.BigRegion
import Derived.StillTailTactics
set_option maxRecDepth 100000
set_option maxHeartbeats 16000000
set_option linter.unusedVariables false
set_option linter.unusedSimpArgs false
open Go.Lib (hid)
namespace Go.Proofs.YtfpoabeihpfeiaaGreat.Mo
open Go.RowKit
open Rc
open Pk (Rp Pt lenB four alloc_kept2 fits_any Fitted fitted_new fitted_set bel_drew bel_alloc bel_new bel_set)
open Wnd (Win)
theorem pt_ext {p q : Pt} (h1 : p.k = q.k) (h2 : p.d = q.d) (h3 : p.n = q.n) (h4 : p.b = q.b) : p = q := by
 cases p; cases q; simp_all
theorem fit_pk {p : Pt} {hv : Int} {r : Rp} {x : Int × Int × Rp} (hb : p.b < 256) (h : p.fit hv r = some x) : ∃ q : Pk1, q.Ok /\ q.pt = p := by
 unfold Pt.fit at h
 split at h
 · cases h
 · rename_i hp
   have hp' : p.plain = true := by simpa using hp
   unfold Pt.plain at hp'
   split at h
   · rename_i hk
     rw [if_pos hk] at hp'
     simp at hp'
     exact ⟨.lit p.b, hb, pt_ext hk.symm hp'.1.symm hp'.2.symm rfl⟩
   · rename_i hk1
     rw [if_neg hk1] at hp'
     split at h
     · rename_i hk2
       rw [if_pos (.inl hk2)] at hp'
       simp at hp'
       split at h
       · rename_i hc
         obtain ⟨c1, c2, c3⟩ := hc
         unfold lenB at c3
         simp at c3
         refine ⟨.mat (p.n - 2).toNat (p.d - 1).toNat, ⟨by omega, by omega⟩, pt_ext hk2.symm ?_ ?_ hp'.symm⟩
         · show (((p.d - 1).toNat + 1) % 4294967296 : Nat) = (_ : Int)
           omega
         · show ((p.n - 2).toNat : Int) + 2 = p.n
           omega
       · cases h
     · rename_i hk2
       split at h
       · rename_i hk3
         rw [if_pos (.inr hk3)] at hp'
         simp at hp'
         split at h
         · rename_i hc
           obtain ⟨c1, c2, c3⟩ := hc
           unfold lenB at c3
           simp at c3
           refine ⟨.rep p.d.toNat (p.n - 2).toNat, ⟨by omega, by omega⟩, pt_ext hk3.symm ?_ ?_ hp'.symm⟩
           · show (p.d.toNat : Int) = p.d
             omega
           · show ((p.n - 2).toNat : Int) + 2 = p.n
             omega
         · cases h
       · rename_i hk3
         rw [if_neg (by omega)] at hp'
         split at hp'
         · rename_i hk4
           simp at hp'
           exact ⟨.sho, trivial, pt_ext hk4.symm hp'.1.symm hp'.2.1.symm hp'.2.2.symm⟩
         · cases hp'
def fitM (most : Int) (m : Ms) (p : Pt) : Option (Int × Int × Rp) := match p.fit (m.l.length : Int) m.r with
 | none => none
 | some x => if x.2.1 <= most - (m.l.length : Int) then some x else none
def Ms.tell (m : Ms) (p : Pt) (x : Int × Int × Rp) : Ms := { m with st := (St.nxt (m.st : Int) p.k).toNat, l := if p.k = 1 then m.l ++ [UInt8.ofNat p.b] else Wnd.copied m.l x.1.toNat x.2.1.toNat, r := x.2.2 }
theorem fitM_some {most : Int} {m : Ms} {p : Pt} {x : Int × Int × Rp} (h : fitM most m p = some x) : p.fit (m.l.length : Int) m.r = some x /\ x.2.1 <= most - (m.l.length : Int) := by
 unfold fitM at h
 split at h
 · cases h
 · rename_i y hy
   split at h
   · cases h; exact ⟨hy, by assumption⟩
   · cases h
theorem Ms.tell_len (m : Ms) {p : Pt} {x : Int × Int × Rp} (hr : m.r.pos) (h : p.fit (m.l.length : Int) m.r = some x) : ((m.tell p x).l.length : Int) = m.l.length + x.2.1 /\ (m.tell p x).r.pos := by
 obtain ⟨d, n, s⟩ := x
 obtain ⟨h1, h2⟩ := Pk.fit_some h hr
 refine ⟨?_, h1⟩
 show (((if p.k = 1 then m.l ++ [UInt8.ofNat p.b] else Wnd.copied m.l d.toNat n.toNat).length : Nat) : Int) = m.l.length + n
 rcases h2 with ⟨hk, rfl⟩ | ⟨hk, _, _, h3, _⟩
 · rw [if_pos hk]; simp
 · rw [if_neg hk, Wnd.copied_length]; push_cast; omega
def stepVal (x : Int × Int × Rp) : Value := .agg #[.int .i64 x.1, .int .i64 x.2.1, .int .i64 x.2.2.a, .int .i64 x.2.2.b, .int .i64 x.2.2.c, .int .i64 x.2.2.d]
theorem six {w : World} {X : Nat} {a b c d e f : Value} {t : TypeId} (hh : w.heap[X]? = some (.cells #[a, b, c, d, e, f] t (0, 0))) :
  (w.cell? ⟨X, 0, none⟩ = some a /\ w.cell? ⟨X, 1, none⟩ = some b /\ w.cell? ⟨X, 2, none⟩ = some c /\ w.cell? ⟨X, 3, none⟩ = some d /\ w.cell? ⟨X, 4, none⟩ = some e /\ w.cell? ⟨X, 5, none⟩ = some f) /\ (w.frozen? ⟨X, 0, none⟩ = false /\ w.frozen? ⟨X, 1, none⟩ = false /\ w.frozen? ⟨X, 2, none⟩ = false /\ w.frozen? ⟨X, 3, none⟩ = false /\ w.frozen? ⟨X, 4, none⟩ = false /\ w.frozen? ⟨X, 5, none⟩ = false) := by
 refine ⟨⟨?_, ?_, ?_, ?_, ?_, ?_⟩, ?_, ?_, ?_, ?_, ?_, ?_⟩ <;> simp [World.cell?, World.frozen?, hh]
theorem six_set {W : World} {X : Nat} {z0 z1 z2 z3 z4 z5 : Value} {t : TypeId} (h : W.heap[X]? = some (.cells #[z0, z1, z2, z3, z4, z5] t (0, 0))) (x0 x1 x2 x3 x4 x5 : Value) :
  ∃ V, ((((((W.setCell ⟨X, 0, none⟩ x0).setCell ⟨X, 1, none⟩ x1).setCell ⟨X, 2, none⟩ x2).setCell ⟨X, 3, none⟩ x3).setCell ⟨X, 4, none⟩ x4).setCell ⟨X, 5, none⟩ x5) = V /\ (V.cell? ⟨X, 0, none⟩ = some x0 /\ V.cell? ⟨X, 1, none⟩ = some x1 /\ V.cell? ⟨X, 2, none⟩ = some x2 /\ V.cell? ⟨X, 3, none⟩ = some x3 /\ V.cell? ⟨X, 4, none⟩ = some x4 /\ V.cell? ⟨X, 5, none⟩ = some x5) /\ Frame (fun j => j = X) W V := by
 have b0 := heap_setCell_same W _ 0 _ _ x0 h
 have b1 := heap_setCell_same _ _ 1 _ _ x1 b0
 have b2 := heap_setCell_same _ _ 2 _ _ x2 b1
 have b3 := heap_setCell_same _ _ 3 _ _ x3 b2
 have b4 := heap_setCell_same _ _ 4 _ _ x4 b3
 have b5 := heap_setCell_same _ _ 5 _ _ x5 b4
 simp at b5
 refine ⟨_, rfl, ?_, ?_⟩
 · refine ⟨?_, ?_, ?_, ?_, ?_, ?_⟩ <;> simp [World.cell?, b5]
 · exact ((((((Frame.refl (fun j => j = X) W).setCell (p := ⟨X, 0, none⟩) (.inl rfl) _).setCell (p := ⟨X, 1, none⟩) (.inl rfl) _).setCell (p := ⟨X, 2, none⟩) (.inl rfl) _).setCell (p := ⟨X, 3, none⟩) (.inl rfl) _).setCell (p := ⟨X, 4, none⟩) (.inl rfl) _).setCell (p := ⟨X, 5, none⟩) (.inl rfl) _
theorem build_step {ρ : Operand -> Value} {o : Oper} {x y z : Operand} {x1 x2 a b c d : Int} (ho : o.op = .build 109 #[(0, x), (1, y), (2, z)]) (hx : ρ x = .int .i64 x1) (hy : ρ y = .int .i64 x2) (hz : ρ z = .agg #[.int .i64 a, .int .i64 b, .int .i64 c, .int .i64 d]) (w : World) :
  (execOp ρ o).run Tryz.prog w = .ok (.value (.agg #[.int .i64 x1, .int .i64 x2, .int .i64 a, .int .i64 b, .int .i64 c, .int .i64 d])) w := by
 obtain ⟨dst, op, ty, pos, after, guard⟩ := o
 simp only at ho
 subst ho
 unfold execOp
 simp only [List.map_toArray, List.map_cons, List.map_nil, hx, hy, hz]
 go_simp
section
variable {w : World} {O : Paint} {cw k mo wb wm : Nat} {most : Int} {v : Value} {m : Ms}
theorem fit_form2 (p : Pt) (hv : Int) (r : Rp) : ∃ x : Int × Int × Rp, (∀ W' : World, Calls Tryz.prog 25 #[.agg #[.int .i64 p.k, .int .i64 p.d, .int .i64 p.n, .int .u8 p.b], .int .i64 hv, .agg #[.int .i64 r.a, .int .i64 r.b, .int .i64 r.c, .int .i64 r.d]] W' fun e w' => e = .returned (.tuple #[.int .i64 x.1, .int .i64 x.2.1, .agg #[.int .i64 x.2.2.a, .int .i64 x.2.2.b, .int .i64 x.2.2.c, .int .i64 x.2.2.d], .bool (p.fit hv r).isSome]) /\ Below W'.heap.size W' w') /\ ∀ y, p.fit hv r = some y -> y = x := by
 obtain ⟨d, n, s, hf, hd⟩ := Pk.fit_form p hv r
 refine ⟨(d, n, s), fun W' => ?_, hd⟩
 rw [<- hf]
 exact Pk.fits_any p hv r W'
set_option maxHeartbeats 40000000 in
theorem fit_any (hm : ModAt w O cw mo wb v m.lc m.lp m.pb most wm m.l m.r m.st k) (hr : m.r.pos) (hmo : -9223372036854775808 <= most /\ most <= 9223372036854775807) (hwm : m.l.length <= most.toNat) (p : Pt) :
  ∃ x : Int × Int × Rp, (∀ y, fitM most m p = some y -> y = x) /\ Calls Tryz.prog 53 #[.pointer (some ⟨mo, 0, none⟩), .agg #[.int .i64 p.k, .int .i64 p.d, .int .i64 p.n, .int .u8 p.b]] w fun e w' => e = .returned (.tuple #[stepVal x, .bool (fitM most m p).isSome]) /\ Below w.heap.size w w' := by
 obtain ⟨x, hx, hd⟩ := fit_form2 p (m.l.length : Int) m.r
 refine ⟨x, fun y hy => hd y (fitM_some hy).1, ?_⟩
 have HD := hid hd
 have HM := hid hm
 have HLT := hid (show mo < w.heap.size /\ wb < w.heap.size /\ ∀ j, v.ownBlock = some j -> j < w.heap.size from ⟨hm.blk.lt, hm.win.lt, fun j hj => (hm.wO.2 j hj).2⟩)
 have HPOS := hid hr
 have hlm : (m.l.length : Int) <= max most 0 := by omega
 have hfm : ∀ (hq : p.fit (m.l.length : Int) m.r = none), fitM most m p = none := fun hq => by unfold fitM; rw [hq]
 have hfs : ∀ y (hq : p.fit (m.l.length : Int) m.r = some y), (fitM most m p).isSome = decide (y.2.1 <= most - (m.l.length : Int)) := fun y hq => by
  unfold fitM; rw [hq]; simp only; split <;> rename_i hc
  · rw [decide_eq_true hc]; rfl
  · rw [decide_eq_false hc]; rfl
 have HFM := hid hfm
 have HFS := hid hfs
 obtain ⟨x1, x2, s⟩ := x
 generalize hokb : (p.fit (m.l.length : Int) m.r).isSome = okb at hx
 have HOKB := hid hokb
 have HF := hid hx
 clear hokb
 clear hx hm hd hr hfm hfs
 go_enter Tryz.func53, Tryz.ntmps53
 go_upto_region 3 with (fail)
 have hb1 : Below w.heap.size w ((w.alloc (.cells #[.int .i64 p.k, .int .i64 p.d, .int .i64 p.n, .int .u8 p.b] 37)).alloc (.cells #[.int .i64 0, .int .i64 0, .int .i64 0, .int .i64 0, .int .i64 0, .int .i64 0] 109)) := ((Below.refl _ _).alloc (Nat.le_refl _) _).alloc (by simp) _
 have hP : ((w.alloc (.cells #[.int .i64 p.k, .int .i64 p.d, .int .i64 p.n, .int .u8 p.b] 37)).alloc (.cells #[.int .i64 0, .int .i64 0, .int .i64 0, .int .i64 0, .int .i64 0, .int .i64 0] 109)).heap[w.heap.size]? = some (.cells #[.int .i64 p.k, .int .i64 p.d, .int .i64 p.n, .int .u8 p.b] 37 (0, 0)) := by
  rw [Below.heap_alloc _ _ _ (by simp)]
  exact heap_alloc_new w _
 have hR := heap_alloc_new (w.alloc (.cells #[.int .i64 p.k, .int .i64 p.d, .int .i64 p.n, .int .u8 p.b] 37)) (.cells #[.int .i64 0, .int .i64 0, .int .i64 0, .int .i64 0, .int .i64 0, .int .i64 0] 109)
 rw [World.size_alloc] at hR
 have HM1 := hid (HM.out.below hb1)
 have HB1 := hid hb1
 generalize (w.alloc (.cells #[.int .i64 p.k, .int .i64 p.d, .int .i64 p.n, .int .u8 p.b] 37)).alloc (.cells #[.int .i64 0, .int .i64 0, .int .i64 0, .int .i64 0, .int .i64 0, .int .i64 0] 109) = W1 at *
 have hge := hid (show w.heap.size <= w.heap.size from Nat.le_refl _)
 generalize hPe : w.heap.size = P at *
 have HP := hid hP
 have HR := hid hR
 obtain ⟨⟨x0, x1', x2', x3⟩, _, hPl⟩ := four hP
 have hRl : P + 1 < W1.heap.size := lt_of_heap hR
 clear hP hR hb1 HM
 have HLN : Hid (∀ W' : World, Below W1.heap.size W1 W' -> Calls Tryz.prog 71 #[.pointer (some ⟨wb, 0, none⟩)] W' fun e w' => e = .returned (.int .i64 m.l.length) /\ W' = w') := hid fun W' hb => Wnd.len_any ((HM1.out.below hb).win)
 have HS : Hid (∀ W' : World, Below W1.heap.size W1 W' -> Below W1.heap.size W1 W' /\ (W'.cell? ⟨P, 0, none⟩ = some (.int .i64 p.k) /\ W'.cell? ⟨P, 1, none⟩ = some (.int .i64 p.d) /\ W'.cell? ⟨P, 2, none⟩ = some (.int .i64 p.n) /\ W'.cell? ⟨P, 3, none⟩ = some (.int .u8 p.b)) /\ (W'.cell? ⟨mo, 3, none⟩ = some (.int .i64 most) /\ W'.cell? ⟨mo, 4, none⟩ = some (.pointer (some ⟨wb, 0, none⟩))) /\ (W'.cell? ⟨mo, 5, none⟩ = some (.int .i64 m.r.a) /\ W'.cell? ⟨mo, 6, none⟩ = some (.int .i64 m.r.b) /\ W'.cell? ⟨mo, 7, none⟩ = some (.int .i64 m.r.c) /\ W'.cell? ⟨mo, 8, none⟩ = some (.int .i64 m.r.d))) :=
  hid fun W' hb => by
   obtain ⟨_, _, _, c3, c4, c5, c6, c7, c8, _, _⟩ := (HM1.out.below hb).cells
   exact ⟨hb, (four ((hb.block P hPl).trans HP.out)).1, ⟨c3, c4⟩, ⟨c5, c6, c7, c8⟩⟩
 obtain ⟨_, _, ⟨c3, c4⟩, ⟨c5, c6, c7, c8⟩⟩ := HS.out W1 (Below.refl _ _)
 go_cut [6, 7, 8, 9] (fun d' n' p' ok' wc => ∃ X, d' = .int .i64 x1 /\ n' = .int .i64 x2 /\ p' = .pointer (some ⟨X, 0, none⟩) /\ ok' = .bool okb /\ Fitted W1 wc X s)
 case first =>
  as_aux_lemma =>
  -- BEGIN first
  go_region_held3 (fun W' => Below W1.heap.size W1 W' /\ (W'.cell? ⟨P, 0, none⟩ = some (.int .i64 p.k) /\ W'.cell? ⟨P, 1, none⟩ = some (.int .i64 p.d) /\ W'.cell? ⟨P, 2, none⟩ = some (.int .i64 p.n) /\ W'.cell? ⟨P, 3, none⟩ = some (.int .u8 p.b)) /\ (W'.cell? ⟨mo, 3, none⟩ = some (.int .i64 most) /\ W'.cell? ⟨mo, 4, none⟩ = some (.pointer (some ⟨wb, 0, none⟩))) /\ (W'.cell? ⟨mo, 5, none⟩ = some (.int .i64 m.r.a) /\ W'.cell? ⟨mo, 6, none⟩ = some (.int .i64 m.r.b) /\ W'.cell? ⟨mo, 7, none⟩ = some (.int .i64 m.r.c) /\ W'.cell? ⟨mo, 8, none⟩ = some (.int .i64 m.r.d))) ((refine HS.out _ ?_; repeat (first | assumption | exact Below.refl _ _ | refine bel_drew ?_ | refine bel_alloc _ ?_ | (refine bel_set _ (by simp; omega) ?_) | (refine bel_set _ (by simp) ?_) | (refine bel_new (by assumption) ?_)))) (first | (go_at_call 71; (with_reducible refine (HLN.out _ (And.left (by assumption))).mono ?_); rintro x wl ⟨rfl, rfl⟩) | (go_at_call 25; (with_reducible refine (HF.out _).mono ?_); rintro x wf ⟨rfl, hbf⟩; have hzf := hbf.size; (try simp at hzf); (try have _t0 : W1.heap.size < wf.heap.size := by omega); (try (have _hk := alloc_kept2 hbf; obtain ⟨⟨_, _, _, _⟩, ⟨_, _, _, _⟩, _⟩ := four _hk))))
  all_goals
   go_wp2_with fail
   go_meet
   refine ⟨_, rfl, rfl, rfl, rfl, ?_⟩
   first
   | (with_reducible refine fitted_new ?_ s)
   | (with_reducible refine fitted_set (z0 := .int .i64 0) (z1 := .int .i64 0) (z2 := .int .i64 0) (z3 := .int .i64 0) ?_ ?_ ?_ s)
   all_goals (repeat (first | assumption | exact Nat.le_refl _ | exact Below.refl _ _ | refine bel_drew ?_ | refine bel_alloc _ ?_ | (refine bel_new (by assumption) ?_)))
  -- END first
 case rest =>
  obtain ⟨X, rfl, rfl, rfl, rfl, hfit⟩ := hcut
  obtain ⟨hfb, hXg, hX⟩ := hfit
  have HM2 := hid (HM1.out.below hfb)
  have HB2 := hid (HB1.out.trans (hfb.mono (by have := HB1.out.size; omega)))
  have hXl := lt_of_heap hX
  have hR2 := (hfb.block (P + 1) hRl).trans HR.out
  obtain ⟨⟨y0, y1, y2, y3⟩, _, _⟩ := four hX
  obtain ⟨_, _, _, m3, m4, _, _, _, _, _, _⟩ := HM2.out.cells
  have HZ := hid hR2
  obtain ⟨⟨z0, z1, z2, z3, z4, z5⟩, f0, f1, f2, f3, f4, f5⟩ := six hR2
  have hzl : P + 1 < wc.heap.size := lt_of_heap hR2
  have hne : X ≠ P + 1 := by omega
  have hml := HM2.out.blk.lt
  obtain ⟨L1, L2, L3⟩ := HLT.out
  have hmn : mo ≠ P + 1 := by omega
  have HK : Hid (∀ W' : World, Frame (fun j => j = P + 1) wc W' -> Frame (fun j => j = P + 1) wc W' /\ (W'.cell? ⟨X, 0, none⟩ = some (.int .i64 s.a) /\ W'.cell? ⟨X, 1, none⟩ = some (.int .i64 s.b) /\ W'.cell? ⟨X, 2, none⟩ = some (.int .i64 s.c) /\ W'.cell? ⟨X, 3, none⟩ = some (.int .i64 s.d)) /\ (W'.cell? ⟨mo, 3, none⟩ = some (.int .i64 most) /\ W'.cell? ⟨mo, 4, none⟩ = some (.pointer (some ⟨wb, 0, none⟩)))) := hid fun W' hb =>
   ⟨hb, ⟨(hb.cell hXl hne).trans y0, (hb.cell hXl hne).trans y1, (hb.cell hXl hne).trans y2, (hb.cell hXl hne).trans y3⟩, (hb.cell hml hmn).trans m3, (hb.cell hml hmn).trans m4⟩
  have HLN2 : Hid (∀ W' : World, Frame (fun j => j = P + 1) wc W' -> Calls Tryz.prog 71 #[.pointer (some ⟨wb, 0, none⟩)] W' fun e w' => e = .returned (.int .i64 m.l.length) /\ W' = w') := hid fun W' hb => Wnd.len_any (HM2.out.win.frame hb (fun j hj e => by
   subst e
   rcases hj with hj | hj
   · omega
   · have := L3 _ hj; omega))
  have HFB : Hid (∀ W' : World, Frame (fun j => j = P + 1) wc W' -> Below P w W') := hid fun W' hb => HB2.out.trans (hb.below (by omega) (fun k hk e => by omega))
  clear hR2 hX hfb HLN HS HF HM1 HP HR x0 x1' x2' x3 c3 c4 c5 c6 c7 c8 m3 m4 y0 y1 y2 y3 HM2 HB1 HB2 HLT L1 L2 L3 hml
  cases okb with
  | false =>
   as_aux_lemma =>
   have hq : p.fit (m.l.length : Int) m.r = none := by simpa using HOKB.out
   have HZF := hid (HFM.out hq)
   clear hq HFM HFS HD HOKB HLN2
   -- BEGIN none
   go_wp2_with fail
   refine wp_region_held_drew (S := (fun W' => Frame (fun j => j = P + 1) wc W' /\ (W'.cell? ⟨X, 0, none⟩ = some (.int .i64 s.a) /\ W'.cell? ⟨X, 1, none⟩ = some (.int .i64 s.b) /\ W'.cell? ⟨X, 2, none⟩ = some (.int .i64 s.c) /\ W'.cell? ⟨X, 3, none⟩ = some (.int .i64 s.d)) /\ (W'.cell? ⟨mo, 3, none⟩ = some (.int .i64 most) /\ W'.cell? ⟨mo, 4, none⟩ = some (.pointer (some ⟨wb, 0, none⟩))))) (by kernel_rfl) (HK.out _ (Frame.drew (Frame.refl _ _))) (fun hHeld => ?_)
   refine Tail.Lst.mk [0, 1, 2] ?_
   iterate 3 (refine Tail.Lst.takeH rfl (v := ?_) (Or.inl ⟨by rfl, ?_⟩) ?_; rotate_left; (next => intro w hSw; (try dsimp only at hSw); go_simp; (try with_reducible rfl)); simp only [Array.getInternal_eq_getElem, List.getElem_toArray, List.getElem_cons_zero, List.getElem_cons_succ]; simp only [Act.put, List.setIfInBounds_toArray, List.set_cons_zero, List.set_cons_succ])
   refine Tail.Lst.nil ?_
   refine wpAnyH_take (i := 3) (oi := ({ dst := some 32, op := Op.build 109 #[(0, Operand.tmp 29), (1, Operand.tmp 30), (2, Operand.tmp 31)], type := 109, pos := "model.go:123", after := #[{ on := 0, ground := Ground.data }, { on := 1, ground := Ground.data }, { on := 2, ground := Ground.data }], guard := none } : Oper)) (v := .agg #[.int .i64 x1, .int .i64 x2, .int .i64 s.a, .int .i64 s.b, .int .i64 s.c, .int .i64 s.d]) rfl (by kernel_rfl) (by kernel_rfl) (by kernel_rfl) (fun _ _ _ h => h) (Or.inl ⟨by rfl, fun w _ => build_step rfl rfl rfl rfl w⟩) (by assumption) ?_
   simp only [Array.getInternal_eq_getElem, List.getElem_toArray, List.getElem_cons_zero, List.getElem_cons_succ]
   simp only [Act.put, List.setIfInBounds_toArray, List.set_cons_zero, List.set_cons_succ]
   refine Tail.Lst.mk [4, 5, 6, 7, 8, 9, 10, 11, 12, 13, 14, 15, 16, 17, 18] ?_
   iterate 15 ((first | (refine Tail.Lst.takeH rfl (v := ?_) (Or.inl ⟨by rfl, ?_⟩) ?_; rotate_left; (next => intro w hSw; (try dsimp only at hSw); go_simp; (try with_reducible rfl))) | refine Tail.Lst.takeH rfl (Or.inr ⟨by rfl, rfl⟩) ?_); simp only [Array.getInternal_eq_getElem, List.getElem_toArray, List.getElem_cons_zero, List.getElem_cons_succ]; simp only [Act.put, List.setIfInBounds_toArray, List.set_cons_zero, List.set_cons_succ])
   refine Tail.Lst.nil ?_
   refine wpAnyH_ready (rs := [19]) (by kernel_rfl) (by simp) ?_
   refine AllReadyH.cons rfl (fun K hK => ?_) AllReadyH.nil
   go_simp
   obtain ⟨V, hV, ⟨v0, v1, v2, v3, v4, v5⟩, hfV⟩ := six_set HZ.out (.int .i64 x1) (.int .i64 x2) (.int .i64 s.a) (.int .i64 s.b) (.int .i64 s.c) (.int .i64 s.d)
   rw [hV]
   clear hV z0 z1 z2 z3 z4 z5 f0 f1 f2 f3 f4 f5
   have hfV' : Frame (fun j => j = P + 1) wc V := hfV
   refine hK.out _ _ (HK.out _ (Frame.drew hfV')) (fun hHeld2 => ?_)
   clear hK K hHeld hfV
   have hHeld := hHeld2
   clear hHeld2
   try simp only [Array.getInternal_eq_getElem, List.getElem_toArray, List.getElem_cons_zero, List.getElem_cons_succ]
   try simp only [Act.put, List.setIfInBounds_toArray, List.set_cons_zero, List.set_cons_succ]
   refine wpAnyH_ready (rs := [20]) (by kernel_rfl) (by simp) ?_
   refine AllReadyH.cons rfl (fun K hK => ?_) AllReadyH.nil
   go_simp
   refine hK.out _ _ (by exact hHeld) (fun hHeld2 => ?_)
   clear hK K hHeld
   have hHeld := hHeld2
   clear hHeld2
   try simp only [Array.getInternal_eq_getElem, List.getElem_toArray, List.getElem_cons_zero, List.getElem_cons_succ]
   try simp only [Act.put, List.setIfInBounds_toArray, List.set_cons_zero, List.set_cons_succ]
   refine wpAnyH_done (by kernel_rfl) ?_ _
   go_wp2_with fail
   have hBB := HFB.out _ (Frame.drew hfV')
   generalize hVd : V.drew = Vd at *
   have w0 : Vd.cell? ⟨P + 1, 0, none⟩ = some (.int .i64 x1) := by rw [<- hVd]; exact v0
   have w1 : Vd.cell? ⟨P + 1, 1, none⟩ = some (.int .i64 x2) := by rw [<- hVd]; exact v1
   have w2 : Vd.cell? ⟨P + 1, 2, none⟩ = some (.int .i64 s.a) := by rw [<- hVd]; exact v2
   have w3 : Vd.cell? ⟨P + 1, 3, none⟩ = some (.int .i64 s.b) := by rw [<- hVd]; exact v3
   have w4 : Vd.cell? ⟨P + 1, 4, none⟩ = some (.int .i64 s.c) := by rw [<- hVd]; exact v4
   have w5 : Vd.cell? ⟨P + 1, 5, none⟩ = some (.int .i64 s.d) := by rw [<- hVd]; exact v5
   clear hHeld v0 v1 v2 v3 v4 v5 hfV' HK HFB hVd HZ
   refine bodyPost_ret (v := .tuple #[.agg #[.int .i64 x1, .int .i64 x2, .int .i64 s.a, .int .i64 s.b, .int .i64 s.c, .int .i64 s.d], .bool false]) ?_ rfl ?_
   · simp [results, Tryz.results53, go_sem, w0, w1, w2, w3, w4, w5]
   · rw [HZF.out, hPe]
     exact ⟨rfl, hBB⟩
   -- END none
  | true =>
   as_aux_lemma =>
   obtain ⟨y, hq⟩ := Option.isSome_iff_exists.1 HOKB.out
   obtain rfl := HD.out y hq
   have HZF := hid (HFS.out _ hq)
   have HQ := hid hq
   clear hq HFM HFS HD HOKB
   -- BEGIN some
   have HWR := hid (show IntKind.i64.wrap (most - (m.l.length : Int)) = most - (m.l.length : Int) by rw [IntKind.wrap_i64]; omega)
   go_wp2_with fail
   refine wp_region_held_drew (S := (fun W' => Frame (fun j => j = P + 1) wc W' /\ (W'.cell? ⟨X, 0, none⟩ = some (.int .i64 s.a) /\ W'.cell? ⟨X, 1, none⟩ = some (.int .i64 s.b) /\ W'.cell? ⟨X, 2, none⟩ = some (.int .i64 s.c) /\ W'.cell? ⟨X, 3, none⟩ = some (.int .i64 s.d)) /\ (W'.cell? ⟨mo, 3, none⟩ = some (.int .i64 most) /\ W'.cell? ⟨mo, 4, none⟩ = some (.pointer (some ⟨wb, 0, none⟩))))) (by kernel_rfl) (HK.out _ (Frame.drew (Frame.refl _ _))) (fun hHeld => ?_)
   refine Tail.Lst.mk [0, 1, 2] ?_
   iterate 3 (refine Tail.Lst.takeH rfl (v := ?_) (Or.inl ⟨by rfl, ?_⟩) ?_; rotate_left; (next => intro w hSw; (try dsimp only at hSw); go_simp; (try with_reducible rfl)); simp only [Array.getInternal_eq_getElem, List.getElem_toArray, List.getElem_cons_zero, List.getElem_cons_succ]; simp only [Act.put, List.setIfInBounds_toArray, List.set_cons_zero, List.set_cons_succ])
   refine Tail.Lst.nil ?_
   refine wpAnyH_take (i := 3) (oi := ({ dst := some 32, op := Op.build 109 #[(0, Operand.tmp 29), (1, Operand.tmp 30), (2, Operand.tmp 31)], type := 109, pos := "model.go:123", after := #[{ on := 0, ground := Ground.data }, { on := 1, ground := Ground.data }, { on := 2, ground := Ground.data }], guard := none } : Oper)) (v := .agg #[.int .i64 x1, .int .i64 x2, .int .i64 s.a, .int .i64 s.b, .int .i64 s.c, .int .i64 s.d]) rfl (by kernel_rfl) (by kernel_rfl) (by kernel_rfl) (fun _ _ _ h => h) (Or.inl ⟨by rfl, fun w _ => build_step rfl rfl rfl rfl w⟩) (by assumption) ?_
   simp only [Array.getInternal_eq_getElem, List.getElem_toArray, List.getElem_cons_zero, List.getElem_cons_succ]
   simp only [Act.put, List.setIfInBounds_toArray, List.set_cons_zero, List.set_cons_succ]
   refine Tail.Lst.mk [4, 5, 6, 7, 8, 9, 10, 11, 12, 13, 14] ?_
   iterate 11 (refine Tail.Lst.takeH rfl (v := ?_) (Or.inl ⟨by rfl, ?_⟩) ?_; rotate_left; (next => intro w hSw; (try dsimp only at hSw); go_simp; (try with_reducible rfl)); try simp only [Array.getInternal_eq_getElem, List.getElem_toArray, List.getElem_cons_zero, List.getElem_cons_succ]; try simp only [Act.put, List.setIfInBounds_toArray, List.set_cons_zero, List.set_cons_succ])
   refine Tail.Lst.nil ?_
   refine wpAnyH_ready (rs := [15]) (by kernel_rfl) (by simp) ?_
   refine AllReadyH.cons rfl (fun K hK => ?_) AllReadyH.nil
   go_simp
   go_at_call 71
   refine (HLN2.out _ hHeld.1).mono ?_
   rintro x wl ⟨rfl, hwl⟩
   subst hwl
   refine hK.out _ _ (by exact hHeld) (fun hHeld2 => ?_)
   clear hK K hHeld
   have hHeld := hHeld2
   clear hHeld2
   try simp only [Array.getInternal_eq_getElem, List.getElem_toArray, List.getElem_cons_zero, List.getElem_cons_succ]
   try simp only [Act.put, List.setIfInBounds_toArray, List.set_cons_zero, List.set_cons_succ]
   refine Tail.Lst.mk [16, 17, 18] ?_
   iterate 3 (refine Tail.Lst.takeH rfl (v := ?_) (Or.inl ⟨by rfl, ?_⟩) ?_; rotate_left; (next => intro w hSw; (try dsimp only at hSw); go_simp; (try with_reducible rfl)); try simp only [Array.getInternal_eq_getElem, List.getElem_toArray, List.getElem_cons_zero, List.getElem_cons_succ]; try simp only [Act.put, List.setIfInBounds_toArray, List.set_cons_zero, List.set_cons_succ])
   refine Tail.Lst.nil ?_
   refine wpAnyH_ready (rs := [19]) (by kernel_rfl) (by simp) ?_
   refine AllReadyH.cons rfl (fun K hK => ?_) AllReadyH.nil
   go_simp
   obtain ⟨V, hV, ⟨v0, v1, v2, v3, v4, v5⟩, hfV⟩ := six_set HZ.out (.int .i64 x1) (.int .i64 x2) (.int .i64 s.a) (.int .i64 s.b) (.int .i64 s.c) (.int .i64 s.d)
   rw [hV]
   clear hV z0 z1 z2 z3 z4 z5 f0 f1 f2 f3 f4 f5
   have hfV' : Frame (fun j => j = P + 1) wc V := hfV
   refine hK.out _ _ (HK.out _ (Frame.drew hfV')) (fun hHeld2 => ?_)
   clear hK K hHeld hfV
   have hHeld := hHeld2
   clear hHeld2
   try simp only [Array.getInternal_eq_getElem, List.getElem_toArray, List.getElem_cons_zero, List.getElem_cons_succ]
   try simp only [Act.put, List.setIfInBounds_toArray, List.set_cons_zero, List.set_cons_succ]
   refine wpAnyH_ready (rs := [20]) (by kernel_rfl) (by simp) ?_
   refine AllReadyH.cons rfl (fun K hK => ?_) AllReadyH.nil
   go_simp
   refine hK.out _ _ (by exact hHeld) (fun hHeld2 => ?_)
   clear hK K hHeld
   have hHeld := hHeld2
   clear hHeld2
   try simp only [Array.getInternal_eq_getElem, List.getElem_toArray, List.getElem_cons_zero, List.getElem_cons_succ]
   try simp only [Act.put, List.setIfInBounds_toArray, List.set_cons_zero, List.set_cons_succ]
   refine wpAnyH_done (by kernel_rfl) ?_ _
   go_wp2_with fail
   have hBB := HFB.out _ (Frame.drew hfV')
   generalize hVd : V.drew = Vd at *
   have w0 : Vd.cell? ⟨P + 1, 0, none⟩ = some (.int .i64 x1) := by rw [<- hVd]; exact v0
   have w1 : Vd.cell? ⟨P + 1, 1, none⟩ = some (.int .i64 x2) := by rw [<- hVd]; exact v1
   have w2 : Vd.cell? ⟨P + 1, 2, none⟩ = some (.int .i64 s.a) := by rw [<- hVd]; exact v2
   have w3 : Vd.cell? ⟨P + 1, 3, none⟩ = some (.int .i64 s.b) := by rw [<- hVd]; exact v3
   have w4 : Vd.cell? ⟨P + 1, 4, none⟩ = some (.int .i64 s.c) := by rw [<- hVd]; exact v4
   have w5 : Vd.cell? ⟨P + 1, 5, none⟩ = some (.int .i64 s.d) := by rw [<- hVd]; exact v5
   clear hHeld v0 v1 v2 v3 v4 v5 hfV' HK HFB hVd HZ
   refine bodyPost_ret (v := .tuple #[.agg #[.int .i64 x1, .int .i64 x2, .int .i64 s.a, .int .i64 s.b, .int .i64 s.c, .int .i64 s.d], .bool (decide (x2 <= most - (m.l.length : Int)))]) ?_ rfl ?_
   · simp [results, Tryz.results53, go_sem, w0, w1, w2, w3, w4, w5, HWR.out]
   · rw [HZF.out, hPe]
     exact ⟨rfl, hBB⟩
   -- END some
end
end Go.Proofs.YtfpoabeihpfeiaaGreat.Mo
