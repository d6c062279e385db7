/-
  Package model: a packet as bits: the objects of code, and the contract of code for each kind of packet, put.
-/
import Derived.Test.YtfpoabeihpfeiaaGreatPk16
import Derived.Test.YtfpoabeihpfeiaaGreatPk17
import Derived.Test.YtfpoabeihpfeiaaGreatPk18
import Derived.Test.YtfpoabeihpfeiaaGreatPk19
import Derived.Test.YtfpoabeihpfeiaaGreatPk20

set_option maxRecDepth 100000
set_option maxHeartbeats 16000000
set_option linter.unusedVariables false
set_option linter.unusedSimpArgs false
namespace Go.Proofs.YtfpoabeihpfeiaaGreat.Mo
open Go.RowKit
open Rc
open Pk (Rp Pt)
open Wnd (Win)
structure CodeD (w0 : World) (O0 : Paint) (c cm cw f a tot k gb cap nb mo wb wm : Nat) (most : Int) (v : Value) (tb : Nat -> Nat -> Nat) (m : Ms) (p : Pt) (d : Ds) (w : World) (O : Paint) : Prop where
 step : Step [c, cm] w0 O0 w O
 dec : DecS w O c cm a tot k gb cap nb tb d
 mod : ModAt w O cw mo wb v m.lc m.lp m.pb most wm m.l m.r m.st k
 hp : Blk w O f w0.heap.size (.cells #[.int .i64 p.k, .int .i64 p.d, .int .i64 p.n, .int .u8 p.b] 37 (0, 0))
 hz : Blk w O f (w0.heap.size + 1) (.cells #[.int .i64 0, .int .i64 0, .int .i64 0, .int .u8 0] 37 (0, 0))
 fne : f ≠ c /\ f ≠ cm /\ cw ≠ c /\ cw ≠ cm
variable {w0 w w' : World} {O0 O O' : Paint} {c cm cw f a k gb cap nb mo wb wm : Nat} {most : Int} {v : Value} {tb : Nat -> Nat -> Nat} {m : Ms} {p : Pt} {d d' : Ds}
structure CodeE (w0 : World) (O0 : Paint) (c cm cw f a k gb cap nb mo wb wm : Nat) (most : Int) (v : Value) (tb : Nat -> Nat -> Nat) (m : Ms) (p : Pt) (s : Es) (w : World) (O : Paint) : Prop where
 step : Step [c, cm] w0 O0 w O
 enc : EncS w O c cm a k gb cap nb tb s
 mod : ModAt w O cw mo wb v m.lc m.lp m.pb most wm m.l m.r m.st k
 hp : Blk w O f w0.heap.size (.cells #[.int .i64 p.k, .int .i64 p.d, .int .i64 p.n, .int .u8 p.b] 37 (0, 0))
 hz : Blk w O f (w0.heap.size + 1) (.cells #[.int .i64 0, .int .i64 0, .int .i64 0, .int .u8 0] 37 (0, 0))
 fne : f ≠ c /\ f ≠ cm /\ cw ≠ c /\ cw ≠ cm
section
variable {w0 w w' : World} {O0 O O' : Paint} {c cm cw f a k gb cap nb mo wb wm : Nat} {most : Int} {v : Value} {tb : Nat -> Nat -> Nat} {m : Ms} {p : Pt} {s s' : Es} {d d' : Ds} {tot : Nat}
theorem CodeE.next (h : CodeE w0 O0 c cm cw f a k gb cap nb mo wb wm most v tb m p s w O) (hs : Step [c, cm] w O w' O') (he : EncS w' O' c cm a k gb cap nb tb s') : CodeE w0 O0 c cm cw f a k gb cap nb mo wb wm most v tb m p s' w' O' := by
 obtain ⟨h1, h2, h3, h4⟩ := h.fne
 exact ⟨h.step.trans hs, he, h.mod.step hs (by simp; exact ⟨h3, h4⟩), h.hp.step hs (by simp; exact ⟨h1, h2⟩), h.hz.step hs (by simp; exact ⟨h1, h2⟩), h.fne⟩
theorem CodeE.drewN (h : CodeE w0 O0 c cm cw f a k gb cap nb mo wb wm most v tb m p s w O) (n : Nat) : CodeE w0 O0 c cm cw f a k gb cap nb mo wb wm most v tb m p s (w.drewN n) O := h.next ((Step.refl _ w O).drewN n) (h.enc.drewN n)
theorem CodeE.drew (h : CodeE w0 O0 c cm cw f a k gb cap nb mo wb wm most v tb m p s w O) : CodeE w0 O0 c cm cw f a k gb cap nb mo wb wm most v tb m p s w.drew O := h.next ((Step.refl _ w O).drew) h.enc.drew
theorem codeE_new (hm : ModAt w0 O0 cw mo wb v m.lc m.lp m.pb most wm m.l m.r m.st k) (h : EncS w0 O0 c cm a k gb cap nb tb s) (h1 : cw ≠ c) (h2 : cw ≠ cm) (p : Pt) :
  ∃ f O, CodeE w0 O0 c cm cw f a k gb cap nb mo wb wm most v tb m p s ((w0.alloc (.cells #[.int .i64 p.k, .int .i64 p.d, .int .i64 p.n, .int .u8 p.b] 37)).alloc (.cells #[.int .i64 0, .int .i64 0, .int .i64 0, .int .u8 0] 37)) O := by
 obtain ⟨f, f1, f2, _⟩ := fresh O0 w0.heap.size c cm
 have hb : Below w0.heap.size w0 ((w0.alloc (.cells #[.int .i64 p.k, .int .i64 p.d, .int .i64 p.n, .int .u8 p.b] 37)).alloc (.cells #[.int .i64 0, .int .i64 0, .int .i64 0, .int .u8 0] 37)) := (box_below w0 _).alloc (by simp) _
 have hs := Step.of_below hb O0 f
 have e2 := heap_alloc_new (w0.alloc (.cells #[.int .i64 p.k, .int .i64 p.d, .int .i64 p.n, .int .u8 p.b] 37)) (.cells #[.int .i64 0, .int .i64 0, .int .i64 0, .int .u8 0] 37)
 rw [World.size_alloc] at e2
 refine ⟨f, Step.paint O0 w0 f, hs.nil, h.step hs (by simp) (by simp), hm.step hs (by simp), ⟨?_, Step.paint_new (Nat.le_refl _)⟩, ⟨e2, Step.paint_new (by omega)⟩, f1, f2, h1, h2⟩
 rw [Below.heap_alloc _ _ _ (by simp)]
 exact heap_alloc_new w0 _
theorem four_i {w : World} {O : Paint} {f X : Nat} {x0 x1 x2 x3 : Value} {t : TypeId} (h : Blk w O f X (.cells #[x0, x1, x2, x3] t (0, 0))) : w.cell? ⟨X, 0, none⟩ = some x0 /\ w.cell? ⟨X, 1, none⟩ = some x1 /\ w.cell? ⟨X, 2, none⟩ = some x2 /\ w.cell? ⟨X, 3, none⟩ = some x3 := by
 refine ⟨?_, ?_, ?_, ?_⟩ <;> simp [World.cell?, h.1]
theorem CodeE.done (h : CodeE w0 O0 c cm cw f a k gb cap nb mo wb wm most v tb m p s w O) (x0 x1 x2 x3 : Value) :
  ∃ W, (((w.setCell ⟨w0.heap.size + 1, 0, none⟩ x0).setCell ⟨w0.heap.size + 1, 1, none⟩ x1).setCell ⟨w0.heap.size + 1, 2, none⟩ x2).setCell ⟨w0.heap.size + 1, 3, none⟩ x3 = W /\ W.heap[w0.heap.size + 1]? = some (.cells #[x0, x1, x2, x3] 37 (0, 0)) /\ Step [c, cm] w0 O0 W O /\ EncS W O c cm a k gb cap nb tb s := by
 obtain ⟨h1, h2, h3, h4⟩ := h.fne
 refine ⟨_, rfl, ?_, ?_, ?_⟩
 · have a1 := heap_setCell_same w _ 0 _ _ x0 h.hz.1
   have a2 := heap_setCell_same _ _ 1 _ _ x1 a1
   have a3 := heap_setCell_same _ _ 2 _ _ x2 a2
   have a4 := heap_setCell_same _ _ 3 _ _ x3 a3
   simpa using a4
 · exact (((h.step.setCell (p := ⟨w0.heap.size + 1, 0, none⟩) (.inr (by simp)) x0).setCell (p := ⟨w0.heap.size + 1, 1, none⟩) (.inr (by simp)) x1).setCell (p := ⟨w0.heap.size + 1, 2, none⟩) (.inr (by simp)) x2).setCell (p := ⟨w0.heap.size + 1, 3, none⟩) (.inr (by simp)) x3
 · have hs : Step [f] w O ((((w.setCell ⟨w0.heap.size + 1, 0, none⟩ x0).setCell ⟨w0.heap.size + 1, 1, none⟩ x1).setCell ⟨w0.heap.size + 1, 2, none⟩ x2).setCell ⟨w0.heap.size + 1, 3, none⟩ x3) O :=
    ((((Step.refl [f] w O).setCell (p := ⟨w0.heap.size + 1, 0, none⟩) (.inl (by simp [h.hz.2])) x0).setCell (p := ⟨w0.heap.size + 1, 1, none⟩) (.inl (by simp [h.hz.2])) x1).setCell (p := ⟨w0.heap.size + 1, 2, none⟩) (.inl (by simp [h.hz.2])) x2).setCell (p := ⟨w0.heap.size + 1, 3, none⟩) (.inl (by simp [h.hz.2])) x3
   exact h.enc.step hs (by simp; exact Ne.symm h1) (by simp; exact Ne.symm h2)
theorem CodeD.next (h : CodeD w0 O0 c cm cw f a tot k gb cap nb mo wb wm most v tb m p d w O) (hs : Step [c, cm] w O w' O') (he : DecS w' O' c cm a tot k gb cap nb tb d') : CodeD w0 O0 c cm cw f a tot k gb cap nb mo wb wm most v tb m p d' w' O' := by
 obtain ⟨h1, h2, h3, h4⟩ := h.fne
 exact ⟨h.step.trans hs, he, h.mod.step hs (by simp; exact ⟨h3, h4⟩), h.hp.step hs (by simp; exact ⟨h1, h2⟩), h.hz.step hs (by simp; exact ⟨h1, h2⟩), h.fne⟩
theorem CodeD.drewN (h : CodeD w0 O0 c cm cw f a tot k gb cap nb mo wb wm most v tb m p d w O) (n : Nat) : CodeD w0 O0 c cm cw f a tot k gb cap nb mo wb wm most v tb m p d (w.drewN n) O := h.next ((Step.refl _ w O).drewN n) (h.dec.drewN n)
theorem CodeD.drew (h : CodeD w0 O0 c cm cw f a tot k gb cap nb mo wb wm most v tb m p d w O) : CodeD w0 O0 c cm cw f a tot k gb cap nb mo wb wm most v tb m p d w.drew O := h.next ((Step.refl _ w O).drew) h.dec.drew
theorem codeD_new (hm : ModAt w0 O0 cw mo wb v m.lc m.lp m.pb most wm m.l m.r m.st k) (h : DecS w0 O0 c cm a tot k gb cap nb tb d) (h1 : cw ≠ c) (h2 : cw ≠ cm) (p : Pt) :
  ∃ f O, CodeD w0 O0 c cm cw f a tot k gb cap nb mo wb wm most v tb m p d ((w0.alloc (.cells #[.int .i64 p.k, .int .i64 p.d, .int .i64 p.n, .int .u8 p.b] 37)).alloc (.cells #[.int .i64 0, .int .i64 0, .int .i64 0, .int .u8 0] 37)) O := by
 obtain ⟨f, f1, f2, _⟩ := fresh O0 w0.heap.size c cm
 have hb : Below w0.heap.size w0 ((w0.alloc (.cells #[.int .i64 p.k, .int .i64 p.d, .int .i64 p.n, .int .u8 p.b] 37)).alloc (.cells #[.int .i64 0, .int .i64 0, .int .i64 0, .int .u8 0] 37)) := (box_below w0 _).alloc (by simp) _
 have hs := Step.of_below hb O0 f
 have e2 := heap_alloc_new (w0.alloc (.cells #[.int .i64 p.k, .int .i64 p.d, .int .i64 p.n, .int .u8 p.b] 37)) (.cells #[.int .i64 0, .int .i64 0, .int .i64 0, .int .u8 0] 37)
 rw [World.size_alloc] at e2
 refine ⟨f, Step.paint O0 w0 f, hs.nil, h.step hs (by simp) (by simp), hm.step hs (by simp), ⟨?_, Step.paint_new (Nat.le_refl _)⟩, ⟨e2, Step.paint_new (by omega)⟩, f1, f2, h1, h2⟩
 rw [Below.heap_alloc _ _ _ (by simp)]
 exact heap_alloc_new w0 _
theorem CodeD.done (h : CodeD w0 O0 c cm cw f a tot k gb cap nb mo wb wm most v tb m p d w O) (x0 x1 x2 x3 : Value) :
  ∃ W, (((w.setCell ⟨w0.heap.size + 1, 0, none⟩ x0).setCell ⟨w0.heap.size + 1, 1, none⟩ x1).setCell ⟨w0.heap.size + 1, 2, none⟩ x2).setCell ⟨w0.heap.size + 1, 3, none⟩ x3 = W /\ W.heap[w0.heap.size + 1]? = some (.cells #[x0, x1, x2, x3] 37 (0, 0)) /\ Step [c, cm] w0 O0 W O /\ DecS W O c cm a tot k gb cap nb tb d := by
 obtain ⟨h1, h2, h3, h4⟩ := h.fne
 refine ⟨_, rfl, ?_, ?_, ?_⟩
 · have a1 := heap_setCell_same w _ 0 _ _ x0 h.hz.1
   have a2 := heap_setCell_same _ _ 1 _ _ x1 a1
   have a3 := heap_setCell_same _ _ 2 _ _ x2 a2
   have a4 := heap_setCell_same _ _ 3 _ _ x3 a3
   simpa using a4
 · exact (((h.step.setCell (p := ⟨w0.heap.size + 1, 0, none⟩) (.inr (by simp)) x0).setCell (p := ⟨w0.heap.size + 1, 1, none⟩) (.inr (by simp)) x1).setCell (p := ⟨w0.heap.size + 1, 2, none⟩) (.inr (by simp)) x2).setCell (p := ⟨w0.heap.size + 1, 3, none⟩) (.inr (by simp)) x3
 · have hs : Step [f] w O ((((w.setCell ⟨w0.heap.size + 1, 0, none⟩ x0).setCell ⟨w0.heap.size + 1, 1, none⟩ x1).setCell ⟨w0.heap.size + 1, 2, none⟩ x2).setCell ⟨w0.heap.size + 1, 3, none⟩ x3) O :=
    ((((Step.refl [f] w O).setCell (p := ⟨w0.heap.size + 1, 0, none⟩) (.inl (by simp [h.hz.2])) x0).setCell (p := ⟨w0.heap.size + 1, 1, none⟩) (.inl (by simp [h.hz.2])) x1).setCell (p := ⟨w0.heap.size + 1, 2, none⟩) (.inl (by simp [h.hz.2])) x2).setCell (p := ⟨w0.heap.size + 1, 3, none⟩) (.inl (by simp [h.hz.2])) x3
   exact h.dec.step hs (by simp; exact Ne.symm h1) (by simp; exact Ne.symm h2)
theorem keep_four {W : World} {X : Nat} {x0 x1 x2 x3 y0 y1 y2 y3 : Value} (h : W.cell? ⟨X, 0, none⟩ = some x0 /\ W.cell? ⟨X, 1, none⟩ = some x1 /\ W.cell? ⟨X, 2, none⟩ = some x2 /\ W.cell? ⟨X, 3, none⟩ = some x3) :
  ((((W.setCell ⟨X + 1, 0, none⟩ y0).setCell ⟨X + 1, 1, none⟩ y1).setCell ⟨X + 1, 2, none⟩ y2).setCell ⟨X + 1, 3, none⟩ y3).cell? ⟨X, 0, none⟩ = some x0 /\ ((((W.setCell ⟨X + 1, 0, none⟩ y0).setCell ⟨X + 1, 1, none⟩ y1).setCell ⟨X + 1, 2, none⟩ y2).setCell ⟨X + 1, 3, none⟩ y3).cell? ⟨X, 1, none⟩ = some x1 /\ ((((W.setCell ⟨X + 1, 0, none⟩ y0).setCell ⟨X + 1, 1, none⟩ y1).setCell ⟨X + 1, 2, none⟩ y2).setCell ⟨X + 1, 3, none⟩ y3).cell? ⟨X, 2, none⟩ = some x2 /\ ((((W.setCell ⟨X + 1, 0, none⟩ y0).setCell ⟨X + 1, 1, none⟩ y1).setCell ⟨X + 1, 2, none⟩ y2).setCell ⟨X + 1, 3, none⟩ y3).cell? ⟨X, 3, none⟩ = some x3 := by
 refine ⟨?_, ?_, ?_, ?_⟩ <;> rw [Pk.set_keep (by omega)]
 · exact h.1
 · exact h.2.1
 · exact h.2.2.1
 · exact h.2.2.2
variable {st : Nat}
theorem dist_enc (h : EncS w O c cm a k gb cap nb tb s) (ht : s.e.turns <= 700000) (ln : Int) (hl0 : -9223372036854775808 <= ln) (hl1 : ln <= 9223372036854775807) (cl : Nat) (hcl : min (max ln 2) 5 - 2 = (cl : Int)) (dist : Int) (v : Nat) (hv : v < 4294967296)
  (e0 : IntKind.i64.wrap (dist - 1) = dist - 1) (e1 : IntKind.u32.wrap (dist - 1) = (v : Int)) :
  Calls Tryz.prog 76 #[.pointer (some ⟨k, 503, none⟩), .iface 114 (.agg #[.pointer (some ⟨a, 0, none⟩)]), .int .i64 ln, .int .i64 dist] w (EncTo w O c cm a k gb cap nb tb (s.dist cl v) (.int .i64 (((v + 1) % 4294967296 : Nat) : Int))) := by
 by_cases h14 : St.slot v < 14
 · exact dist_enc_near h ht ln hl0 hl1 cl hcl dist v hv e0 e1 h14
 · exact dist_enc_far h ht ln hl0 hl1 cl hcl dist v hv e0 e1 h14
theorem dist_dec (h : DecS w O c cm a tot k gb cap nb tb d) (ln : Int) (hl0 : -9223372036854775808 <= ln) (hl1 : ln <= 9223372036854775807) (cl : Nat) (hcl : min (max ln 2) 5 - 2 = (cl : Int)) :
  Calls Tryz.prog 76 #[.pointer (some ⟨k, 503, none⟩), .iface 193 (.agg #[.pointer (some ⟨a, 0, none⟩)]), .int .i64 ln, .int .i64 0] w (DecTo w O c cm a tot k gb cap nb tb (d.dist cl) (.int .i64 (((d.distV cl + 1) % 4294967296 : Nat) : Int))) := by
 by_cases h14 : d.slotV cl < 14
 · exact dist_dec_near h ln hl0 hl1 cl hcl h14
 · exact dist_dec_far h ln hl0 hl1 cl hcl h14
theorem rep_enc (hm : ModAt w O cw mo wb v m.lc m.lp m.pb most wm m.l m.r m.st k) (hst : m.st < 12) (h1 : cw ≠ c) (h2 : cw ≠ cm) (h : EncS w O c cm a k gb cap nb tb s) (ht : s.e.turns <= 700000) {i : Nat} (hi : i < 4) :
  Calls Tryz.prog 77 #[.pointer (some ⟨mo, 0, none⟩), .iface 114 (.agg #[.pointer (some ⟨a, 0, none⟩)]), .int .i64 i] w (EncTo w O c cm a k gb cap nb tb (s.rep m.st i) (.int .i64 i)) := by
 have hc : i = 0 \/ i = 1 \/ i = 2 \/ i = 3 := by omega
 rcases hc with rfl | rfl | rfl | rfl
 · exact rep_enc0 hm hst h1 h2 h ht
 · exact rep_enc1 hm hst h1 h2 h ht
 · exact rep_enc2 hm hst h1 h2 h ht
 · exact rep_enc3 hm hst h1 h2 h ht
theorem rep_dec (hm : ModAt w O cw mo wb v m.lc m.lp m.pb most wm m.l m.r m.st k) (hst : m.st < 12) (h1 : cw ≠ c) (h2 : cw ≠ cm) (h : DecS w O c cm a tot k gb cap nb tb d) :
  Calls Tryz.prog 77 #[.pointer (some ⟨mo, 0, none⟩), .iface 193 (.agg #[.pointer (some ⟨a, 0, none⟩)]), .int .i64 0] w (DecTo w O c cm a tot k gb cap nb tb (d.rep m.st) (.int .i64 (d.repV m.st : Int))) := by
 have l1 := d.bit_le 3 m.st 0
 have l2 := (d.one 3 m.st 0).bit_le 5 m.st 0
 by_cases b0 : d.bit 3 m.st 0 = 0
 · have e : d.repV m.st = 0 := by unfold Ds.repV; rw [if_pos b0]
   rw [e]
   exact rep_dec0 hm hst h1 h2 h b0
 · by_cases b1 : (d.one 3 m.st 0).bit 5 m.st 0 = 0
   · have e : d.repV m.st = 1 := by unfold Ds.repV; rw [if_neg b0, if_pos b1]
     rw [e]
     exact rep_dec1 hm hst h1 h2 h (by omega) b1
   · exact rep_dec2 hm hst h1 h2 h (by omega) (by omega)
theorem lenV_le (h : d.Ok) {u : Nat} (hu : u <= 1) (P : Nat) : d.lenV u P <= 271 := by
 have o1 := h.one (200 + u) 0 0
 have o2 := o1.one (200 + u) 1 0
 unfold Ds.lenV
 split
 · have := (o1.num (210 + u) P (n := 3) (by rcases (show u = 0 \/ u = 1 by omega) with rfl | rfl <;> exact Nat.le_refl _)).2
   omega
 · split
   · have := (o2.num (220 + u) P (n := 3) (by rcases (show u = 0 \/ u = 1 by omega) with rfl | rfl <;> exact Nat.le_refl _)).2
     omega
   · have := (o2.num (230 + u) 0 (n := 8) (by rcases (show u = 0 \/ u = 1 by omega) with rfl | rfl <;> exact Nat.le_refl _)).2
     omega
theorem repV_lt (d : Ds) (st : Nat) : d.repV st < 4 := by
 have := ((d.one 3 st 0).one 5 st 0).bit_le 6 st 0
 unfold Ds.repV
 split
 · omega
 · split <;> omega
end
end Go.Proofs.YtfpoabeihpfeiaaGreat.Mo
