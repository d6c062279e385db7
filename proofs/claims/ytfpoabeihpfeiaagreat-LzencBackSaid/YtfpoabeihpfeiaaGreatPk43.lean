/-
  The reference of layer 6: contract of Back, by what fits.
  The document's model of layer 10: what Put holds on its way (the encoder, the packet, the result's place).
-/
import Derived.Test.YtfpoabeihpfeiaaGreatPk28
import Derived.Test.YtfpoabeihpfeiaaGreatPk38
import Derived.Test.YtfpoabeihpfeiaaGreatPk39
import Derived.Test.YtfpoabeihpfeiaaGreatPk41
import Derived.Test.YtfpoabeihpfeiaaGreatPk42
import Derived.Laws.BytesArg
import Derived.Laws.IdiomStrings
set_option maxRecDepth 100000
set_option maxHeartbeats 16000000
set_option linter.unusedVariables false
set_option linter.unusedSimpArgs false
section
namespace Go.Proofs.YtfpoabeihpfeiaaGreat.Pk
open Go.RowKit
def BackFit (w : World) (f : Option (Int × Int × Rp)) (x : Ending) (w' : World) : Prop := ∃ d n s, BackTo w d n s f.isSome x w' /\ ∀ y, f = some y -> y = (d, n, s)
theorem back_none {w : World} {P : Program} {fn : FuncId} {args : Array Value} {d n : Int} {s : Rp} {f : Option (Int × Int × Rp)} (hf : f = none) (h : Calls P fn args w (BackTo w d n s false)) : Calls P fn args w (BackFit w f) := by
 subst hf
 exact h.mono fun x w' hx => ⟨d, n, s, hx, fun y hy => by cases hy⟩
theorem back_some {w : World} {P : Program} {fn : FuncId} {args : Array Value} {d n : Int} {s : Rp} {f : Option (Int × Int × Rp)} (hf : f = some (d, n, s)) (h : Calls P fn args w (BackTo w d n s true)) : Calls P fn args w (BackFit w f) := by
 subst hf
 exact h.mono fun x w' hx => ⟨d, n, s, hx, fun y hy => by cases hy; rfl⟩
theorem fit_match_no {d n hv : Int} {r : Rp} (hp : (⟨2, d, n, 0⟩ : Pt).plain = true) (h : ¬ (1 <= d /\ d <= min hv 1048576 /\ lenB n = true)) : (⟨2, d, n, 0⟩ : Pt).fit hv r = none := by
 unfold Pt.fit
 rw [hp, if_neg (by simp)]
 simp only
 rw [if_neg (by omega), if_pos trivial, if_neg h]
theorem fit_rep_no {d n hv : Int} {r : Rp} (hp : (⟨3, d, n, 0⟩ : Pt).plain = true) (h : ¬ ((0 <= d /\ d < 4) /\ r.at d <= hv /\ lenB n = true)) : (⟨3, d, n, 0⟩ : Pt).fit hv r = none := by
 unfold Pt.fit
 rw [hp, if_neg (by simp)]
 simp only
 rw [if_neg (by omega), if_neg (by omega), if_pos trivial, if_neg h]
theorem back_fit (p : Pt) (hv : Int) (r : Rp) (w : World) (hk : p.k ≠ 1) :
  Calls Tryz.prog 15 #[.agg #[.int .i64 p.k, .int .i64 p.d, .int .i64 p.n, .int .u8 p.b], .int .i64 hv, .agg #[.int .i64 r.a, .int .i64 r.b, .int .i64 r.c, .int .i64 r.d]] w (BackFit w (p.fit hv r)) := by
 obtain ⟨k, d, n, b⟩ := p
 obtain ⟨r0, r1, r2, r3⟩ := r
 simp only at hk ⊢
 by_cases hb : b = 0
 · subst hb
   have b0 : (((0 : Nat) : Int) != 0) = false := by decide
   by_cases h2 : k = 2
   · subst h2
     have hp : (⟨2, d, n, 0⟩ : Pt).plain = true := by simp [Pt.plain]
     by_cases c1 : 1 <= d
     · by_cases c2 : d <= hv
       · by_cases c3 : d <= 1048576
         · by_cases c4 : 2 <= n
           · by_cases c5 : n <= 273
             · refine back_some ?_ (back_match5 d n 0 hv r0 r1 r2 r3 w b0 (by simpa using c1) (by simpa using c2) (by simpa using c3) (by simpa using c4) (by simpa using c5))
               have hc : 1 <= d /\ d <= min hv 1048576 /\ lenB n = true := ⟨c1, by omega, by unfold lenB; simp; omega⟩
               unfold Pt.fit
               rw [hp, if_neg (by simp)]
               simp only
               rw [if_neg (by omega), if_pos trivial, if_pos hc]
               rfl
             · exact back_none (fit_match_no hp (by unfold lenB; simp; omega)) (back_match4 d n 0 hv r0 r1 r2 r3 w b0 (by simpa using c1) (by simpa using c2) (by simpa using c3) (by simpa using c4) (by simpa using c5))
           · exact back_none (fit_match_no hp (by unfold lenB; simp; omega)) (back_match3 d n 0 hv r0 r1 r2 r3 w b0 (by simpa using c1) (by simpa using c2) (by simpa using c3) (by simpa using c4))
         · exact back_none (fit_match_no hp (by omega)) (back_match2 d n 0 hv r0 r1 r2 r3 w b0 (by simpa using c1) (by simpa using c2) (by simpa using c3))
       · exact back_none (fit_match_no hp (by omega)) (back_match1 d n 0 hv r0 r1 r2 r3 w b0 (by simpa using c1) (by simpa using c2))
     · exact back_none (fit_match_no hp (by omega)) (back_match0 d n 0 hv r0 r1 r2 r3 w b0 (by simpa using c1))
   · by_cases h3 : k = 3
     · subst h3
       have hp : (⟨3, d, n, 0⟩ : Pt).plain = true := by simp [Pt.plain]
       by_cases e0 : d < 0
       · exact back_none (fit_rep_no hp (by omega)) (back_low d n 0 hv r0 r1 r2 r3 w b0 (by simpa using e0))
       · by_cases e4 : 3 < d
         · exact back_none (fit_rep_no hp (by omega)) (back_high d n 0 hv r0 r1 r2 r3 w b0 (by simpa using e0) (by simpa using e4))
         · by_cases c1 : (⟨r0, r1, r2, r3⟩ : Rp).at d <= hv
           · by_cases c2 : 2 <= n
             · by_cases c3 : n <= 273
               · refine back_some ?_ (back_rep3 d n 0 hv r0 r1 r2 r3 w b0 (by omega) (by omega) _ rfl _ rfl (by simpa using c1) (by simpa using c2) (by simpa using c3))
                 have hc : (0 <= d /\ d < 4) /\ (⟨r0, r1, r2, r3⟩ : Rp).at d <= hv /\ lenB n = true := ⟨by omega, c1, by unfold lenB; simp; omega⟩
                 unfold Pt.fit
                 rw [hp, if_neg (by simp)]
                 simp only
                 rw [if_neg (by omega), if_neg (by omega), if_pos trivial, if_pos hc]
               · exact back_none (fit_rep_no hp (by unfold lenB; simp; omega)) (back_rep2 d n 0 hv r0 r1 r2 r3 w b0 (by omega) (by omega) _ rfl _ rfl (by simpa using c1) (by simpa using c2) (by simpa using c3))
             · exact back_none (fit_rep_no hp (by unfold lenB; simp; omega)) (back_rep1 d n 0 hv r0 r1 r2 r3 w b0 (by omega) (by omega) _ rfl _ rfl (by simpa using c1) (by simpa using c2))
           · exact back_none (fit_rep_no hp (by omega)) (back_rep0 d n 0 hv r0 r1 r2 r3 w b0 (by omega) (by omega) _ rfl _ rfl (by simpa using c1))
     · by_cases h4 : k = 4
       · subst h4
         by_cases c1 : r0 <= hv
         · by_cases c2 : d = 0
           · by_cases c3 : n = 0
             · subst c2
               subst c3
               exact back_some (by simp [Pt.fit, Pt.plain, c1]) (back_short3 0 0 0 hv r0 r1 r2 r3 w b0 (by simpa using c1) (by simp) (by simp))
             · exact back_none (by simp [Pt.fit, Pt.plain, c3]) (back_short2 d n 0 hv r0 r1 r2 r3 w b0 (by simpa using c1) (by simpa using c2) (by simpa using c3))
           · exact back_none (by simp [Pt.fit, Pt.plain, c2]) (back_short1 d n 0 hv r0 r1 r2 r3 w b0 (by simpa using c1) (by simpa using c2))
         · refine back_none ?_ (back_short0 d n 0 hv r0 r1 r2 r3 w b0 (by simpa using c1))
           simp [Pt.fit, Pt.plain]
           omega
       · exact back_none (by simp [Pt.fit, Pt.plain, hk, h2, h3, h4]) (back_kind k d n 0 hv r0 r1 r2 r3 w b0 (by simpa using h2) (by simpa using h3) (by simpa using h4))
 · refine back_none ?_ (back_b k d n b hv r0 r1 r2 r3 w (by simp; omega))
   have hp : (⟨k, d, n, b⟩ : Pt).plain = false := by
    simp only [Pt.plain, hk, if_false]
    split
    · simp [hb]
    · split <;> simp [hb]
   unfold Pt.fit
   rw [hp]
   rfl
end Go.Proofs.YtfpoabeihpfeiaaGreat.Pk
end
section
namespace Go.Proofs.YtfpoabeihpfeiaaGreat.Dc
open Go.RowKit Go.Maps
open Rc Mo
open Pk (Rp Pt)
structure Held2 (w0 : World) (O0 : Paint) (f cd ce d B N X Y Z : Nat) (m : Ms) (s : Es) (p : Pt) (w : World) (O : Paint) (v : Value) : Prop where
 one : Held1 w0 O0 f cd ce d B N X Z m s w O v
 pk : Blk w O f Y (.cells #[.int .i64 p.k, .int .i64 p.d, .int .i64 p.n, .int .u8 p.b] 48 (0, 0))
 n5 : X ≠ Y
 n6 : Y ≠ Z
section
variable {w0 w w2 : World} {O0 O O2 : Paint} {f cd ce d B N N' X Y Z : Nat} {m m' : Ms} {s s' : Es} {v v2 : Value} {e : Enc} {Q : Qs} {p : Pt}
theorem Held2.start (h : DocAt w O cd d B N m Q) (he : EncV w O ce v e) (hne : cd ≠ ce) (p : Pt) :
  ∃ f, Held2 w O f cd ce d B N w.heap.size (w.heap.size + 1) (w.heap.size + 1 + 1) m ⟨e, Q⟩ p (((w.alloc (.cells #[v, .int .u64 e.size] 46)).alloc (.cells #[.int .i64 p.k, .int .i64 p.d, .int .i64 p.n, .int .u8 p.b] 48)).alloc (.cells #[.slice none 0 0, .int .u64 0] 46)) (Step.paint O w f) v := by
 obtain ⟨f, hf1, hf2, hfO⟩ := mod_fresh O w.heap.size cd ce
 obtain ⟨hX, hY, hZ, hb1, _⟩ := Pk.three_alloc w (.cells #[v, .int .u64 e.size] 46) (.cells #[.int .i64 p.k, .int .i64 p.d, .int .i64 p.n, .int .u8 p.b] 48) (.cells #[.slice none 0 0, .int .u64 0] 46)
 have hs1 := Step.of_below hb1 O f
 exact ⟨f, ⟨hs1.nil, h.step hs1 (by simp), he.step hs1 (by simp), ⟨hX, Step.paint_new (Nat.le_refl _)⟩, ⟨hZ, Step.paint_new (by omega)⟩, hfO, hf1, hf2, hne, by omega⟩, ⟨hY, Step.paint_new (by omega)⟩, by omega, by omega⟩
theorem Held2.next (h : Held2 w0 O0 f cd ce d B N X Y Z m s p w O v) (hs : Step [cd] w O w2 O2) (hd : DocAt w2 O2 cd d B N' m' s'.q) (he : EncV w2 O2 ce v2 s'.e) :
  Held2 w0 O0 f cd ce d B N' X Y Z m' s' p ((w2.setCell ⟨X, 0, none⟩ v2).setCell ⟨X, 1, none⟩ (.int .u64 s'.e.size)) O2 v2 :=
 ⟨h.one.next hs hd he, ((h.pk.step hs (by simpa using h.one.n1)).setCell_other (p := ⟨X, 0, none⟩) h.n5 _).setCell_other (p := ⟨X, 1, none⟩) h.n5 _, h.n5, h.n6⟩
theorem Held2.idle (h : Held2 w0 O0 f cd ce d B N X Y Z m s p w O v) (hs : Step [] w O w2 O2) : Held2 w0 O0 f cd ce d B N X Y Z m s p w2 O2 v :=
 ⟨h.one.idle hs, h.pk.step hs (by simp), h.n5, h.n6⟩
theorem Held2.pcells (h : Held2 w0 O0 f cd ce d B N X Y Z m s p w O v) : w.cell? ⟨Y, 0, none⟩ = some (.int .i64 p.k) /\ w.cell? ⟨Y, 1, none⟩ = some (.int .i64 p.d) /\ w.cell? ⟨Y, 2, none⟩ = some (.int .i64 p.n) /\ w.cell? ⟨Y, 3, none⟩ = some (.int .u8 p.b) := (Pk.four h.pk.1).1
theorem DocAt.upd (h : DocAt w O cd d B N m Q) {w' : World} (hb : w'.heap[d]? = some (.cells #[.int .i64 m'.lc, .int .i64 m'.lp, .int .i64 m'.pb, .map (some B), .int .i64 m'.st, .int .i64 m'.r.a, .int .i64 m'.r.b, .int .i64 m'.r.c, .int .i64 m'.r.d, .string ⟨m'.l.toArray⟩] 55 (0, 0))) (hB : w'.heap[B]? = w.heap[B]?) : DocAt w' O cd d B N m' Q := by
 obtain ⟨D, ⟨es, clock, hx, hF, h1, h2⟩, hT⟩ := h.own
 exact ⟨⟨hb, h.blk.2⟩, ⟨D, ⟨es, clock, hB.trans hx, hF, h1, h2⟩, hT⟩, h.ownC, h.q⟩
theorem heap_other (w : World) (a : Addr) (u : Value) (k : Nat) (h : k ≠ a.block) : (w.setCell a u).heap[k]? = w.heap[k]? := Below.heap_setCell w a u k h
theorem Held1.upd (h : Held1 w0 O0 f cd ce d B N X Z m s w O v) {w' : World} (hs : Step [cd] w O w' O) (hd : DocAt w' O cd d B N m' s.q) : Held1 w0 O0 f cd ce d B N X Z m' s w' O v := by
 have n1 := h.n1
 have n2 := h.n2
 have n3 := h.n3
 exact ⟨h.st.trans (hs.mono (by intro z hz; simp at hz ⊢; omega)), hd, h.enc.step hs (by simp; omega), h.bx.step hs (by simpa using n1), h.bz.step hs (by simpa using n1), h.fresh, h.n1, h.n2, h.n3, h.n4⟩
theorem Held2.upd (h : Held2 w0 O0 f cd ce d B N X Y Z m s p w O v) {w' : World} (hs : Step [cd] w O w' O) (hd : DocAt w' O cd d B N m' s.q) : Held2 w0 O0 f cd ce d B N X Y Z m' s p w' O v :=
 ⟨h.one.upd hs hd, h.pk.step hs (by simpa using h.one.n1), h.n5, h.n6⟩
theorem Held2.setText (h : Held2 w0 O0 f cd ce d B N X Y Z m s p w O v) (l : List UInt8) : Held2 w0 O0 f cd ce d B N X Y Z { m with l := l } s p (w.setCell ⟨d, 9, none⟩ (.string ⟨l.toArray⟩)) O v := by
 have hd := h.one.doc
 have hs : Step [cd] w O (w.setCell ⟨d, 9, none⟩ (.string ⟨l.toArray⟩)) O := (Step.refl [cd] w O).setCell (p := ⟨d, 9, none⟩) (.inl (by simp [hd.blk.2])) _
 have hb := hd.blk.setCell 9 (.string ⟨l.toArray⟩)
 simp at hb
 exact h.upd hs (hd.upd (m' := { m with l := l }) hb.1 (heap_other _ _ _ _ (by exact fun e => hd.ne e.symm)))
theorem Held2.setSt (h : Held2 w0 O0 f cd ce d B N X Y Z m s p w O v) (st : Nat) : Held2 w0 O0 f cd ce d B N X Y Z { m with st := st } s p (w.setCell ⟨d, 4, none⟩ (.int .i64 st)) O v := by
 have hd := h.one.doc
 have hs : Step [cd] w O (w.setCell ⟨d, 4, none⟩ (.int .i64 st)) O := (Step.refl [cd] w O).setCell (p := ⟨d, 4, none⟩) (.inl (by simp [hd.blk.2])) _
 have hb := hd.blk.setCell 4 (.int .i64 st)
 simp at hb
 exact h.upd hs (hd.upd (m' := { m with st := st }) hb.1 (heap_other _ _ _ _ (by exact fun e => hd.ne e.symm)))
theorem Held2.setReps (h : Held2 w0 O0 f cd ce d B N X Y Z m s p w O v) (r : Rp) : Held2 w0 O0 f cd ce d B N X Y Z { m with r := r } s p ((((w.setCell ⟨d, 5, none⟩ (.int .i64 r.a)).setCell ⟨d, 6, none⟩ (.int .i64 r.b)).setCell ⟨d, 7, none⟩ (.int .i64 r.c)).setCell ⟨d, 8, none⟩ (.int .i64 r.d)) O v := by
 have hd := h.one.doc
 have hs : Step [cd] w O ((((w.setCell ⟨d, 5, none⟩ (.int .i64 r.a)).setCell ⟨d, 6, none⟩ (.int .i64 r.b)).setCell ⟨d, 7, none⟩ (.int .i64 r.c)).setCell ⟨d, 8, none⟩ (.int .i64 r.d)) O :=
  ((((Step.refl [cd] w O).setCell (p := ⟨d, 5, none⟩) (.inl (by simp [hd.blk.2])) _).setCell (p := ⟨d, 6, none⟩) (.inl (by simp [hd.blk.2])) _).setCell (p := ⟨d, 7, none⟩) (.inl (by simp [hd.blk.2])) _).setCell (p := ⟨d, 8, none⟩) (.inl (by simp [hd.blk.2])) _
 have hb := (((hd.blk.setCell 5 (.int .i64 r.a)).setCell 6 (.int .i64 r.b)).setCell 7 (.int .i64 r.c)).setCell 8 (.int .i64 r.d)
 simp at hb
 have hne : B ≠ d := fun e => hd.ne e.symm
 exact h.upd hs (hd.upd (m' := { m with r := r }) hb.1 (by rw [heap_other _ _ _ _ hne, heap_other _ _ _ _ hne, heap_other _ _ _ _ hne, heap_other _ _ _ _ hne]))
theorem dbyte_any (h : DocAt w O cd d B N m Q) (he : EncV w O ce v e) (hne : cd ≠ ce) (ht : e.turns <= 700000) (hm : m.lc + m.lp <= 4) (hl : m.l.length <= 1000000000) (hr : ¬ m.st < 7 -> Wnd.there m.r.a m.l.length = true) (b : Nat) (hb : b < 256) (hN : N <= 800000000) :
  Calls Tryz.prog 37 #[.pointer (some ⟨d, 0, none⟩), .agg #[v, .int .u64 e.size], .int .i64 b] w (DocTo w O cd ce d B (N + 8) m ((⟨e, Q⟩ : Es).byte m.lc m.lp m.st m.l m.r.a b)) := by
 by_cases hs : m.st < 7
 · exact dbyte_plain h he hne ht hm hl hs b hb hN
 · exact dbyte_like h he hne ht hm hl hs (hr hs) b hb hN
end
theorem one_byte {W : World} {k b : Nat} (hb : b < 256) (hc : W.cell? ⟨k, 0, none⟩ = some (.int .u8 b)) : (convert 43 9 (.slice (some ⟨k, 0, none⟩) 1 1)).run Tryz.prog W = .ok (.string ⟨#[UInt8.ofNat b]⟩) W := by
 have h := run_convert_bytes_back W 43 9 5 ⟨k, 0, none⟩ 1 [UInt8.ofNat b] Tryz.underlying43 Tryz.underlying5 Tryz.underlying9 (fun j hj => by
  simp at hj
  subst hj
  rw [show (⟨k, 0, none⟩ : Addr).add 0 = ⟨k, 0, none⟩ from rfl, hc]
  simp
  omega)
 exact h
theorem text_one (l : List UInt8) (x : UInt8) : (⟨l.toArray⟩ : ByteArray) ++ ⟨#[x]⟩ = ⟨(l ++ [x]).toArray⟩ := by
 apply ByteArray.ext
 apply Array.toList_inj.1
 simp
theorem grow_text (l : List UInt8) (d j : Nat) (h1 : 1 <= d) (h2 : d <= l.length) (U : ByteArray) (hU : U = ⟨(Wnd.copied l d j).toArray⟩) : U ++ U.extract (U.size - d) (U.size - d + 1) = ⟨(Wnd.copied l d (j + 1)).toArray⟩ := by
 subst hU
 have hL := Wnd.copied_length l d j
 apply ByteArray.ext
 apply Array.toList_inj.1
 have hs : ByteArray.size ⟨(Wnd.copied l d j).toArray⟩ = (Wnd.copied l d j).length := by simp [ByteArray.size]
 rw [hs]
 have hlt : (Wnd.copied l d j).length - d < (Wnd.copied l d j).length := by omega
 simp [Wnd.copied, List.getD, hlt]
 rw [List.drop_eq_getElem_cons hlt]
 rfl
end Go.Proofs.YtfpoabeihpfeiaaGreat.Dc
end
