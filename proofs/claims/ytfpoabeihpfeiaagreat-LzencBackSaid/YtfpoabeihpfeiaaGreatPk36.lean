/-
  Package lzdec: the contracts of newDecoding and decode.
  Package lzdec: the contract of decode's middle: a decoder, and a decoding by it.
  Package lzdec: the contract of decode, whoever is told the packets.
  Package lzdec: the contracts of Decode and Packets.
  Package lzdec: the contract of Packets.
  Layers 11 and 12, plain mathematics: what is encoded of packets that tell a text is decoded again.
  Layers 11 and 12: packets that tell a text are encoded, and their bytes decoded.
  Layer 11's statements: their params, of three numbers; their first lines (speaks) return true.
-/
import Derived.Test.YtfpoabeihpfeiaaGreatPk33
import Derived.Test.YtfpoabeihpfeiaaGreatPk35
import Derived.Deep.RegionHeld3
set_option maxRecDepth 100000
set_option maxHeartbeats 16000000
set_option linter.unusedVariables false
set_option linter.unusedSimpArgs false
open Go.Lib (hid)
section
section
namespace Go.Proofs.YtfpoabeihpfeiaaGreat.Lz
open Go.RowKit
open Rc Mo
open Pk (Rp Pt four IsPts)
def mostOf (n most : Int) : Int := if n < 0 then most else n
theorem newdec_any (lc lp pb : Nat) (hl : lc + lp <= 4) (hpb : pb <= 4) (D : Nat) (n most : Int) (h1 : 0 <= most) (h2 : most <= 1000000000) (h3 : n <= most) (h4 : -9223372036854775808 <= n) (w : World) (O : Paint) :
  Calls Tryz.prog 41 #[.iface 92 (.agg #[.pointer (some ⟨D, 0, none⟩)]), .agg #[.int .i64 lc, .int .i64 lp, .int .i64 pb], .int .i64 n, .int .i64 most] w fun x w' => ∃ i O', x = .returned (dv i.mo D n) /\ i.cw = 1 /\ i.cm = 2 /\ i.most = mostOf n most /\ Step [] w O w' O' /\ Whole w' O' i (mNew lc lp pb) qNew := by
 have hb1 : Below w.heap.size w ((w.alloc (.cells #[.int .i64 lc, .int .i64 lp, .int .i64 pb] 26)).alloc (.cells #[.pointer none, .nilIface, .int .i64 0] 63)) := ((Below.refl _ _).alloc (Nat.le_refl _) _).alloc (by simp) _
 have HNM := hid (fun W O' => new_model lc lp pb hl hpb (mostOf n most) (by unfold mostOf; split <;> omega) (by unfold mostOf; split <;> omega) W O' 1 2 (by omega))
 go_enter Tryz.func41, Tryz.ntmps41
 go_upto_region 1 with (fail)
 have hs1 := Step.of_below hb1 O 9
 have hX := heap_alloc_new w (.cells #[.int .i64 lc, .int .i64 lp, .int .i64 pb] 26)
 have hX2 := (Below.heap_alloc (w.alloc (.cells #[.int .i64 lc, .int .i64 lp, .int .i64 pb] 26)) (.cells #[.pointer none, .nilIface, .int .i64 0] 63) _ (lt_of_heap hX)).trans hX
 have hz := heap_alloc_new (w.alloc (.cells #[.int .i64 lc, .int .i64 lp, .int .i64 pb] 26)) (.cells #[.pointer none, .nilIface, .int .i64 0] 63)
 rw [World.size_alloc] at hz
 have hz9 : Step.paint O w 9 (w.heap.size + 1) = 9 := Step.paint_new (by omega)
 have HS1 := hid hs1
 clear hb1 hs1 hX
 generalize (w.alloc (.cells #[.int .i64 lc, .int .i64 lp, .int .i64 pb] 26)).alloc (.cells #[.pointer none, .nilIface, .int .i64 0] 63) = W1 at *
 generalize Step.paint O w 9 = O1 at *
 have HPP : Hid (∃ P, P = w.heap.size) := hid ⟨_, rfl⟩
 obtain ⟨P, hP⟩ := HPP.out
 rw [<- hP] at hz hz9 hX2 ⊢
 have hPw : w.heap.size <= P + 1 := by omega
 clear hP HPP
 obtain ⟨p0, p1, p2⟩ := three_cells hX2
 have HZ := hid (show Blk W1 O1 9 (P + 1) _ from ⟨hz, hz9⟩)
 have HMO : Hid (mostOf n most = if n < 0 then most else n) := hid rfl
 clear hX2 hz hz9
 by_cases hn : n < 0
 case' pos =>
  have hd : decide (0 <= n) = false := by rw [decide_eq_false_iff_not]; omega
  have HMO2 : Hid (mostOf n most = most) := hid (by rw [HMO.out, if_pos hn])
  rw [HMO2.out] at HNM
  clear HMO
 case' neg =>
  have hd : decide (0 <= n) = true := by rw [decide_eq_true_eq]; omega
  have HMO2 : Hid (mostOf n most = n) := hid (by rw [HMO.out, if_neg hn])
  rw [HMO2.out] at HNM
  clear HMO
 all_goals
  clear hn
  go_wp2_with fail
  refine (HNM.out W1 O1).mono ?_
  rintro x w3 ⟨i, O3, rfl, hi1, hi2, hi3, hs3, hW3⟩
  have hz3 := HZ.out.step hs3 (by simp)
  have hs13 : Step [] w O w3 O3 := HS1.out.trans hs3
  have HR : Hid (∀ u0 u1 u2 : Value, Step [] w O (((w3.setCell ⟨P + 1, 0, none⟩ u0).setCell ⟨P + 1, 1, none⟩ u1).setCell ⟨P + 1, 2, none⟩ u2) O3 /\ Whole (((w3.setCell ⟨P + 1, 0, none⟩ u0).setCell ⟨P + 1, 1, none⟩ u1).setCell ⟨P + 1, 2, none⟩ u2) O3 i (mNew lc lp pb) qNew) := hid (fun u0 u1 u2 => by
   refine ⟨((hs13.setCell (p := ⟨P + 1, 0, none⟩) (.inr hPw) u0).setCell (p := ⟨P + 1, 1, none⟩) (.inr hPw) u1).setCell (p := ⟨P + 1, 2, none⟩) (.inr hPw) u2, ?_⟩
   exact hW3.step (((Step.refl [9] w3 O3).setCell (p := ⟨P + 1, 0, none⟩) (.inl (by simp [hz3.2])) u0).setCell (p := ⟨P + 1, 1, none⟩) (.inl (by simp [hz3.2])) u1 |>.setCell (p := ⟨P + 1, 2, none⟩) (.inl (by simp [hz3.2])) u2) (by rw [hi1]; simp) (by rw [hi2]; simp))
  have h0 := hz3.cell 0
  have h1' := hz3.cell 1
  have h2' := hz3.cell 2
  have f0 := hz3.free 0
  have f1 := hz3.free 1
  have f2 := hz3.free 2
  simp at h0 h1' h2'
  have HZ3 := hid hz3
  have HII := hid (And.intro hi1 (And.intro hi2 hi3))
  clear hs3 hW3 hs13 hz3 HNM HS1 HZ hi1 hi2 hi3 p0 p1 p2
  go_wp2_with fail
  have hh := ((HZ3.out.setCell 0 (.pointer (some ⟨i.mo, 0, none⟩))).setCell 1 (.iface 92 (.agg #[.pointer (some ⟨D, 0, none⟩)]))).setCell 2 (.int .i64 n)
  simp at hh
  obtain ⟨r0, r1, r2⟩ := three_cells hh.1
  have hr := HR.out (.pointer (some ⟨i.mo, 0, none⟩)) (.iface 92 (.agg #[.pointer (some ⟨D, 0, none⟩)])) (.int .i64 n)
  clear hh HR HZ3 h0 h1' h2' f0 f1 f2
  refine bodyPost_ret (v := .agg #[.pointer (some ⟨i.mo, 0, none⟩), .iface 92 (.agg #[.pointer (some ⟨D, 0, none⟩)]), .int .i64 n]) ?_ rfl ?_
  · simp [results, Tryz.results41, go_sem, r0, r1, r2]
  · exact ⟨i, O3, rfl, HII.out.1, HII.out.2.1, HII.out.2.2.trans HMO2.out.symm, hr.1, hr.2⟩
end Go.Proofs.YtfpoabeihpfeiaaGreat.Lz
end
section
namespace Go.Proofs.YtfpoabeihpfeiaaGreat.Lz
open Go.RowKit
open Rc Mo
open Pk (Rp Pt four IsPts)
theorem DecAt.repaint {w : World} {O O' : Paint} {c a tot : Nat} {d : Dec} (h : DecAt w O c a d tot) (ho : O' a = c) : DecAt w O' c a d tot := by
 obtain ⟨⟨s, r, hb, hrest⟩, hf⟩ := h
 exact ⟨⟨s, r, ⟨hb.1, ho⟩, hrest⟩, hf⟩
theorem newd_any (s : ByteArray) (hs : s.size <= 1000000000000) (W : World) :
  Calls Tryz.prog 42 #[.string s] W fun x w' => x = .returned (.pointer (some ⟨W.heap.size, 0, none⟩)) /\ Below W.heap.size W w' /\ W.heap.size < w'.heap.size /\ ∀ O : Paint, O W.heap.size = 6 -> DecAt w' O 6 W.heap.size (Dec.read s.data.toList) 0 := by
 refine (newdec s hs W (fun _ => 0) 6).mono ?_
 rintro x w' ⟨rfl, O', hst, hd⟩
 refine ⟨rfl, hst.below (Nat.le_refl _) (fun _ _ => by simp), ?_, fun O ho => DecAt.repaint hd ho⟩
 obtain ⟨⟨s', r, hb, _⟩, _⟩ := hd
 exact hb.lt
def pnt (W : World) (O : Paint) (D : Nat) : Paint := fun k => if k < W.heap.size then O k else if k = D then 6 else 8
theorem six_cells {w : World} {X : Nat} {a b c : Value} {t : TypeId} (h : w.heap[X]? = some (.cells #[a, b, c] t (0, 0))) :
  w.cell? ⟨X, 0, none⟩ = some a /\ w.cell? ⟨X, 1, none⟩ = some b /\ w.cell? ⟨X, 2, none⟩ = some c /\ w.frozen? ⟨X, 0, none⟩ = false /\ w.frozen? ⟨X, 1, none⟩ = false /\ w.frozen? ⟨X, 2, none⟩ = false :=
 ⟨by simp [World.cell?, h], by simp [World.cell?, h], by simp [World.cell?, h], by simp [World.frozen?, h], by simp [World.frozen?, h], by simp [World.frozen?, h]⟩
def Mid5 (w : World) (O1 : Paint) (lc lp pb : Nat) (s : ByteArray) (n most : Int) (W1 : World) (v : Value) (wc : World) : Prop :=
 ∃ Y i D O', v = .pointer (some ⟨Y, 0, none⟩) /\ Step [] W1 O1 wc O' /\ Blk wc O' 8 Y (.cells #[.pointer (some ⟨i.mo, 0, none⟩), .iface 92 (.agg #[.pointer (some ⟨D, 0, none⟩)]), .int .i64 n] 63 (0, 0)) /\ i.most = mostOf n most /\ LockT w i D (mNew lc lp pb) ⟨Dec.read s.data.toList, qNew⟩ 0 wc O'
theorem mid5_of {w W1 wc : World} {O1 O' : Paint} {lc lp pb : Nat} {s : ByteArray} {n most : Int} {Y D : Nat} {i : Mid} {z0 z1 z2 : Value} (hr : Run w W1 O1) (hst : Step [] W1 O1 wc O') (hY1 : W1.heap.size <= Y) (hY : wc.heap[Y]? = some (.cells #[z0, z1, z2] 63 (0, 0))) (hO : O' Y = 8) (h1 : i.cw = 1) (h2 : i.cm = 2) (h3 : i.most = mostOf n most) (hw : Whole wc O' i (mNew lc lp pb) qNew) (hd : DecAt wc O' 6 D (Dec.read s.data.toList) 0) :
  Mid5 w O1 lc lp pb s n most W1 (.pointer (some ⟨Y, 0, none⟩)) (((wc.setCell ⟨Y, 0, none⟩ (.pointer (some ⟨i.mo, 0, none⟩))).setCell ⟨Y, 1, none⟩ (.iface 92 (.agg #[.pointer (some ⟨D, 0, none⟩)]))).setCell ⟨Y, 2, none⟩ (.int .i64 n)) := by
 have hs8 : ∀ u0 u1 u2 : Value, Step [8] wc O' (((wc.setCell ⟨Y, 0, none⟩ u0).setCell ⟨Y, 1, none⟩ u1).setCell ⟨Y, 2, none⟩ u2) O' := fun u0 u1 u2 => (((Step.refl [8] wc O').setCell (p := ⟨Y, 0, none⟩) (.inl (by simp [hO])) u0).setCell (p := ⟨Y, 1, none⟩) (.inl (by simp [hO])) u1).setCell (p := ⟨Y, 2, none⟩) (.inl (by simp [hO])) u2
 have hb : Blk wc O' 8 Y (.cells #[z0, z1, z2] 63 (0, 0)) := ⟨hY, hO⟩
 have hh := ((hb.setCell 0 (.pointer (some ⟨i.mo, 0, none⟩))).setCell 1 (.iface 92 (.agg #[.pointer (some ⟨D, 0, none⟩)]))).setCell 2 (.int .i64 n)
 simp at hh
 have hst2 : Step [] W1 O1 (((wc.setCell ⟨Y, 0, none⟩ (.pointer (some ⟨i.mo, 0, none⟩))).setCell ⟨Y, 1, none⟩ (.iface 92 (.agg #[.pointer (some ⟨D, 0, none⟩)]))).setCell ⟨Y, 2, none⟩ (.int .i64 n)) O' := ((hst.setCell (p := ⟨Y, 0, none⟩) (.inr hY1) _).setCell (p := ⟨Y, 1, none⟩) (.inr hY1) _).setCell (p := ⟨Y, 2, none⟩) (.inr hY1) _
 exact ⟨Y, i, D, O', rfl, hst2, hh, h3, hr.step hst2 (by simp), hw.step (hs8 _ _ _) (by rw [h1]; simp) (by rw [h2]; simp), hd.step (hs8 _ _ _) (by simp), h1, h2⟩
theorem mid5_new {w W1 wc : World} {O1 O' : Paint} {lc lp pb : Nat} {s : ByteArray} {n most : Int} {D : Nat} {i : Mid} (hr : Run w W1 O1) (hst : Step [] W1 O1 wc O') (_hY1 : W1.heap.size <= wc.heap.size) (h1 : i.cw = 1) (h2 : i.cm = 2) (h3 : i.most = mostOf n most) (hw : Whole wc O' i (mNew lc lp pb) qNew) (hd : DecAt wc O' 6 D (Dec.read s.data.toList) 0) :
  Mid5 w O1 lc lp pb s n most W1 (.pointer (some ⟨wc.heap.size, 0, none⟩)) (wc.alloc (.cells #[.pointer (some ⟨i.mo, 0, none⟩), .iface 92 (.agg #[.pointer (some ⟨D, 0, none⟩)]), .int .i64 n] 63)) := by
 have hb : Below wc.heap.size wc (wc.alloc (.cells #[.pointer (some ⟨i.mo, 0, none⟩), .iface 92 (.agg #[.pointer (some ⟨D, 0, none⟩)]), .int .i64 n] 63)) := (Below.refl _ _).alloc (Nat.le_refl _) _
 have hs8 := Step.of_below hb O' 8
 have hst2 := hst.trans hs8
 exact ⟨wc.heap.size, i, D, _, rfl, hst2, ⟨heap_alloc_new _ _, Step.paint_new (Nat.le_refl _)⟩, h3, hr.step hst2 (by simp), hw.step hs8 (by simp) (by simp), hd.step hs8 (by simp), h1, h2⟩
theorem pnt_old {W : World} {O : Paint} {D k : Nat} (h : k < W.heap.size) : pnt W O D k = O k := by unfold pnt; rw [if_pos h]
theorem pnt_dec {W : World} {O : Paint} {D : Nat} (h : W.heap.size <= D) : pnt W O D D = 6 := by unfold pnt; rw [if_neg (by omega), if_pos rfl]
theorem pnt_new {W : World} {O : Paint} {D k : Nat} (h : W.heap.size <= k) (hk : k ≠ D) : pnt W O D k = 8 := by unfold pnt; rw [if_neg (by omega), if_neg hk]
theorem pnt_step {W w' : World} {O : Paint} {D : Nat} (h : Below W.heap.size W w') : Step [] W O w' (pnt W O D) := ⟨Frame.of_below_size h, fun k hk => pnt_old hk⟩
end Go.Proofs.YtfpoabeihpfeiaaGreat.Lz
end
section
namespace Go.Proofs.YtfpoabeihpfeiaaGreat.Lz
open Go.RowKit
open Rc Mo
open Pk (Rp Pt four IsPts)
theorem TellAt.nine {w w' : World} {O O' : Paint} {L : Nat} {acc : List Pt} (h : TellAt w O L acc) (hs : Step [9] w O w' O') : TellAt w' O' L acc := h.step hs (by simp) (by simp)
def zeroDv : Value := .agg #[.pointer none, .nilIface, .int .i64 0]
noncomputable def readR (lc lp pb : Nat) (s : ByteArray) (n most : Int) : Option (Ms × List Pt) := decR n (mostOf n most) ((mostOf n most).toNat + 1) (mNew lc lp pb) ⟨Dec.read s.data.toList, qNew⟩ []
def DecToP (w0 : World) (L : Nat) (n : Int) (R : Option (Ms × List Pt)) (x : Ending) (w' : World) : Prop :=
 ∃ O', Run w0 w' O' /\ ((x = .returned (.tuple #[zeroDv, .int .i64 6]) /\ R = none) \/ ∃ i D m d acc, x = .returned (.tuple #[dv i.mo D n, .int .i64 0]) /\ R = some (m, acc) /\ LockT w0 i D m d 0 w' O' /\ TellAt w' O' L acc /\ ∀ q ∈ acc, q.b < 256)
theorem decodeP_any {w0 w : World} {O : Paint} {L : Nat} (hr : Run w0 w O) (ht : TellAt w O L []) (lc lp pb : Nat) (hl : lc + lp <= 4) (hpb : pb <= 4) (s : ByteArray) (hs : s.size <= 1000000000000) (n most : Int) (h1 : 0 <= most) (h2 : most <= 1000000000) (h3 : n <= most) (h4 : -9223372036854775808 <= n) :
  Calls Tryz.prog 19 #[.string s, .agg #[.int .i64 lc, .int .i64 lp, .int .i64 pb], .int .i64 n, .int .i64 most, .func (.func 20) #[] #[.pointer (some ⟨L, 0, none⟩)]] w (DecToP w0 L n (readR lc lp pb s n most)) := by
 have hgood : goodB (lc : Int) (lp : Int) (pb : Int) = true := by unfold goodB; simp; omega
 have HG := hid (fun W => good_any (lc : Int) (lp : Int) (pb : Int) ⟨by omega, by omega⟩ ⟨by omega, by omega⟩ W)
 rw [hgood] at HG
 have HND := hid (newd_any s hs)
 have HNW := hid (fun D W O => newdec_any lc lp pb hl hpb D n most h1 h2 h3 h4 W O)
 have HMO : Hid (mostOf n most <= 1000000000) := hid (by unfold mostOf; split <;> omega)
 have HRUN : Hid (∀ (W : World) (O' : Paint) (i : Mid) (D : Nat), LockT w0 i D (mNew lc lp pb) ⟨Dec.read s.data.toList, qNew⟩ 0 W O' -> TellAt W O' L [] -> i.most = mostOf n most -> Calls Tryz.prog 43 #[dv i.mo D n, .func (.func 20) #[] #[.pointer (some ⟨L, 0, none⟩)]] W (RunToP W O' w0 i D 0 L (readR lc lp pb s n most))) := hid (fun W O' i D hL hT hm => runP_any hL hT hm HMO.out rfl (Nat.lt_succ_self _))
 have hb1 : Below w.heap.size w ((w.alloc (.cells #[.int .i64 lc, .int .i64 lp, .int .i64 pb] 26)).alloc (.cells #[.pointer none, .nilIface, .int .i64 0] 63)) := ((Below.refl _ _).alloc (Nat.le_refl _) _).alloc (by simp) _
 have hs1 := Step.of_below hb1 O 9
 have hX := heap_alloc_new w (.cells #[.int .i64 lc, .int .i64 lp, .int .i64 pb] 26)
 have hX2 := (Below.heap_alloc (w.alloc (.cells #[.int .i64 lc, .int .i64 lp, .int .i64 pb] 26)) (.cells #[.pointer none, .nilIface, .int .i64 0] 63) _ (lt_of_heap hX)).trans hX
 have hz := heap_alloc_new (w.alloc (.cells #[.int .i64 lc, .int .i64 lp, .int .i64 pb] 26)) (.cells #[.pointer none, .nilIface, .int .i64 0] 63)
 rw [World.size_alloc] at hz
 have hz9 : Step.paint O w 9 (w.heap.size + 1) = 9 := Step.paint_new (by omega)
 have HR1 := hid (hr.step hs1 (by simp))
 have HT1 := hid (ht.step hs1 (by simp) (by simp))
 clear hgood hl hpb hs hr ht hb1 hs1 hX HMO
 obtain ⟨R, hR⟩ : ∃ R, R = readR lc lp pb s n most := ⟨_, rfl⟩
 rw [<- hR] at HRUN ⊢
 clear hR
 go_enter Tryz.func19, Tryz.ntmps19
 go_upto_region 1 with (fail)
 generalize (w.alloc (.cells #[.int .i64 lc, .int .i64 lp, .int .i64 pb] 26)).alloc (.cells #[.pointer none, .nilIface, .int .i64 0] 63) = W0 at *
 generalize Step.paint O w 9 = O0 at *
 generalize w.heap.size = P at *
 obtain ⟨p0, p1, p2⟩ := three_cells hX2
 have hPl := lt_of_heap hX2
 have HX := hid hX2
 have HZ := hid (show Blk W0 O0 9 (P + 1) _ from ⟨hz, hz9⟩)
 clear hX2 hz hz9
 have e1 : decide (most < 0) = false := by rw [decide_eq_false_iff_not]; omega
 have e2 : decide (most < n) = false := by rw [decide_eq_false_iff_not]; omega
 go_wp2_with fail
 refine (HG.out W0).mono ?_
 rintro x W1 ⟨rfl, hb⟩
 have hs2 := Step.of_below_same hb O0
 have HR2 := hid (HR1.out.step hs2 (by simp))
 have HT2 := hid (TellAt.idle HT1.out hs2)
 have HX2 := hid ((hb.block P hPl).trans HX.out)
 have HZ2 := hid (HZ.out.step hs2 (by simp))
 obtain ⟨p0, p1, p2⟩ := three_cells HX2.out
 have hPl := lt_of_heap HX2.out
 clear hb hs2 HR1 HT1 HX HZ HG
 go_upto_region 5 with (fail)
 go_cut [12] (fun v wc => Mid5 w0 O0 lc lp pb s n most W1 v wc)
 case first =>
  as_aux_lemma =>
  have HNW2 := hid (fun D W => HNW.out D W (pnt W1 O0 D))
  have HS : Hid (∀ W', Below W1.heap.size W1 W' -> Below W1.heap.size W1 W' /\ (W'.cell? ⟨P, 0, none⟩ = some (.int .i64 lc) /\ W'.cell? ⟨P, 1, none⟩ = some (.int .i64 lp) /\ W'.cell? ⟨P, 2, none⟩ = some (.int .i64 pb))) := hid fun W' hb => ⟨hb, three_cells ((hb.block P hPl).trans HX2.out)⟩
  go_region_held3 (fun W' => Below W1.heap.size W1 W' /\ (W'.cell? ⟨P, 0, none⟩ = some (.int .i64 lc) /\ W'.cell? ⟨P, 1, none⟩ = some (.int .i64 lp) /\ W'.cell? ⟨P, 2, none⟩ = some (.int .i64 pb))) ((refine HS.out _ ?_; repeat (first | assumption | exact Below.refl _ _ | refine Pk.bel_drew ?_ | refine Pk.bel_alloc _ ?_ | (refine Pk.bel_set _ (by first | omega | (simp; omega) | simp) ?_) | (refine Pk.bel_new (by assumption) ?_)))) (first | (go_at_call 42; (with_reducible refine (HND.out _).mono ?_); rintro x wd ⟨rfl, hbd, hdl, hdd⟩; have zd := hbd.size; (try simp at zd); (try simp at hdl); (try have ak1 : wd.heap[W1.heap.size]? = some (Obj.cells #[.pointer none, .nilIface, .int .i64 0] 63 (0, 0)) := by first | exact Pk.alloc_kept hbd | exact Pk.alloc_kept2 hbd)) | (go_at_call 41; (with_reducible refine (HNW2.out _ _).mono ?_); rintro x w3 ⟨i, O3, rfl, hi1, hi2, hi3, hs3, hw3⟩; have hb3 := hs3.below (Nat.le_refl _) (fun _ _ => by simp); have z3 := hb3.size; (try simp at z3); (try have ak2 : w3.heap[wd.heap.size]? = some (Obj.cells #[.pointer none, .nilIface, .int .i64 0] 63 (0, 0)) := Pk.alloc_kept hb3); (try have ak3 : w3.heap[W1.heap.size]? = some (Obj.cells #[.pointer none, .nilIface, .int .i64 0] 63 (0, 0)) := (hb3.block _ (lt_of_heap ak1)).trans ak1); (try (have q2 := six_cells ak2; obtain ⟨y0, y1, y2, g0, g1, g2⟩ := q2)); (try (have q3 := six_cells ak3; obtain ⟨y0, y1, y2, g0, g1, g2⟩ := q3)); unfold dv))
  all_goals
   go_wp2_with fail
   go_meet
   first
   | (have hbw := Pk.bel_new hbd (Pk.bel_drew (Below.refl W1.heap.size W1))
      have hst := (pnt_step (O := O0) (D := W1.heap.size) hbw).trans hs3
      exact mid5_new HR2.out hst (by omega) hi1 hi2 hi3 hw3 ((hdd (pnt W1 O0 W1.heap.size) (pnt_dec (Nat.le_refl _))).step hs3 (by simp)))
   | (have hbw := Pk.bel_alloc (.cells #[.pointer none, .nilIface, .int .i64 0] 63) (Pk.bel_new hbd (Pk.bel_drew (Below.refl W1.heap.size W1)))
      have hst := (pnt_step (O := O0) (D := W1.heap.size) hbw).trans hs3
      have hY8 : O3 wd.heap.size = 8 := (hs3.ext wd.heap.size (by simp)).trans (pnt_new (by omega) (by omega))
      exact mid5_of HR2.out hst (by omega) ak2 hY8 hi1 hi2 hi3 hw3 (((hdd (pnt W1 O0 W1.heap.size) (pnt_dec (Nat.le_refl _))).step ((Step.refl [] wd _).alloc _) (by simp)).step hs3 (by simp)))
   | (have hbw := Pk.bel_new hbd (Pk.bel_drew (Pk.bel_alloc (.cells #[.pointer none, .nilIface, .int .i64 0] 63) (Below.refl W1.heap.size W1)))
      have hst := (pnt_step (O := O0) (D := W1.heap.size + 1) hbw).trans hs3
      have hY8 : O3 W1.heap.size = 8 := (hs3.ext W1.heap.size (by omega)).trans (pnt_new (Nat.le_refl _) (by omega))
      have hszz : (W1.alloc (.cells #[.pointer none, .nilIface, .int .i64 0] 63)).drew.heap.size = W1.heap.size + 1 := World.size_alloc _ _
      rw [hszz] at hdd
      exact mid5_of HR2.out hst (Nat.le_refl _) ak3 hY8 hi1 hi2 hi3 hw3 ((hdd (pnt W1 O0 (W1.heap.size + 1)) (pnt_dec (by omega))).step hs3 (by simp)))
 case rest =>
  obtain ⟨Y, i, D, O2, rfl, hst2, hY, him, hL⟩ := hcut
  have HL := hid hL
  have HY := hid hY
  have HT := hid (TellAt.idle HT2.out hst2)
  have HZ3 := hid (HZ2.out.step hst2 (by simp))
  obtain ⟨q0, q1, q2⟩ := three_cells hY.1
  have HRN := hid (HRUN.out _ _ _ _ HL.out HT.out him)
  have HDV : Hid (dv i.mo D n = .agg #[.pointer (some ⟨i.mo, 0, none⟩), .iface 92 (.agg #[.pointer (some ⟨D, 0, none⟩)]), .int .i64 n]) := hid rfl
  rw [HDV.out] at HRN
  clear hst2 hY hL him HRUN HR2 HT2 HZ2 HX2 HND HNW HL
  go_wp2_with fail
  refine HRN.out.mono ?_
  rintro x w4 ⟨rfl, m, d, O4, acc, hL4, hT4, hst4, hBY, hR⟩
  have hY4 := HY.out.step hst4 (by simp)
  have hZ4 := HZ3.out.step hst4 (by simp)
  have HSTO : Hid (∀ u0 u1 u2 : Value, Step [9] w4 O4 (((w4.setCell ⟨P + 1, 0, none⟩ u0).setCell ⟨P + 1, 1, none⟩ u1).setCell ⟨P + 1, 2, none⟩ u2) O4) := hid (fun u0 u1 u2 => (((Step.refl [9] w4 O4).setCell (p := ⟨P + 1, 0, none⟩) (.inl (by simp [hZ4.2])) u0).setCell (p := ⟨P + 1, 1, none⟩) (.inl (by simp [hZ4.2])) u1).setCell (p := ⟨P + 1, 2, none⟩) (.inl (by simp [hZ4.2])) u2)
  obtain ⟨q0, q1, q2⟩ := three_cells hY4.1
  have z0 := hZ4.cell 0
  have z1 := hZ4.cell 1
  have z2 := hZ4.cell 2
  have f0 := hZ4.free 0
  have f1 := hZ4.free 1
  have f2 := hZ4.free 2
  simp at z0 z1 z2
  have HZ4 := hid hZ4
  have HL4 := hid hL4
  have HT4 := hid hT4
  have HRR := hid hR
  clear hY4 hZ4 hL4 hT4 hR hst4 HY HT HZ3 HRN
  cases R with
  | none =>
   as_aux_lemma =>
   go_wp2_with fail
   have hh := ((HZ4.out.setCell 0 (.pointer none)).setCell 1 .nilIface).setCell 2 (.int .i64 0)
   simp at hh
   obtain ⟨r0, r1, r2⟩ := three_cells hh.1
   have hst := HSTO.out (.pointer none) .nilIface (.int .i64 0)
   have HE := hid (HL4.out.run.step hst (by simp))
   clear hh hst HSTO HZ4 z0 z1 z2 f0 f1 f2 q0 q1 q2
   refine bodyPost_ret (v := .tuple #[.agg #[.pointer none, .nilIface, .int .i64 0], .int .i64 6]) ?_ rfl ?_
   · simp [results, Tryz.results19, go_sem, r0, r1, r2]
   · exact ⟨O4, HE.out, .inl ⟨rfl, rfl⟩⟩
  | some y =>
   as_aux_lemma =>
   go_wp2_with fail
   have hh := ((HZ4.out.setCell 0 (.pointer (some ⟨i.mo, 0, none⟩))).setCell 1 (.iface 92 (.agg #[.pointer (some ⟨D, 0, none⟩)]))).setCell 2 (.int .i64 n)
   simp at hh
   obtain ⟨r0, r1, r2⟩ := three_cells hh.1
   have hst := HSTO.out (.pointer (some ⟨i.mo, 0, none⟩)) (.iface 92 (.agg #[.pointer (some ⟨D, 0, none⟩)])) (.int .i64 n)
   have HE := hid (HL4.out.step hst (by simp) (by simp) (by simp) (by simp))
   have HT5 := hid (TellAt.nine HT4.out hst)
   have hy := HRR.out y rfl
   clear hh hst HSTO HZ4 z0 z1 z2 f0 f1 f2 q0 q1 q2
   refine bodyPost_ret (v := .tuple #[.agg #[.pointer (some ⟨i.mo, 0, none⟩), .iface 92 (.agg #[.pointer (some ⟨D, 0, none⟩)]), .int .i64 n], .int .i64 0]) ?_ rfl ?_
   · simp [results, Tryz.results19, go_sem, r0, r1, r2]
   · exact ⟨O4, HE.out.run, .inr ⟨i, D, m, d, acc, rfl, by rw [hy], HE.out, HT5.out, hBY⟩⟩
def DecToN (w0 : World) (L : Nat) (n : Int) (R : Option (Ms × List Pt)) (x : Ending) (w' : World) : Prop :=
 ∃ O', Run w0 w' O' /\ ((x = .returned (.tuple #[zeroDv, .int .i64 6]) /\ R = none) \/ ∃ i D m d acc, x = .returned (.tuple #[dv i.mo D n, .int .i64 0]) /\ R = some (m, acc) /\ LockT w0 i D m d 0 w' O' /\ True /\ ∀ q ∈ acc, q.b < 256)
theorem decodeN_any {w0 w : World} {O : Paint} {L : Nat} (hr : Run w0 w O) (ht : True) (lc lp pb : Nat) (hl : lc + lp <= 4) (hpb : pb <= 4) (s : ByteArray) (hs : s.size <= 1000000000000) (n most : Int) (h1 : 0 <= most) (h2 : most <= 1000000000) (h3 : n <= most) (h4 : -9223372036854775808 <= n) :
  Calls Tryz.prog 19 #[.string s, .agg #[.int .i64 lc, .int .i64 lp, .int .i64 pb], .int .i64 n, .int .i64 most, .func (.func 21) #[] #[]] w (DecToN w0 L n (readR lc lp pb s n most)) := by
 have hgood : goodB (lc : Int) (lp : Int) (pb : Int) = true := by unfold goodB; simp; omega
 have HG := hid (fun W => good_any (lc : Int) (lp : Int) (pb : Int) ⟨by omega, by omega⟩ ⟨by omega, by omega⟩ W)
 rw [hgood] at HG
 have HND := hid (newd_any s hs)
 have HNW := hid (fun D W O => newdec_any lc lp pb hl hpb D n most h1 h2 h3 h4 W O)
 have HMO : Hid (mostOf n most <= 1000000000) := hid (by unfold mostOf; split <;> omega)
 have HRUN : Hid (∀ (W : World) (O' : Paint) (i : Mid) (D : Nat), LockT w0 i D (mNew lc lp pb) ⟨Dec.read s.data.toList, qNew⟩ 0 W O' -> True -> i.most = mostOf n most -> Calls Tryz.prog 43 #[dv i.mo D n, .func (.func 21) #[] #[]] W (RunToN W O' w0 i D 0 L (readR lc lp pb s n most))) := hid (fun W O' i D hL hT hm => runN_any hL hT hm HMO.out rfl (Nat.lt_succ_self _))
 have hb1 : Below w.heap.size w ((w.alloc (.cells #[.int .i64 lc, .int .i64 lp, .int .i64 pb] 26)).alloc (.cells #[.pointer none, .nilIface, .int .i64 0] 63)) := ((Below.refl _ _).alloc (Nat.le_refl _) _).alloc (by simp) _
 have hs1 := Step.of_below hb1 O 9
 have hX := heap_alloc_new w (.cells #[.int .i64 lc, .int .i64 lp, .int .i64 pb] 26)
 have hX2 := (Below.heap_alloc (w.alloc (.cells #[.int .i64 lc, .int .i64 lp, .int .i64 pb] 26)) (.cells #[.pointer none, .nilIface, .int .i64 0] 63) _ (lt_of_heap hX)).trans hX
 have hz := heap_alloc_new (w.alloc (.cells #[.int .i64 lc, .int .i64 lp, .int .i64 pb] 26)) (.cells #[.pointer none, .nilIface, .int .i64 0] 63)
 rw [World.size_alloc] at hz
 have hz9 : Step.paint O w 9 (w.heap.size + 1) = 9 := Step.paint_new (by omega)
 have HR1 := hid (hr.step hs1 (by simp))
 have HT1 := hid (trivial)
 clear hgood hl hpb hs hr ht hb1 hs1 hX HMO
 obtain ⟨R, hR⟩ : ∃ R, R = readR lc lp pb s n most := ⟨_, rfl⟩
 rw [<- hR] at HRUN ⊢
 clear hR
 go_enter Tryz.func19, Tryz.ntmps19
 go_upto_region 1 with (fail)
 generalize (w.alloc (.cells #[.int .i64 lc, .int .i64 lp, .int .i64 pb] 26)).alloc (.cells #[.pointer none, .nilIface, .int .i64 0] 63) = W0 at *
 generalize Step.paint O w 9 = O0 at *
 generalize w.heap.size = P at *
 obtain ⟨p0, p1, p2⟩ := three_cells hX2
 have hPl := lt_of_heap hX2
 have HX := hid hX2
 have HZ := hid (show Blk W0 O0 9 (P + 1) _ from ⟨hz, hz9⟩)
 clear hX2 hz hz9
 have e1 : decide (most < 0) = false := by rw [decide_eq_false_iff_not]; omega
 have e2 : decide (most < n) = false := by rw [decide_eq_false_iff_not]; omega
 go_wp2_with fail
 refine (HG.out W0).mono ?_
 rintro x W1 ⟨rfl, hb⟩
 have hs2 := Step.of_below_same hb O0
 have HR2 := hid (HR1.out.step hs2 (by simp))
 have HT2 := hid (yes HT1.out hs2)
 have HX2 := hid ((hb.block P hPl).trans HX.out)
 have HZ2 := hid (HZ.out.step hs2 (by simp))
 obtain ⟨p0, p1, p2⟩ := three_cells HX2.out
 have hPl := lt_of_heap HX2.out
 clear hb hs2 HR1 HT1 HX HZ HG
 go_upto_region 5 with (fail)
 go_cut [12] (fun v wc => Mid5 w0 O0 lc lp pb s n most W1 v wc)
 case first =>
  as_aux_lemma =>
  have HNW2 := hid (fun D W => HNW.out D W (pnt W1 O0 D))
  have HS : Hid (∀ W', Below W1.heap.size W1 W' -> Below W1.heap.size W1 W' /\ (W'.cell? ⟨P, 0, none⟩ = some (.int .i64 lc) /\ W'.cell? ⟨P, 1, none⟩ = some (.int .i64 lp) /\ W'.cell? ⟨P, 2, none⟩ = some (.int .i64 pb))) := hid fun W' hb => ⟨hb, three_cells ((hb.block P hPl).trans HX2.out)⟩
  go_region_held3 (fun W' => Below W1.heap.size W1 W' /\ (W'.cell? ⟨P, 0, none⟩ = some (.int .i64 lc) /\ W'.cell? ⟨P, 1, none⟩ = some (.int .i64 lp) /\ W'.cell? ⟨P, 2, none⟩ = some (.int .i64 pb))) ((refine HS.out _ ?_; repeat (first | assumption | exact Below.refl _ _ | refine Pk.bel_drew ?_ | refine Pk.bel_alloc _ ?_ | (refine Pk.bel_set _ (by first | omega | (simp; omega) | simp) ?_) | (refine Pk.bel_new (by assumption) ?_)))) (first | (go_at_call 42; (with_reducible refine (HND.out _).mono ?_); rintro x wd ⟨rfl, hbd, hdl, hdd⟩; have zd := hbd.size; (try simp at zd); (try simp at hdl); (try have ak1 : wd.heap[W1.heap.size]? = some (Obj.cells #[.pointer none, .nilIface, .int .i64 0] 63 (0, 0)) := by first | exact Pk.alloc_kept hbd | exact Pk.alloc_kept2 hbd)) | (go_at_call 41; (with_reducible refine (HNW2.out _ _).mono ?_); rintro x w3 ⟨i, O3, rfl, hi1, hi2, hi3, hs3, hw3⟩; have hb3 := hs3.below (Nat.le_refl _) (fun _ _ => by simp); have z3 := hb3.size; (try simp at z3); (try have ak2 : w3.heap[wd.heap.size]? = some (Obj.cells #[.pointer none, .nilIface, .int .i64 0] 63 (0, 0)) := Pk.alloc_kept hb3); (try have ak3 : w3.heap[W1.heap.size]? = some (Obj.cells #[.pointer none, .nilIface, .int .i64 0] 63 (0, 0)) := (hb3.block _ (lt_of_heap ak1)).trans ak1); (try (have q2 := six_cells ak2; obtain ⟨y0, y1, y2, g0, g1, g2⟩ := q2)); (try (have q3 := six_cells ak3; obtain ⟨y0, y1, y2, g0, g1, g2⟩ := q3)); unfold dv))
  all_goals
   go_wp2_with fail
   go_meet
   first
   | (have hbw := Pk.bel_new hbd (Pk.bel_drew (Below.refl W1.heap.size W1))
      have hst := (pnt_step (O := O0) (D := W1.heap.size) hbw).trans hs3
      exact mid5_new HR2.out hst (by omega) hi1 hi2 hi3 hw3 ((hdd (pnt W1 O0 W1.heap.size) (pnt_dec (Nat.le_refl _))).step hs3 (by simp)))
   | (have hbw := Pk.bel_alloc (.cells #[.pointer none, .nilIface, .int .i64 0] 63) (Pk.bel_new hbd (Pk.bel_drew (Below.refl W1.heap.size W1)))
      have hst := (pnt_step (O := O0) (D := W1.heap.size) hbw).trans hs3
      have hY8 : O3 wd.heap.size = 8 := (hs3.ext wd.heap.size (by simp)).trans (pnt_new (by omega) (by omega))
      exact mid5_of HR2.out hst (by omega) ak2 hY8 hi1 hi2 hi3 hw3 (((hdd (pnt W1 O0 W1.heap.size) (pnt_dec (Nat.le_refl _))).step ((Step.refl [] wd _).alloc _) (by simp)).step hs3 (by simp)))
   | (have hbw := Pk.bel_new hbd (Pk.bel_drew (Pk.bel_alloc (.cells #[.pointer none, .nilIface, .int .i64 0] 63) (Below.refl W1.heap.size W1)))
      have hst := (pnt_step (O := O0) (D := W1.heap.size + 1) hbw).trans hs3
      have hY8 : O3 W1.heap.size = 8 := (hs3.ext W1.heap.size (by omega)).trans (pnt_new (Nat.le_refl _) (by omega))
      have hszz : (W1.alloc (.cells #[.pointer none, .nilIface, .int .i64 0] 63)).drew.heap.size = W1.heap.size + 1 := World.size_alloc _ _
      rw [hszz] at hdd
      exact mid5_of HR2.out hst (Nat.le_refl _) ak3 hY8 hi1 hi2 hi3 hw3 ((hdd (pnt W1 O0 (W1.heap.size + 1)) (pnt_dec (by omega))).step hs3 (by simp)))
 case rest =>
  obtain ⟨Y, i, D, O2, rfl, hst2, hY, him, hL⟩ := hcut
  have HL := hid hL
  have HY := hid hY
  have HT := hid (yes HT2.out hst2)
  have HZ3 := hid (HZ2.out.step hst2 (by simp))
  obtain ⟨q0, q1, q2⟩ := three_cells hY.1
  have HRN := hid (HRUN.out _ _ _ _ HL.out HT.out him)
  have HDV : Hid (dv i.mo D n = .agg #[.pointer (some ⟨i.mo, 0, none⟩), .iface 92 (.agg #[.pointer (some ⟨D, 0, none⟩)]), .int .i64 n]) := hid rfl
  rw [HDV.out] at HRN
  clear hst2 hY hL him HRUN HR2 HT2 HZ2 HX2 HND HNW HL
  go_wp2_with fail
  refine HRN.out.mono ?_
  rintro x w4 ⟨rfl, m, d, O4, acc, hL4, hT4, hst4, hBY, hR⟩
  have hY4 := HY.out.step hst4 (by simp)
  have hZ4 := HZ3.out.step hst4 (by simp)
  have HSTO : Hid (∀ u0 u1 u2 : Value, Step [9] w4 O4 (((w4.setCell ⟨P + 1, 0, none⟩ u0).setCell ⟨P + 1, 1, none⟩ u1).setCell ⟨P + 1, 2, none⟩ u2) O4) := hid (fun u0 u1 u2 => (((Step.refl [9] w4 O4).setCell (p := ⟨P + 1, 0, none⟩) (.inl (by simp [hZ4.2])) u0).setCell (p := ⟨P + 1, 1, none⟩) (.inl (by simp [hZ4.2])) u1).setCell (p := ⟨P + 1, 2, none⟩) (.inl (by simp [hZ4.2])) u2)
  obtain ⟨q0, q1, q2⟩ := three_cells hY4.1
  have z0 := hZ4.cell 0
  have z1 := hZ4.cell 1
  have z2 := hZ4.cell 2
  have f0 := hZ4.free 0
  have f1 := hZ4.free 1
  have f2 := hZ4.free 2
  simp at z0 z1 z2
  have HZ4 := hid hZ4
  have HL4 := hid hL4
  have HT4 := hid hT4
  have HRR := hid hR
  clear hY4 hZ4 hL4 hT4 hR hst4 HY HT HZ3 HRN
  cases R with
  | none =>
   as_aux_lemma =>
   go_wp2_with fail
   have hh := ((HZ4.out.setCell 0 (.pointer none)).setCell 1 .nilIface).setCell 2 (.int .i64 0)
   simp at hh
   obtain ⟨r0, r1, r2⟩ := three_cells hh.1
   have hst := HSTO.out (.pointer none) .nilIface (.int .i64 0)
   have HE := hid (HL4.out.run.step hst (by simp))
   clear hh hst HSTO HZ4 z0 z1 z2 f0 f1 f2 q0 q1 q2
   refine bodyPost_ret (v := .tuple #[.agg #[.pointer none, .nilIface, .int .i64 0], .int .i64 6]) ?_ rfl ?_
   · simp [results, Tryz.results19, go_sem, r0, r1, r2]
   · exact ⟨O4, HE.out, .inl ⟨rfl, rfl⟩⟩
  | some y =>
   as_aux_lemma =>
   go_wp2_with fail
   have hh := ((HZ4.out.setCell 0 (.pointer (some ⟨i.mo, 0, none⟩))).setCell 1 (.iface 92 (.agg #[.pointer (some ⟨D, 0, none⟩)]))).setCell 2 (.int .i64 n)
   simp at hh
   obtain ⟨r0, r1, r2⟩ := three_cells hh.1
   have hst := HSTO.out (.pointer (some ⟨i.mo, 0, none⟩)) (.iface 92 (.agg #[.pointer (some ⟨D, 0, none⟩)])) (.int .i64 n)
   have HE := hid (HL4.out.step hst (by simp) (by simp) (by simp) (by simp))
   have HT5 := hid (yes HT4.out hst)
   have hy := HRR.out y rfl
   clear hh hst HSTO HZ4 z0 z1 z2 f0 f1 f2 q0 q1 q2
   refine bodyPost_ret (v := .tuple #[.agg #[.pointer (some ⟨i.mo, 0, none⟩), .iface 92 (.agg #[.pointer (some ⟨D, 0, none⟩)]), .int .i64 n], .int .i64 0]) ?_ rfl ?_
   · simp [results, Tryz.results19, go_sem, r0, r1, r2]
   · exact ⟨O4, HE.out.run, .inr ⟨i, D, m, d, acc, rfl, by rw [hy], HE.out, HT5.out, hBY⟩⟩
end Go.Proofs.YtfpoabeihpfeiaaGreat.Lz
end
end
section
section
namespace Go.Proofs.YtfpoabeihpfeiaaGreat.Lz
open Go.RowKit
open Rc Mo
open Pk (Rp Pt four IsPts)
noncomputable def decV (R : Option (Ms × List Pt)) : Value := match R with
 | none => .tuple #[.string ⟨#[]⟩, .int .i64 6]
 | some y => .tuple #[.string ⟨y.1.l.toArray⟩, .int .i64 0]
theorem dec_any (lc lp pb : Nat) (hl : lc + lp <= 4) (hpb : pb <= 4) (s : ByteArray) (hs : s.size <= 1000000000000) (n most : Int) (h1 : 0 <= most) (h2 : most <= 1000000000) (h3 : n <= most) (h4 : -9223372036854775808 <= n) (w : World) :
  Calls Tryz.prog 9 #[.string s, .agg #[.int .i64 lc, .int .i64 lp, .int .i64 pb], .int .i64 n, .int .i64 most] w fun x w' => x = .returned (decV (readR lc lp pb s n most)) /\ Below w.heap.size w w' := by
 have hb1 : Below w.heap.size w (w.alloc (.cells #[.int .i64 lc, .int .i64 lp, .int .i64 pb] 26)) := (Below.refl _ _).alloc (Nat.le_refl _) _
 obtain ⟨p0, p1, p2⟩ := three_cells (heap_alloc_new w (.cells #[.int .i64 lc, .int .i64 lp, .int .i64 pb] 26))
 have HR1 := hid (Run.mk hb1 (fun _ _ => rfl) : Run w (w.alloc (.cells #[.int .i64 lc, .int .i64 lp, .int .i64 pb] 26)) (fun _ => 0))
 have HDE := hid (fun W O (hr : Run w W O) => decodeN_any (L := 0) hr trivial lc lp pb hl hpb s hs n most h1 h2 h3 h4)
 obtain ⟨R, hR⟩ : ∃ R, R = readR lc lp pb s n most := ⟨_, rfl⟩
 rw [<- hR] at HDE ⊢
 clear hR hb1 hl hpb hs h1 h2 h3 h4
 go_enter Tryz.func9, Tryz.ntmps9
 go_upto_region 1 with (fail)
 generalize w.alloc (.cells #[.int .i64 lc, .int .i64 lp, .int .i64 pb] 26) = W1 at *
 go_wp2_with fail
 refine (HDE.out _ _ HR1.out).mono ?_
 rintro x w2 ⟨O2, hr2, h⟩
 have HR2 := hid hr2
 clear hr2 HDE HR1 p0 p1 p2
 rcases h with ⟨rfl, rfl⟩ | ⟨i, D, m, d, acc, rfl, rfl, hL, _, _⟩
 · have HB3 : Hid (Below w.heap.size w (w2.alloc (.cells #[.pointer none, .nilIface, .int .i64 0] 63))) := hid (Pk.bel_alloc _ HR2.out.below)
   unfold zeroDv
   go_wp2_with fail
   go_ret2
   exact ⟨rfl, HB3.out⟩
 · have hb3 : Below w2.heap.size w2 (w2.alloc (.cells #[.pointer (some ⟨i.mo, 0, none⟩), .iface 92 (.agg #[.pointer (some ⟨D, 0, none⟩)]), .int .i64 n] 63)) := (Below.refl _ _).alloc (Nat.le_refl _) _
   have HL3 := hid (hL.news hb3)
   obtain ⟨q0, q1, q2⟩ := three_cells (heap_alloc_new w2 (.cells #[.pointer (some ⟨i.mo, 0, none⟩), .iface 92 (.agg #[.pointer (some ⟨D, 0, none⟩)]), .int .i64 n] 63))
   clear hL hb3
   unfold dv
   go_upto_region 2 with (fail)
   generalize w2.alloc (.cells #[.pointer (some ⟨i.mo, 0, none⟩), .iface 92 (.agg #[.pointer (some ⟨D, 0, none⟩)]), .int .i64 n] 63) = w3 at *
   have HTX := hid (model_text HL3.out.one)
   have HB3 := hid HL3.out.run.below
   go_wp2_with fail
   refine HTX.out.mono ?_
   rintro x w4 ⟨rfl, rfl⟩
   clear HTX HL3 HR2 q0 q1 q2
   go_wp2_with fail
   go_ret2
   exact ⟨rfl, HB3.out⟩
end Go.Proofs.YtfpoabeihpfeiaaGreat.Lz
end
section
namespace Go.Proofs.YtfpoabeihpfeiaaGreat.Lz
open Go.RowKit
open Rc Mo
open Pk (Rp Pt four IsPts)
def PkTo (w : World) (R : Option (Ms × List Pt)) (x : Ending) (w' : World) : Prop :=
 (x = .returned (.tuple #[.slice none 0 0, .int .i64 6]) /\ R = none /\ Below w.heap.size w w') \/ ∃ v m acc, x = .returned (.tuple #[v, .int .i64 0]) /\ R = some (m, acc) /\ Below w.heap.size w w' /\ w'.ownsRow 0 37 4 v acc.length (Pl.flatP acc) /\ ∀ q ∈ acc, q.b < 256
theorem packets_any (lc lp pb : Nat) (hl : lc + lp <= 4) (hpb : pb <= 4) (s : ByteArray) (hs : s.size <= 1000000000000) (n most : Int) (h1 : 0 <= most) (h2 : most <= 1000000000) (h3 : n <= most) (h4 : -9223372036854775808 <= n) (w : World) :
  Calls Tryz.prog 8 #[.string s, .agg #[.int .i64 lc, .int .i64 lp, .int .i64 pb], .int .i64 n, .int .i64 most] w (PkTo w (readR lc lp pb s n most)) := by
 have hb1 : Below w.heap.size w ((w.alloc (.cells #[.int .i64 lc, .int .i64 lp, .int .i64 pb] 26)).alloc (.cells #[.slice none 0 0] 28)) := ((Below.refl _ _).alloc (Nat.le_refl _) _).alloc (by simp) _
 have hX := heap_alloc_new w (.cells #[.int .i64 lc, .int .i64 lp, .int .i64 pb] 26)
 have hX2 := (Below.heap_alloc (w.alloc (.cells #[.int .i64 lc, .int .i64 lp, .int .i64 pb] 26)) (.cells #[.slice none 0 0] 28) _ (lt_of_heap hX)).trans hX
 have hz := heap_alloc_new (w.alloc (.cells #[.int .i64 lc, .int .i64 lp, .int .i64 pb] 26)) (.cells #[.slice none 0 0] 28)
 rw [World.size_alloc] at hz
 obtain ⟨p0, p1, p2⟩ := three_cells hX2
 have HR1 := hid (show Run w _ (fun k => if k = w.heap.size + 1 then 10 else 0) from ⟨hb1, fun k hk => by simp; omega⟩)
 have HT1 : Hid (TellAt _ (fun k => if k = w.heap.size + 1 then 10 else 0) (w.heap.size + 1) []) := hid ⟨.slice none 0 0, ⟨hz, by simp⟩, HeldP.nil _ _ _⟩
 have HDE := hid (fun W O L (hr : Run w W O) (ht : TellAt W O L []) => decodeP_any (L := L) hr ht lc lp pb hl hpb s hs n most h1 h2 h3 h4)
 have hmf : ∀ (fn : Fn) (first cap : Array Value) (W : World), (Instr.makeFunc fn first cap).run Tryz.prog W = .ok (.func fn first cap) W := fun _ _ _ _ => rfl
 obtain ⟨R, hR⟩ : ∃ R, R = readR lc lp pb s n most := ⟨_, rfl⟩
 rw [<- hR] at HDE ⊢
 clear hR hb1 hl hpb hs h1 h2 h3 h4 hX hX2 hz
 go_enter Tryz.func8, Tryz.ntmps8
 go_upto_region 2 with (fail)
 generalize (w.alloc (.cells #[.int .i64 lc, .int .i64 lp, .int .i64 pb] 26)).alloc (.cells #[.slice none 0 0] 28) = W1 at *
 generalize (fun k => if k = w.heap.size + 1 then 10 else 0) = O1 at *
 go_wp2_with fail
 refine (HDE.out _ _ _ HR1.out HT1.out).mono ?_
 rintro x w2 ⟨O2, hr2, h⟩
 have HR2 := hid hr2
 clear hr2 HDE HR1 HT1 p0 p1 p2
 rcases h with ⟨rfl, rfl⟩ | ⟨i, D, m, d, acc, rfl, rfl, hL, hT, hBY⟩
 · have HB3 : Hid (Below w.heap.size w (w2.alloc (.cells #[.pointer none, .nilIface, .int .i64 0] 63))) := hid (Pk.bel_alloc _ HR2.out.below)
   unfold zeroDv
   go_wp2_with fail
   go_ret2
   exact .inl ⟨rfl, rfl, HB3.out⟩
 · have hb3 : Below w2.heap.size w2 (w2.alloc (.cells #[.pointer (some ⟨i.mo, 0, none⟩), .iface 92 (.agg #[.pointer (some ⟨D, 0, none⟩)]), .int .i64 n] 63)) := (Below.refl _ _).alloc (Nat.le_refl _) _
   have HB3 := hid (Pk.bel_new hb3 HR2.out.below)
   obtain ⟨v, hv1, hv2⟩ := (hT.idle (Step.of_below_same hb3 O2)).ex
   have c0 := hv1.cell 0
   simp at c0
   have HV2 := hid hv2
   clear hL hT hb3 hv1 hv2 HR2
   unfold dv
   go_upto_region 3 with (fail)
   generalize w2.alloc (.cells #[.pointer (some ⟨i.mo, 0, none⟩), .iface 92 (.agg #[.pointer (some ⟨D, 0, none⟩)]), .int .i64 n] 63) = w3 at *
   go_wp2_with fail
   go_ret2
   exact .inr ⟨v, m, acc, rfl, rfl, HB3.out, HV2.out.row, hBY⟩
end Go.Proofs.YtfpoabeihpfeiaaGreat.Lz
end
section
namespace Go.Proofs.YtfpoabeihpfeiaaGreat.Lz
open Go.RowKit
open Rc Mo
open Pk (Rp Pt applyL applyL_more applyL_none applyL_long fit_some)
theorem fitM_mono {n M : Int} {m : Ms} {p : Pt} {y : Int × Int × Rp} (h : fitM n m p = some y) (hM : n <= M) : fitM M m p = some y := by
 obtain ⟨h1, h2⟩ := fitM_some h
 unfold fitM
 rw [h1]
 simp only
 rw [if_pos (by omega)]
theorem runs_mono {n M : Int} (hM : n <= M) : ∀ {l : List Pt} {x : Pr}, FitAll n x l -> FitAll M x l /\ runs M x l = runs n x l
 | [], x, _ => ⟨trivial, rfl⟩
 | p :: l, x, h => by
  obtain ⟨⟨hb, y, hy⟩, h2⟩ := h
  have hyM := fitM_mono hy hM
  have e : x.put M p = x.put n p := by rw [Pr.put_yes hy, Pr.put_yes hyM]
  obtain ⟨i1, i2⟩ := runs_mono hM h2
  refine ⟨⟨⟨hb, y, hyM⟩, by rw [e]; exact i1⟩, ?_⟩
  show runs M (x.put M p) l = runs n (x.put n p) l
  rw [e]
  exact i2
theorem fitAll_apply {N : Nat} {t : List UInt8} : ∀ (l : List Pt) (x : Pr), x.m.r.pos -> (∀ p ∈ l, p.b < 256) -> applyL N l x.m.l x.m.r = (t, 0) -> FitAll (N : Int) x l /\ (runs (N : Int) x l).m.l = t
 | [], x, _, _, h => by
  simp only [applyL, Prod.mk.injEq, and_true] at h
  exact ⟨trivial, h⟩
 | p :: l, x, hr, hb, h => by
  cases hf : p.fit (x.m.l.length : Int) x.m.r with
  | none => rw [applyL_none hf] at h; cases h
  | some y =>
   obtain ⟨d, n, s⟩ := y
   cases ht : p.tell N x.m.l d n with
   | none => rw [applyL_long hf ht] at h; cases h
   | some l' =>
    rw [applyL_more hf ht] at h
    obtain ⟨hs, hk⟩ := fit_some hf hr
    have key : n <= (N : Int) - (x.m.l.length : Int) /\ (x.m.tell p (d, n, s)).l = l' := by
     unfold Pk.Pt.tell at ht
     rcases hk with ⟨hk, rfl⟩ | ⟨hk, _, _, h3, _⟩
     · rw [if_pos hk] at ht
       split at ht
       · refine ⟨by omega, ?_⟩
         simp only [Ms.tell, if_pos hk]
         exact Option.some.inj ht
       · cases ht
     · rw [if_neg hk] at ht
       split at ht
       · refine ⟨by omega, ?_⟩
         simp only [Ms.tell, if_neg hk]
         exact Option.some.inj ht
       · cases ht
    have hy : fitM (N : Int) x.m p = some (d, n, s) := by
     unfold fitM
     rw [hf]
     simp only
     rw [if_pos key.1]
    have hput := Pr.put_yes (most := (N : Int)) hy
    have hpl : (x.put (N : Int) p).m.l = l' := by rw [hput]; exact key.2
    have hpr : (x.put (N : Int) p).m.r = s := by rw [hput]; rfl
    obtain ⟨i1, i2⟩ := fitAll_apply l (x.put (N : Int) p) (by rw [hpr]; exact hs) (fun q hq => hb q (List.mem_cons_of_mem _ hq)) (by rw [hpl, hpr]; exact h)
    exact ⟨⟨⟨hb p List.mem_cons_self, _, hy⟩, i1⟩, i2⟩
theorem put_pos {most : Int} {x : Pr} {p : Pt} {y : Int × Int × Rp} (hr : x.m.r.pos) (hy : fitM most x.m p = some y) : (x.put most p).m.r.pos /\ x.m.l.length < (x.put most p).m.l.length := by
 obtain ⟨h1, _, h3⟩ := tell_grows hy hr
 rw [Pr.put_yes hy]
 exact ⟨h3, by simp only; omega⟩
theorem runs_len {most : Int} : ∀ {l : List Pt} {x : Pr}, x.m.r.pos -> FitAll most x l -> x.m.l.length + l.length <= (runs most x l).m.l.length /\ (runs most x l).m.r.pos
 | [], x, h, _ => ⟨Nat.le_refl _, h⟩
 | p :: l, x, h, hl => by
  obtain ⟨⟨_, y, hy⟩, h2⟩ := hl
  obtain ⟨h3, h4⟩ := put_pos h hy
  obtain ⟨i1, i2⟩ := runs_len (l := l) h3 h2
  refine ⟨?_, i2⟩
  have e : runs most x (p :: l) = runs most (x.put most p) l := rfl
  rw [e, List.length_cons]
  omega
theorem runs_parts {most : Int} : ∀ {l : List Pt} {x : Pr} (k : Nat), FitAll most x l -> FitAll most x (l.take k) /\ FitAll most (runs most x (l.take k)) (l.drop k) /\ runs most x l = runs most (runs most x (l.take k)) (l.drop k)
 | l, x, 0, h => ⟨trivial, h, rfl⟩
 | [], x, k + 1, _ => ⟨trivial, trivial, rfl⟩
 | p :: l, x, k + 1, h => by
  obtain ⟨i1, i2, i3⟩ := runs_parts (l := l) (x := x.put most p) k h.2
  exact ⟨⟨h.1, i1⟩, i2, i3⟩
theorem read_run {N : Nat} {lc lp pb : Nat} {l : List Pt} {X : Pr} (hl : FitAll (N : Int) (xNew lc lp pb) l) (hX : X = runs (N : Int) (xNew lc lp pb) l) (hN : X.m.l.length = N) (hN2 : N < 4611686018427387904) :
  readR lc lp pb ⟨(encB X false).toArray⟩ (N : Int) (N : Int) = some (X.m, l) := by
 have h0 : (xNew lc lp pb).s.Ok := start_ok lc lp pb
 have hpos : (xNew lc lp pb).m.r.pos := by unfold xNew mNew Pk.Rp.pos; simp
 have hx : (xNew lc lp pb).s = ⟨Enc.start, qNew⟩ := rfl
 have hmo : mostOf (N : Int) (N : Int) = (N : Int) := by unfold mostOf; split <;> rfl
 have hok := runs_ok (most := (N : Int)) (l := l) h0
 rw [<- hX] at hok
 have hs := ahead_self (e := X.s.e) (by have := hok.fine.1; omega)
 have ha0 := ahead_runs (most := (N : Int)) (l := l) (x := xNew lc lp pb) 0 h0 (by rw [<- hX]; exact hs)
 have hrd : encB X false = 0 :: be (X.s.e.turns + 4) X.s.e.low ++ [] := by simp [encB, Enc.bytes]
 have ha1 : Ahead Enc.start X.s.e.low X.s.e.turns := by
  have := ha0
  simp only [List.take_zero] at this
  exact this
 have hst := follows_start (more := []) ha1
 rw [<- hrd] at hst
 have hf0 : Fol ⟨Dec.read (encB X false), qNew⟩ (xNew lc lp pb).s X.s.e.low X.s.e.turns [] := ⟨hst, rfl⟩
 have hr := fol_runs h0 hl (by rw [<- hX]; exact hs) hf0
 have hlen := (runs_len hpos hl).1
 rw [<- hX, hN] at hlen
 have hll : l.length <= N := by have : (xNew lc lp pb).m.l.length = 0 := rfl; omega
 have key : ∀ (j k f : Nat), j + k = l.length -> j < f -> decR (N : Int) (N : Int) f (runs (N : Int) (xNew lc lp pb) (l.take k)).m (dsN (N : Int) (xNew lc lp pb) l ⟨Dec.read (encB X false), qNew⟩ k) (l.take k) = some (X.m, l) := by
  intro j
  induction j with
  | zero =>
   intro k f hk hf
   obtain ⟨f', rfl⟩ : ∃ f', f = f' + 1 := ⟨f - 1, by omega⟩
   have hkl : k = l.length := by omega
   have hfol := hr k (by omega)
   rw [hkl, List.take_length, <- hX] at hfol ⊢
   obtain ⟨r1, r2, r3⟩ := follows_end hfol.f
   have hlk : lacksB (N : Int) X.m = false := by unfold lacksB; rw [hN]; simp
   have hov : over (dsN (N : Int) (xNew lc lp pb) l ⟨Dec.read (encB X false), qNew⟩ l.length) = true := by unfold over; simp [Dec.done, r1, r2, r3]
   rw [decR_stop (by rw [hlk]; simp), hov, if_pos rfl]
  | succ j ih =>
   intro k f hk hf
   obtain ⟨f', rfl⟩ : ∃ f', f = f' + 1 := ⟨f - 1, by omega⟩
   have hkl : k < l.length := by omega
   have hlk : l[k]? = some l[k] := List.getElem?_eq_getElem hkl
   obtain ⟨hb, y, hy⟩ := fitAll_at hl hlk
   have ha2 := ahead_runs (most := (N : Int)) (l := l) (x := xNew lc lp pb) (k + 1) h0 (by rw [<- hX]; exact hs)
   rw [runs_take hlk] at ha2
   have hfol := hr k (by omega)
   obtain ⟨g1, _⟩ := fol_put (runs_ok h0) hb hy ha2 hfol
   rw [<- runs_take hlk] at g1
   obtain ⟨p1, p2, p3⟩ := runs_parts k hl
   have hp2 := (runs_len (runs_len hpos p1).2 p2).1
   rw [<- p3, <- hX, hN, List.length_drop] at hp2
   have hlack : lacksB (N : Int) (runs (N : Int) (xNew lc lp pb) (l.take k)).m = true := by unfold lacksB; simp; omega
   rw [decR_more ⟨hlack, hfol.f.1⟩ g1]
   have htk : l.take k ++ [l[k]] = l.take (k + 1) := by rw [List.take_succ_eq_append_getElem hkl]
   rw [htk]
   exact ih (k + 1) f' (by omega) (by omega)
 unfold readR
 rw [hmo]
 have := key l.length 0 ((N : Int).toNat + 1) (by omega) (by simp; omega)
 rw [List.take_zero] at this
 simpa [dsN, runs, xNew] using this
end Go.Proofs.YtfpoabeihpfeiaaGreat.Lz
end
section
namespace Go.Proofs.YtfpoabeihpfeiaaGreat.Lz
open Go.RowKit
open Rc Mo
open Pk (Rp Pt applyL IsPts)
end Go.Proofs.YtfpoabeihpfeiaaGreat.Lz
end
end
section
namespace Go.Proofs.YtfpoabeihpfeiaaGreat.Lz
open Go.RowKit
open Rc Mo
open Pk (Rp Pt four IsPts)
theorem params11_any (x0 x1 x2 : Nat) (h0 : x0 < 256) (h1 : x1 < 256) (h2 : x2 < 256) (w : World) :
  Calls Tryz.prog 6 #[.agg #[.int .u8 x0, .int .u8 x1, .int .u8 x2]] w fun x w' => x = .returned (.agg #[.int .i64 (parL x0 : Int), .int .i64 (parP x0 x1 : Int), .int .i64 ((x2 % 5 : Nat) : Int)]) /\ Below w.heap.size w w' := by
 have hb1 : Below w.heap.size w (w.alloc (.cells #[.int .u8 x0, .int .u8 x1, .int .u8 x2] 22)) := (Below.refl _ _).alloc (Nat.le_refl _) _
 have hz := heap_alloc_new w (.cells #[.int .u8 x0, .int .u8 x1, .int .u8 x2] 22)
 have hy := heap_alloc_new (w.alloc (.cells #[.int .u8 x0, .int .u8 x1, .int .u8 x2] 22)) (.cells #[.int .i64 0, .int .i64 0, .int .i64 0] 26)
 have hb2 := hb1.alloc (by simp) (.cells #[.int .i64 0, .int .i64 0, .int .i64 0] 26)
 have hz2 := (Below.heap_alloc (w.alloc (.cells #[.int .u8 x0, .int .u8 x1, .int .u8 x2] 22)) (.cells #[.int .i64 0, .int .i64 0, .int .i64 0] 26) _ (lt_of_heap hz)).trans hz
 rw [World.size_alloc] at hy
 have e0 := mod5 x0
 have e2 := mod5 x2
 have l0 : x0 % 5 < 5 := Nat.mod_lt _ (by omega)
 have l2 : x2 % 5 < 5 := Nat.mod_lt _ (by omega)
 have e1 := modL (x0 % 5) x1 l0
 have l1 : x1 % (5 - x0 % 5) < 5 := Nat.lt_of_lt_of_le (Nat.mod_lt _ (by omega)) (by omega)
 obtain ⟨a, ha⟩ : ∃ a, a = x0 % 5 := ⟨_, rfl⟩
 obtain ⟨c, hc⟩ : ∃ c, c = x2 % 5 := ⟨_, rfl⟩
 obtain ⟨b, hb⟩ : ∃ b, b = x1 % (5 - a) := ⟨_, rfl⟩
 rw [<- ha] at e0 l0 e1 l1
 rw [<- hc] at e2 l2
 rw [<- hb] at e1 l1
 have HA : Hid (parL x0 = a /\ parP x0 x1 = b /\ x2 % 5 = c) := hid ⟨ha.symm, by unfold parP; rw [<- ha, <- hb], hc.symm⟩
 clear ha hb hc
 go_enter Tryz.func6, Tryz.ntmps6
 go_upto_region 1 with (fail)
 have HB2 := hid hb2
 generalize (w.alloc (.cells #[.int .u8 x0, .int .u8 x1, .int .u8 x2] 22)).alloc (.cells #[.int .i64 0, .int .i64 0, .int .i64 0] 26) = W2 at *
 obtain ⟨p0, p1, p2⟩ := tri hz2
 obtain ⟨q0, q1, q2⟩ := tri hy
 have f0 : W2.frozen? ⟨w.heap.size + 1, 0, none⟩ = false := by simp [World.frozen?, hy]
 have f1 : W2.frozen? ⟨w.heap.size + 1, 1, none⟩ = false := by simp [World.frozen?, hy]
 have f2 : W2.frozen? ⟨w.heap.size + 1, 2, none⟩ = false := by simp [World.frozen?, hy]
 have hpl := lt_of_heap hz2
 clear hb1 hz hb2 
 generalize hPe : w.heap.size = P at *
 go_upto_region 2 with (fail)
 have hne : (5 - (a : Int)) ≠ 0 := by omega
 have w1 : IntKind.i64.wrap (5 - (a : Int)) = 5 - a := by rw [IntKind.wrap_i64]; omega
 have w2 : IntKind.i64.wrap (b : Int) = b := by rw [IntKind.wrap_i64]; omega
 go_region
 all_goals
  go_wp2_with fail
  have b0 := heap_setCell_same W2 _ 0 _ _ (.int .i64 a) hy
  have b1 := heap_setCell_same _ _ 1 _ _ (.int .i64 b) b0
  have b2 := heap_setCell_same _ _ 2 _ _ (.int .i64 c) b1
  have hb3 : Below P w (((W2.setCell ⟨P + 1, 0, none⟩ (.int .i64 a)).setCell ⟨P + 1, 1, none⟩ (.int .i64 b)).setCell ⟨P + 1, 2, none⟩ (.int .i64 c)).drew :=
   Pk.bel_drew (((HB2.out.setCell (p := ⟨P + 1, 0, none⟩) (by simp) _).setCell (p := ⟨P + 1, 1, none⟩) (by simp) _).setCell (p := ⟨P + 1, 2, none⟩) (by simp) _)
  simp at b2
  have b3 : (((W2.setCell ⟨P + 1, 0, none⟩ (.int .i64 a)).setCell ⟨P + 1, 1, none⟩ (.int .i64 b)).setCell ⟨P + 1, 2, none⟩ (.int .i64 c)).drew.heap[P + 1]? = some (.cells #[.int .i64 a, .int .i64 b, .int .i64 c] 26 (0, 0)) := b2
  generalize (((W2.setCell ⟨P + 1, 0, none⟩ (.int .i64 a)).setCell ⟨P + 1, 1, none⟩ (.int .i64 b)).setCell ⟨P + 1, 2, none⟩ (.int .i64 c)).drew = W3 at *
  clear b0 b1 b2 p0 p1 p2 q0 q1 q2 f0 f1 f2
  obtain ⟨r0, r1, r2⟩ := tri b3
  refine bodyPost_ret (v := .agg #[.int .i64 a, .int .i64 b, .int .i64 c]) ?_ rfl ?_
  · simp [results, Tryz.results6, go_sem, r0, r1, r2]
  · rw [HA.out.1, HA.out.2.1, HA.out.2.2, hPe]
    exact ⟨rfl, hb3⟩
end Go.Proofs.YtfpoabeihpfeiaaGreat.Lz
end
