/-
  Package lzdec: the contract of run, whoever is told the packets.
-/
import Derived.Test.YtfpoabeihpfeiaaGreatPk34

set_option maxRecDepth 100000
set_option maxHeartbeats 16000000
set_option linter.unusedVariables false
set_option linter.unusedSimpArgs false
open Go.Lib (hid)
namespace Go.Proofs.YtfpoabeihpfeiaaGreat.Lz
open Go.RowKit
open Rc Mo
open Pk (Rp Pt four IsPts)
theorem Whole_len {w : World} {O : Paint} {i : Mid} {m : Ms} {Q : Qs} (h : Whole w O i m Q) : m.l.length <= i.most.toNat := by
 have h1 := h.len
 have h2 := h.wmE
 rw [h2] at h1
 exact h1
theorem yes {A B : Prop} (_ : A) (_ : B) : True := trivial
theorem TellAt.idle {w w' : World} {O O' : Paint} {L : Nat} {acc : List Pt} (h : TellAt w O L acc) (hs : Step [] w O w' O') : TellAt w' O' L acc := h.step hs (by simp) (by simp)
theorem TellAt.get {w w' : World} {O O' : Paint} {L : Nat} {acc : List Pt} (h : TellAt w O L acc) (hs : Step [6, 1, 2] w O w' O') : TellAt w' O' L acc := h.step hs (by simp) (by simp)
def RunRelP (w00 : World) (O00 : Paint) (w0 : World) (i : Mid) (D tot X L : Nat) (n most : Int) (R : Option (Ms × List Pt)) (f : Nat) (wr : World) : Prop :=
 ∃ m d O acc, LockT w0 i D m d tot wr O /\ TellAt wr O L acc /\ Blk wr O 8 X (.cells #[.pointer (some ⟨i.mo, 0, none⟩), .iface 92 (.agg #[.pointer (some ⟨D, 0, none⟩)]), .int .i64 n] 63 (0, 0)) /\ decR n most f m d acc = R /\ most.toNat - m.l.length < f /\ acc.length <= m.l.length /\ Step [6, 1, 2, 7, 10] w00 O00 wr O /\ ∀ q ∈ acc, q.b < 256
def RunToP (w00 : World) (O00 : Paint) (w0 : World) (i : Mid) (D tot L : Nat) (R : Option (Ms × List Pt)) (x : Ending) (w' : World) : Prop :=
 x = .returned (.bool R.isSome) /\ ∃ m d O acc, LockT w0 i D m d tot w' O /\ TellAt w' O L acc /\ Step [6, 1, 2, 7, 10] w00 O00 w' O /\ (∀ q ∈ acc, q.b < 256) /\ ∀ y, R = some y -> y = (m, acc)
theorem runP_any {w0 w : World} {OE : Paint} {i : Mid} {m : Ms} {d : Ds} {D tot L : Nat} {n most : Int} (h : LockT w0 i D m d tot w OE) (ht : TellAt w OE L []) (hm : i.most = most) (hm1 : most <= 1000000000) (hml : m.l = []) {f : Nat} (hf : most.toNat < f) :
  Calls Tryz.prog 43 #[dv i.mo D n, .func (.func 20) #[] #[.pointer (some ⟨L, 0, none⟩)]] w (RunToP w OE w0 i D tot L (decR n most f m d [])) := by
 have hb1 : Below w.heap.size w (w.alloc (.cells #[.pointer (some ⟨i.mo, 0, none⟩), .iface 92 (.agg #[.pointer (some ⟨D, 0, none⟩)]), .int .i64 n] 63)) := (Below.refl _ _).alloc (Nat.le_refl _) _
 have hs1 := Step.of_below hb1 OE 8
 have hX : Blk _ (Step.paint OE w 8) 8 _ _ := ⟨heap_alloc_new w (.cells #[.pointer (some ⟨i.mo, 0, none⟩), .iface 92 (.agg #[.pointer (some ⟨D, 0, none⟩)]), .int .i64 n] 63), Step.paint_new (Nat.le_refl _)⟩
 have HREL : Hid (∃ f', RunRelP w OE w0 i D tot w.heap.size L n most (decR n most f m d []) f' (w.alloc (.cells #[.pointer (some ⟨i.mo, 0, none⟩), .iface 92 (.agg #[.pointer (some ⟨D, 0, none⟩)]), .int .i64 n] 63))) := hid ⟨f, m, d, _, [], h.idle hs1, ht.step hs1 (by simp) (by simp), hX, rfl, by rw [hml]; simp; omega, by simp, hs1.nil, by simp⟩
 have HMM := hid hm
 clear h ht hb1 hs1 hX hml hf hm
 generalize decR n most f m d [] = R at *
 have HDV : Hid (dv i.mo D n = .agg #[.pointer (some ⟨i.mo, 0, none⟩), .iface 92 (.agg #[.pointer (some ⟨D, 0, none⟩)]), .int .i64 n]) := hid rfl
 rw [HDV.out]
 go_enter Tryz.func43, Tryz.ntmps43
 go_wp2_with fail
 generalize w.alloc (.cells #[.pointer (some ⟨i.mo, 0, none⟩), .iface 92 (.agg #[.pointer (some ⟨D, 0, none⟩)]), .int .i64 n] 63) = W1 at *
 generalize w.heap.size = X at *
 go_loopw [] (fun wr => ∃ f', RunRelP w OE w0 i D tot X L n most R f' wr) (fun wr => least (fun f' => RunRelP w OE w0 i D tot X L n most R f' wr))
 case atStart => exact HREL.out
 case round =>
  clear HREL
  have hrel2 := least_is hrel
  obtain ⟨g, hg⟩ : ∃ g, g = least (fun f' => RunRelP w OE w0 i D tot X L n most R f' wr) := ⟨_, rfl⟩
  have HG := hid hg
  rw [<- hg] at hrel2
  clear hrel hg
  obtain ⟨m, d, O, acc, hL, hT, hX, hR, hfu, hacc, hST, hBY⟩ := hrel2
  have HST := hid hST
  have HBY := hid hBY
  clear hST hBY
  have hlen := Whole_len hL.one
  rw [HMM.out] at hlen
  obtain ⟨f2, rfl⟩ : ∃ f2, g = f2 + 1 := ⟨g - 1, by omega⟩
  have hml : m.l.length <= 1000000000 := by omega
  obtain ⟨p0, p1, p2⟩ := three_cells hX.1
  have HL := hid hL
  have HT := hid hT
  have HX := hid hX
  have HLK := hid (lacks_any hL n hml)
  rw [HDV.out] at HLK
  have a3 := n_bad D
  have a4 := m_bad D
  have a5 := n_packet D
  have a6 := m_packet D
  clear hL hT hX
  go_wp2_with fail
  refine HLK.out.mono ?_
  rintro x w2 ⟨rfl, hb2⟩
  have hs2 := Step.of_below_same hb2 O
  have HL2 := hid (HL.out.idle hs2)
  have HST2 := hid (HST.out.trans hs2.nil)
  clear HST
  have HT2 := hid (TellAt.idle HT.out hs2)
  have hX2 := HX.out.step hs2 (by simp)
  have HX2 := hid hX2
  obtain ⟨p0, p1, p2⟩ := three_cells hX2.1
  have HBA := hid (dec_bad HL2.out.dec)
  have HOV := hid (over_any HL2.out n)
  rw [HDV.out] at HOV
  have HPA := hid (packet_any HL2.out)
  clear hb2 hs2 hX2 HL HT HX HLK
  cases hlk : lacksB n m with
  | false =>
   have hRR := hid (hR.symm.trans (decR_stop (by rw [hlk]; simp)))
   as_aux_lemma =>
   go_wp2_with fail
   refine HOV.out.mono ?_
   rintro x w3 ⟨rfl, hb3⟩
   have hs3 := Step.of_below_same hb3 O
   have HE : Hid (RunToP w OE w0 i D tot L R (.returned (.bool (d.d.done && !d.d.bad))) w3) := hid (by
    refine ⟨?_, m, d, O, acc, HL2.out.idle hs3, TellAt.idle HT2.out hs3, HST2.out.trans hs3.nil, HBY.out, ?_⟩
    · rw [hRR.out]; show _ = Ending.returned (.bool (Option.isSome (if (d.d.done && !d.d.bad) = true then _ else _))); cases (d.d.done && !d.d.bad) <;> rfl
    · intro y hy; rw [hRR.out] at hy; split at hy <;> simp_all)
   clear hs3 hb3 HOV
   go_wp2_with fail
   go_ret
   exact HE.out
  | true =>
   cases hbd : d.d.bad with
   | true =>
    have hov : over d = false := by unfold over; rw [hbd]; simp
    have hRR : R = none := by rw [hR.symm.trans (decR_stop (by rw [hbd]; simp)), hov]; rfl
    have HRR := hid hRR
    rw [show (d.d.done && !d.d.bad) = false from hov] at HOV
    rw [hbd] at HBA
    clear hov hRR
    as_aux_lemma =>
    go_wp2_with fail
    refine HBA.out.mono ?_
    rintro x w3 ⟨rfl, rfl⟩
    go_wp2_with fail
    refine HOV.out.mono ?_
    rintro x w3 ⟨rfl, hb3⟩
    have hs3 := Step.of_below_same hb3 O
    have HE : Hid (RunToP w OE w0 i D tot L R (.returned (.bool false)) w3) := hid ⟨by rw [HRR.out]; rfl, m, d, O, acc, HL2.out.idle hs3, TellAt.idle HT2.out hs3, HST2.out.trans hs3.nil, HBY.out, fun y hy => by rw [HRR.out] at hy; cases hy⟩
    clear hs3 hb3 HOV
    go_wp2_with fail
    go_ret
    exact HE.out
   | false =>
    have HPR := hid (And.intro hlk hbd)
    have HPOS := hid HL2.out.one.pos
    have HPB := hid (codeP_b (⟨HL2.out.dec.2, HL2.out.one.q⟩ : d.Ok) m)
    rw [hbd] at HBA
    obtain ⟨z, hz⟩ : ∃ z, z = got i.most m (d.codeP m).pt := ⟨_, rfl⟩
    rw [<- hz] at HPA
    rw [HMM.out] at hz
    obtain ⟨p, e, k, m'⟩ := z
    simp only at HPA
    have HGT := hid hz.symm
    clear hz
    go_wp2_with fail
    refine HBA.out.mono ?_
    rintro x w3 ⟨rfl, rfl⟩
    go_wp2_with fail
    refine HPA.out.mono ?_
    rintro x w4 ⟨rfl, O4, hs4, hL4⟩
    have hT4 := TellAt.get HT2.out hs4
    have hX4 := HX2.out.step hs4 (by simp)
    have hb5 : Below w4.heap.size w4 (w4.alloc (.cells #[.int .i64 p.k, .int .i64 p.d, .int .i64 p.n, .int .u8 p.b] 37)) := (Below.refl _ _).alloc (Nat.le_refl _) _
    have hs5 := Step.of_below hb5 O4 9
    have HL5 := hid (hL4.idle hs5)
    have HST5 := hid ((HST2.out.trans (hs4.mono (by simp))).trans hs5.nil)
    clear HST2
    have HT5 := hid (TellAt.idle hT4 hs5)
    have HX5 := hid (hX4.step hs5 (by simp))
    have hz5 := heap_alloc_new w4 (.cells #[.int .i64 p.k, .int .i64 p.d, .int .i64 p.n, .int .u8 p.b] 37)
    clear hs4 hL4 hT4 hX4 hb5 hs5 HBA HPA HL2 HT2 HX2 HOV
    unfold Pk.Pt.val
    go_upto_region 3 with (fail)
    generalize w4.alloc (.cells #[.int .i64 p.k, .int .i64 p.d, .int .i64 p.n, .int .u8 p.b] 37) = w5 at *
    generalize Step.paint O4 w4 9 = O5 at *
    generalize w4.heap.size = Y at *
    obtain ⟨⟨q0, q1, q2, q3⟩, _, _⟩ := four hz5
    obtain ⟨p0, p1, p2⟩ := three_cells HX5.out.1
    cases k with
    | false =>
     have hRR := hR.symm.trans (decR_no HPR.out HGT.out)
     have HE : Hid (RunToP w OE w0 i D tot L R (.returned (.bool false)) w5) := hid ⟨by rw [hRR]; rfl, _, _, O5, acc, HL5.out, HT5.out, HST5.out, HBY.out, fun y hy => by rw [hRR] at hy; cases hy⟩
     as_aux_lemma =>
     go_wp2_with fail
     go_ret
     exact HE.out
    | true =>
     cases e with
     | true =>
      have HRR := hid (hR.symm.trans (decR_end HPR.out HGT.out))
      have HUP := hid (fun W => upto_any i.mo D n W)
      rw [HDV.out] at HUP
      as_aux_lemma =>
      go_wp2_with fail
      refine (HUP.out w5).mono ?_
      rintro x w6 ⟨rfl, hb6⟩
      have hs6 := Step.of_below_same hb6 O5
      have HL6 := hid (HL5.out.idle hs6)
      have HST6 := hid (HST5.out.trans hs6.nil)
      clear HST5
      have HT6 := hid (TellAt.idle HT5.out hs6)
      have hX6 := HX5.out.step hs6 (by simp)
      obtain ⟨p0, p1, p2⟩ := three_cells hX6.1
      have HOV := hid (over_any HL6.out n)
      rw [HDV.out] at HOV
      clear hb6 hs6 hX6 HUP HL5 HT5 HX5
      by_cases hn : n < 0
      · have hnd : decide (n < 0) = true := decide_eq_true hn
        have HRR2 : Hid (R = if over (d.code m) = true then some (m', acc) else none) := hid (by rw [HRR.out]; by_cases ho : over (d.code m) = true <;> simp [hn, ho])
        rw [hnd]
        clear hnd HRR
        go_wp2_with fail
        refine HOV.out.mono ?_
        rintro x w7 ⟨rfl, hb7⟩
        have hs7 := Step.of_below_same hb7 O5
        have HE : Hid (RunToP w OE w0 i D tot L R (.returned (.bool ((d.code m).d.done && !(d.code m).d.bad))) w7) := hid (by
         refine ⟨?_, m', d.code m, O5, acc, HL6.out.idle hs7, TellAt.idle HT6.out hs7, HST6.out.trans hs7.nil, HBY.out, ?_⟩
         · rw [HRR2.out]; show _ = Ending.returned (.bool (Option.isSome (if ((d.code m).d.done && !(d.code m).d.bad) = true then _ else _))); cases ((d.code m).d.done && !(d.code m).d.bad) <;> rfl
         · intro y hy; rw [HRR2.out] at hy; split at hy <;> simp_all)
        clear hs7 hb7 HOV
        go_wp2_with fail
        go_ret
        exact HE.out
      · have hnd : decide (n < 0) = false := decide_eq_false hn
        have hRR2 : R = none := by rw [HRR.out]; simp [hn]
        have HE : Hid (RunToP w OE w0 i D tot L R (.returned (.bool false)) w6) := hid ⟨by rw [hRR2]; rfl, m', d.code m, O5, acc, HL6.out, HT6.out, HST6.out, HBY.out, fun y hy => by rw [hRR2] at hy; cases hy⟩
        rw [hnd]
        clear hnd hRR2 HRR
        go_wp2_with fail
        go_ret
        exact HE.out
     | false =>
      obtain ⟨y, hy, hm', hpq⟩ := got_more HGT.out HPOS.out
      have HBY2 : Hid (∀ q ∈ acc ++ [p], q.b < 256) := hid (fun q hq => by
       rcases List.mem_append.1 hq with h | h
       · exact HBY.out q h
       · simp at h; subst h; rw [hpq]; exact HPB.out)
      clear hpq
      obtain ⟨g1, g2, g3⟩ := tell_grows hy HPOS.out
      rw [<- hm'] at g1 g2
      have HRR := hid ((decR_more (f := f2) (n := n) (acc := acc) HPR.out HGT.out).symm.trans hR)
      have HTE := hid (tell_pk HT5.out (by omega) p)
      have HLT := hid (show most.toNat - m'.l.length < f2 /\ (acc ++ [p]).length <= m'.l.length by constructor; omega; simp; omega)
      clear hy hm' g3
      as_aux_lemma =>
      unfold Pk.Pt.val at HTE
      go_wp2_with fail
      refine HTE.out.mono ?_
      rintro x w6 ⟨rfl, O6, hs6, hT6⟩
      have HL6 := hid (HL5.out.step hs6 (by simp) (by simp) (by simp) (by simp))
      have HST6 := hid (HST5.out.trans (hs6.mono (by simp)))
      have HX6 := hid (HX5.out.step hs6 (by simp))
      have HT6 := hid hT6
      clear hs6 hT6 HL5 HT5 HX5 HTE
      have hend : RunRelP w OE w0 i D tot X L n most R f2 w6 := ⟨m', d.code m, O6, acc ++ [p], HL6.out, HT6.out, HX6.out, HRR.out, HLT.out.1, HLT.out.2, HST6.out, HBY2.out⟩
      have HEND := hid hend
      have HLE := hid (least_le (P := fun f' => RunRelP w OE w0 i D tot X L n most R f' w6) hend)
      clear hend
      first | (go_end0; go_wp2_with fail) | go_wp2_with fail
      go_roundw
      case rel => exact ⟨f2, HEND.out⟩
      case measure => rw [<- HG.out]; have := HLE.out; omega
def RunRelN (w00 : World) (O00 : Paint) (w0 : World) (i : Mid) (D tot X L : Nat) (n most : Int) (R : Option (Ms × List Pt)) (f : Nat) (wr : World) : Prop :=
 ∃ m d O acc, LockT w0 i D m d tot wr O /\ True /\ Blk wr O 8 X (.cells #[.pointer (some ⟨i.mo, 0, none⟩), .iface 92 (.agg #[.pointer (some ⟨D, 0, none⟩)]), .int .i64 n] 63 (0, 0)) /\ decR n most f m d acc = R /\ most.toNat - m.l.length < f /\ acc.length <= m.l.length /\ Step [6, 1, 2, 7, 10] w00 O00 wr O /\ ∀ q ∈ acc, q.b < 256
def RunToN (w00 : World) (O00 : Paint) (w0 : World) (i : Mid) (D tot L : Nat) (R : Option (Ms × List Pt)) (x : Ending) (w' : World) : Prop :=
 x = .returned (.bool R.isSome) /\ ∃ m d O acc, LockT w0 i D m d tot w' O /\ True /\ Step [6, 1, 2, 7, 10] w00 O00 w' O /\ (∀ q ∈ acc, q.b < 256) /\ ∀ y, R = some y -> y = (m, acc)
theorem runN_any {w0 w : World} {OE : Paint} {i : Mid} {m : Ms} {d : Ds} {D tot L : Nat} {n most : Int} (h : LockT w0 i D m d tot w OE) (ht : True) (hm : i.most = most) (hm1 : most <= 1000000000) (hml : m.l = []) {f : Nat} (hf : most.toNat < f) :
  Calls Tryz.prog 43 #[dv i.mo D n, .func (.func 21) #[] #[]] w (RunToN w OE w0 i D tot L (decR n most f m d [])) := by
 have hb1 : Below w.heap.size w (w.alloc (.cells #[.pointer (some ⟨i.mo, 0, none⟩), .iface 92 (.agg #[.pointer (some ⟨D, 0, none⟩)]), .int .i64 n] 63)) := (Below.refl _ _).alloc (Nat.le_refl _) _
 have hs1 := Step.of_below hb1 OE 8
 have hX : Blk _ (Step.paint OE w 8) 8 _ _ := ⟨heap_alloc_new w (.cells #[.pointer (some ⟨i.mo, 0, none⟩), .iface 92 (.agg #[.pointer (some ⟨D, 0, none⟩)]), .int .i64 n] 63), Step.paint_new (Nat.le_refl _)⟩
 have HREL : Hid (∃ f', RunRelN w OE w0 i D tot w.heap.size L n most (decR n most f m d []) f' (w.alloc (.cells #[.pointer (some ⟨i.mo, 0, none⟩), .iface 92 (.agg #[.pointer (some ⟨D, 0, none⟩)]), .int .i64 n] 63))) := hid ⟨f, m, d, _, [], h.idle hs1, trivial, hX, rfl, by rw [hml]; simp; omega, by simp, hs1.nil, by simp⟩
 have HMM := hid hm
 clear h ht hb1 hs1 hX hml hf hm
 generalize decR n most f m d [] = R at *
 have HDV : Hid (dv i.mo D n = .agg #[.pointer (some ⟨i.mo, 0, none⟩), .iface 92 (.agg #[.pointer (some ⟨D, 0, none⟩)]), .int .i64 n]) := hid rfl
 rw [HDV.out]
 go_enter Tryz.func43, Tryz.ntmps43
 go_wp2_with fail
 generalize w.alloc (.cells #[.pointer (some ⟨i.mo, 0, none⟩), .iface 92 (.agg #[.pointer (some ⟨D, 0, none⟩)]), .int .i64 n] 63) = W1 at *
 generalize w.heap.size = X at *
 go_loopw [] (fun wr => ∃ f', RunRelN w OE w0 i D tot X L n most R f' wr) (fun wr => least (fun f' => RunRelN w OE w0 i D tot X L n most R f' wr))
 case atStart => exact HREL.out
 case round =>
  clear HREL
  have hrel2 := least_is hrel
  obtain ⟨g, hg⟩ : ∃ g, g = least (fun f' => RunRelN w OE w0 i D tot X L n most R f' wr) := ⟨_, rfl⟩
  have HG := hid hg
  rw [<- hg] at hrel2
  clear hrel hg
  obtain ⟨m, d, O, acc, hL, hT, hX, hR, hfu, hacc, hST, hBY⟩ := hrel2
  have HST := hid hST
  have HBY := hid hBY
  clear hST hBY
  have hlen := Whole_len hL.one
  rw [HMM.out] at hlen
  obtain ⟨f2, rfl⟩ : ∃ f2, g = f2 + 1 := ⟨g - 1, by omega⟩
  have hml : m.l.length <= 1000000000 := by omega
  obtain ⟨p0, p1, p2⟩ := three_cells hX.1
  have HL := hid hL
  have HT := hid hT
  have HX := hid hX
  have HLK := hid (lacks_any hL n hml)
  rw [HDV.out] at HLK
  have a3 := n_bad D
  have a4 := m_bad D
  have a5 := n_packet D
  have a6 := m_packet D
  clear hL hT hX
  go_wp2_with fail
  refine HLK.out.mono ?_
  rintro x w2 ⟨rfl, hb2⟩
  have hs2 := Step.of_below_same hb2 O
  have HL2 := hid (HL.out.idle hs2)
  have HST2 := hid (HST.out.trans hs2.nil)
  clear HST
  have HT2 := hid (yes HT.out hs2)
  have hX2 := HX.out.step hs2 (by simp)
  have HX2 := hid hX2
  obtain ⟨p0, p1, p2⟩ := three_cells hX2.1
  have HBA := hid (dec_bad HL2.out.dec)
  have HOV := hid (over_any HL2.out n)
  rw [HDV.out] at HOV
  have HPA := hid (packet_any HL2.out)
  clear hb2 hs2 hX2 HL HT HX HLK
  cases hlk : lacksB n m with
  | false =>
   have hRR := hid (hR.symm.trans (decR_stop (by rw [hlk]; simp)))
   as_aux_lemma =>
   go_wp2_with fail
   refine HOV.out.mono ?_
   rintro x w3 ⟨rfl, hb3⟩
   have hs3 := Step.of_below_same hb3 O
   have HE : Hid (RunToN w OE w0 i D tot L R (.returned (.bool (d.d.done && !d.d.bad))) w3) := hid (by
    refine ⟨?_, m, d, O, acc, HL2.out.idle hs3, yes HT2.out hs3, HST2.out.trans hs3.nil, HBY.out, ?_⟩
    · rw [hRR.out]; show _ = Ending.returned (.bool (Option.isSome (if (d.d.done && !d.d.bad) = true then _ else _))); cases (d.d.done && !d.d.bad) <;> rfl
    · intro y hy; rw [hRR.out] at hy; split at hy <;> simp_all)
   clear hs3 hb3 HOV
   go_wp2_with fail
   go_ret
   exact HE.out
  | true =>
   cases hbd : d.d.bad with
   | true =>
    have hov : over d = false := by unfold over; rw [hbd]; simp
    have hRR : R = none := by rw [hR.symm.trans (decR_stop (by rw [hbd]; simp)), hov]; rfl
    have HRR := hid hRR
    rw [show (d.d.done && !d.d.bad) = false from hov] at HOV
    rw [hbd] at HBA
    clear hov hRR
    as_aux_lemma =>
    go_wp2_with fail
    refine HBA.out.mono ?_
    rintro x w3 ⟨rfl, rfl⟩
    go_wp2_with fail
    refine HOV.out.mono ?_
    rintro x w3 ⟨rfl, hb3⟩
    have hs3 := Step.of_below_same hb3 O
    have HE : Hid (RunToN w OE w0 i D tot L R (.returned (.bool false)) w3) := hid ⟨by rw [HRR.out]; rfl, m, d, O, acc, HL2.out.idle hs3, yes HT2.out hs3, HST2.out.trans hs3.nil, HBY.out, fun y hy => by rw [HRR.out] at hy; cases hy⟩
    clear hs3 hb3 HOV
    go_wp2_with fail
    go_ret
    exact HE.out
   | false =>
    have HPR := hid (And.intro hlk hbd)
    have HPOS := hid HL2.out.one.pos
    have HPB := hid (codeP_b (⟨HL2.out.dec.2, HL2.out.one.q⟩ : d.Ok) m)
    rw [hbd] at HBA
    obtain ⟨z, hz⟩ : ∃ z, z = got i.most m (d.codeP m).pt := ⟨_, rfl⟩
    rw [<- hz] at HPA
    rw [HMM.out] at hz
    obtain ⟨p, e, k, m'⟩ := z
    simp only at HPA
    have HGT := hid hz.symm
    clear hz
    go_wp2_with fail
    refine HBA.out.mono ?_
    rintro x w3 ⟨rfl, rfl⟩
    go_wp2_with fail
    refine HPA.out.mono ?_
    rintro x w4 ⟨rfl, O4, hs4, hL4⟩
    have hT4 := yes HT2.out hs4
    have hX4 := HX2.out.step hs4 (by simp)
    have hb5 : Below w4.heap.size w4 (w4.alloc (.cells #[.int .i64 p.k, .int .i64 p.d, .int .i64 p.n, .int .u8 p.b] 37)) := (Below.refl _ _).alloc (Nat.le_refl _) _
    have hs5 := Step.of_below hb5 O4 9
    have HL5 := hid (hL4.idle hs5)
    have HST5 := hid ((HST2.out.trans (hs4.mono (by simp))).trans hs5.nil)
    clear HST2
    have HT5 := hid (yes hT4 hs5)
    have HX5 := hid (hX4.step hs5 (by simp))
    have hz5 := heap_alloc_new w4 (.cells #[.int .i64 p.k, .int .i64 p.d, .int .i64 p.n, .int .u8 p.b] 37)
    clear hs4 hL4 hT4 hX4 hb5 hs5 HBA HPA HL2 HT2 HX2 HOV
    unfold Pk.Pt.val
    go_upto_region 3 with (fail)
    generalize w4.alloc (.cells #[.int .i64 p.k, .int .i64 p.d, .int .i64 p.n, .int .u8 p.b] 37) = w5 at *
    generalize Step.paint O4 w4 9 = O5 at *
    generalize w4.heap.size = Y at *
    obtain ⟨⟨q0, q1, q2, q3⟩, _, _⟩ := four hz5
    obtain ⟨p0, p1, p2⟩ := three_cells HX5.out.1
    cases k with
    | false =>
     have hRR := hR.symm.trans (decR_no HPR.out HGT.out)
     have HE : Hid (RunToN w OE w0 i D tot L R (.returned (.bool false)) w5) := hid ⟨by rw [hRR]; rfl, _, _, O5, acc, HL5.out, HT5.out, HST5.out, HBY.out, fun y hy => by rw [hRR] at hy; cases hy⟩
     as_aux_lemma =>
     go_wp2_with fail
     go_ret
     exact HE.out
    | true =>
     cases e with
     | true =>
      have HRR := hid (hR.symm.trans (decR_end HPR.out HGT.out))
      have HUP := hid (fun W => upto_any i.mo D n W)
      rw [HDV.out] at HUP
      as_aux_lemma =>
      go_wp2_with fail
      refine (HUP.out w5).mono ?_
      rintro x w6 ⟨rfl, hb6⟩
      have hs6 := Step.of_below_same hb6 O5
      have HL6 := hid (HL5.out.idle hs6)
      have HST6 := hid (HST5.out.trans hs6.nil)
      clear HST5
      have HT6 := hid (yes HT5.out hs6)
      have hX6 := HX5.out.step hs6 (by simp)
      obtain ⟨p0, p1, p2⟩ := three_cells hX6.1
      have HOV := hid (over_any HL6.out n)
      rw [HDV.out] at HOV
      clear hb6 hs6 hX6 HUP HL5 HT5 HX5
      by_cases hn : n < 0
      · have hnd : decide (n < 0) = true := decide_eq_true hn
        have HRR2 : Hid (R = if over (d.code m) = true then some (m', acc) else none) := hid (by rw [HRR.out]; by_cases ho : over (d.code m) = true <;> simp [hn, ho])
        rw [hnd]
        clear hnd HRR
        go_wp2_with fail
        refine HOV.out.mono ?_
        rintro x w7 ⟨rfl, hb7⟩
        have hs7 := Step.of_below_same hb7 O5
        have HE : Hid (RunToN w OE w0 i D tot L R (.returned (.bool ((d.code m).d.done && !(d.code m).d.bad))) w7) := hid (by
         refine ⟨?_, m', d.code m, O5, acc, HL6.out.idle hs7, yes HT6.out hs7, HST6.out.trans hs7.nil, HBY.out, ?_⟩
         · rw [HRR2.out]; show _ = Ending.returned (.bool (Option.isSome (if ((d.code m).d.done && !(d.code m).d.bad) = true then _ else _))); cases ((d.code m).d.done && !(d.code m).d.bad) <;> rfl
         · intro y hy; rw [HRR2.out] at hy; split at hy <;> simp_all)
        clear hs7 hb7 HOV
        go_wp2_with fail
        go_ret
        exact HE.out
      · have hnd : decide (n < 0) = false := decide_eq_false hn
        have hRR2 : R = none := by rw [HRR.out]; simp [hn]
        have HE : Hid (RunToN w OE w0 i D tot L R (.returned (.bool false)) w6) := hid ⟨by rw [hRR2]; rfl, m', d.code m, O5, acc, HL6.out, HT6.out, HST6.out, HBY.out, fun y hy => by rw [hRR2] at hy; cases hy⟩
        rw [hnd]
        clear hnd hRR2 HRR
        go_wp2_with fail
        go_ret
        exact HE.out
     | false =>
      obtain ⟨y, hy, hm', hpq⟩ := got_more HGT.out HPOS.out
      have HBY2 : Hid (∀ q ∈ acc ++ [p], q.b < 256) := hid (fun q hq => by
       rcases List.mem_append.1 hq with h | h
       · exact HBY.out q h
       · simp at h; subst h; rw [hpq]; exact HPB.out)
      clear hpq
      obtain ⟨g1, g2, g3⟩ := tell_grows hy HPOS.out
      rw [<- hm'] at g1 g2
      have HRR := hid ((decR_more (f := f2) (n := n) (acc := acc) HPR.out HGT.out).symm.trans hR)
      have HTE := hid (tell_no p w5)
      have HLT := hid (show most.toNat - m'.l.length < f2 /\ (acc ++ [p]).length <= m'.l.length by constructor; omega; simp; omega)
      clear hy hm' g3
      as_aux_lemma =>
      unfold Pk.Pt.val at HTE
      go_wp2_with fail
      refine HTE.out.mono ?_
      rintro x w6 ⟨rfl, hb6⟩
      have hs6 := Step.of_below_same hb6 O5
      obtain ⟨O6, hO6⟩ : ∃ O6, O6 = O5 := ⟨_, rfl⟩
      have HL6 := hid (HL5.out.idle hs6)
      have HST6 := hid (HST5.out.trans hs6.nil)
      rw [<- hO6] at HST6
      have HX6 := hid (HX5.out.step hs6 (by simp))
      have HT6 : Hid True := hid trivial
      rw [<- hO6] at HL6 HX6
      clear hs6 hb6 HL5 HT5 HX5 HTE hO6
      have hend : RunRelN w OE w0 i D tot X L n most R f2 w6 := ⟨m', d.code m, O6, acc ++ [p], HL6.out, HT6.out, HX6.out, HRR.out, HLT.out.1, HLT.out.2, HST6.out, HBY2.out⟩
      have HEND := hid hend
      have HLE := hid (least_le (P := fun f' => RunRelN w OE w0 i D tot X L n most R f' w6) hend)
      clear hend
      first | (go_end0; go_wp2_with fail) | go_wp2_with fail
      go_roundw
      case rel => exact ⟨f2, HEND.out⟩
      case measure => rw [<- HG.out]; have := HLE.out; omega
end Go.Proofs.YtfpoabeihpfeiaaGreat.Lz
