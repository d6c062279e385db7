/-
  The document's bytes of a text (cassonelaw19.Written): the contract.
-/
import Derived.Test.YteacmcckhjabmaaRcxCouple
import Derived.Test.YteacmcckhjabmaaRcxLearns
import Derived.Test.YteacmcckhjabmaaLearnsTwo
import Derived.Test.YteacmcckhjabmaaPpmSpeaks
import Derived.Test.YteacmcckhjabmaaFreqRefPut
import Derived.Test.YteacmcckhjabmaaRcRefs
import Derived.Test.YteacmcckhjabmaaTails
import Derived.Deep.MidRow
set_option linter.unusedVariables false
set_option linter.unusedSimpArgs false
namespace Go.Proofs.Yteacmcckhjabmaa.Rx
open Go.RowKit
open Fq
open Cx (Tl TOk Rw tok_len)
open Pp (putP runP stepP tabK ruleN nums nums_len nums_take runP_snoc encS)
open Rc (Enc RefBlk RefAt Row be be_length Fine byte Gives)
def refs : List Nat := [40, 41, 42]
theorem refs_below {w w' : World} {O' : Paint} (h : Step refs w (fun _ => 0) w' O') : Below w.heap.size w w' := h.below (Nat.le_refl _) (fun k _ hk => by simp [refs] at hk)
/-- The document's contexts and encoder. -/
structure WrC (w : World) (O : Paint) (e M : Nat) (z : Rw × Enc) (mb : Nat) (D : Dv) (q : Rd) (j : Nat) : Prop where
  ref : RdAt w O 40 e mb D q
  enc : RefBlk w O 41 M z.2
  cp : Cp z.1 q
  hist : q.hist.length ≤ j
  n : q.n ≤ 17 * j
  rs : q.rs ≤ j
theorem WrC.idle {w w' : World} {O O' : Paint} {e M : Nat} {z : Rw × Enc} {mb : Nat} {D : Dv} {q : Rd} {j : Nat} (h : WrC w O e M z mb D q j) (hs : Step [] w O w' O') : WrC w' O' e M z mb D q j := ⟨h.ref.step hs (by simp), h.enc.step hs (by simp), h.cp, h.hist, h.n, h.rs⟩
/-- The whole array lies there. -/
theorem range_not {W : World} {Z : Nat} {N : Nat → Bool} {cs : List Value} (hcs : setA N = cs.toArray) (h : W.heap[Z]? = some (.cells (setA N) 78 (0, 0))) : W.rangeAt Z 0 cs := by
  have := World.rangeAt_of_block h 0 (setA N).size
  rw [hcs] at this
  simpa using this
theorem infoA {N : Nat → Bool} {cs : List Value} (hcs : setA N = cs.toArray) : (Try.prog.info? 78).map (·.size) = some cs.length := by
  rw [sizeA]
  have := setA_size N
  rw [hcs] at this
  simpa using this.symm
/-- Put beside the kept encoder. -/
theorem put_blk {w w1 : World} {O : Paint} {M g cap : Nat} {e : Enc} (hR : RefAt w O 41 M g cap e) (hf : Fine e) (hte : e.turns ≤ 900000) {v1 v2 : Value} {l : Tl} (hv : RefV w v1 v2 l) (hl : TOk l) (N : Nat → Bool) (s : Nat) (hs : s < 256) (hb : Below w.heap.size w w1) {cs : List Value} (hcs : setA N = cs.toArray) :
    Calls Try.prog 40 #[.agg #[.slice (some ⟨g, 0, none⟩) (e.turns + 4) cap, .int .u64 (e.size : Int)], .agg #[v1, v2], .int .u8 (s : Int), .agg cs.toArray] w1 fun x w' => ∃ g' cap', x = .returned (.tuple #[.agg #[.slice (some ⟨g', 0, none⟩) ((putE e l N s).1.turns + 4) cap', .int .u64 ((putE e l N s).1.size : Int)], .bool (putE e l N s).2]) ∧ Below w.heap.size w w' ∧
      RefBlk ((w'.setCell ⟨M, 0, none⟩ (.slice (some ⟨g', 0, none⟩) ((putE e l N s).1.turns + 4) cap')).setCell ⟨M, 1, none⟩ (.int .u64 ((putE e l N s).1.size : Int))) (Step.paint O w 41) 41 M (putE e l N s).1 ∧
      Step [41] w O ((w'.setCell ⟨M, 0, none⟩ (.slice (some ⟨g', 0, none⟩) ((putE e l N s).1.turns + 4) cap')).setCell ⟨M, 1, none⟩ (.int .u64 ((putE e l N s).1.size : Int))) (Step.paint O w 41) := by
  rw [← hcs]
  refine (rput_any (e := e) (hR.2.toRow.below hb (fun k hk => ownsRow_lt hR.2.toRow k hk)) hf (by omega) (hv.below hb) hl.1 hl.2 (by have := tok_len hl; omega) N s hs).mono ?_
  rintro x w' ⟨v, rfl, hrow, hb', hm⟩
  obtain ⟨g', cap', hv'⟩ := hrow.form (by rw [be_length]; omega)
  rw [be_length] at hv'
  subst hv'
  have hbb := hb.trans (hb'.mono hb.size)
  obtain ⟨r1, r2⟩ := hR.set hbb hrow (Rc.moved_up hb.size hm) rfl
  exact ⟨g', cap', rfl, hbb, r1, r2⟩
/-- PutAny, too. -/
theorem other_blk {w w1 : World} {O : Paint} {M g cap : Nat} {e : Enc} (hR : RefAt w O 41 M g cap e) (hf : Fine e) (hte : e.turns ≤ 900000) (N : Nat → Bool) (s : Nat) (hs : s < 256) (hN : N s = false) (hb : Below w.heap.size w w1) {cs : List Value} (hcs : setA N = cs.toArray) :
    Calls Try.prog 41 #[.agg #[.slice (some ⟨g, 0, none⟩) (e.turns + 4) cap, .int .u64 (e.size : Int)], .int .u8 (s : Int), .agg cs.toArray] w1 fun x w' => ∃ g' cap', x = .returned (.agg #[.slice (some ⟨g', 0, none⟩) ((e.part (free N s) 1 (free N 256)).turns + 4) cap', .int .u64 ((e.part (free N s) 1 (free N 256)).size : Int)]) ∧ Below w.heap.size w w' ∧
      RefBlk ((w'.setCell ⟨M, 0, none⟩ (.slice (some ⟨g', 0, none⟩) ((e.part (free N s) 1 (free N 256)).turns + 4) cap')).setCell ⟨M, 1, none⟩ (.int .u64 ((e.part (free N s) 1 (free N 256)).size : Int))) (Step.paint O w 41) 41 M (e.part (free N s) 1 (free N 256)) ∧
      Step [41] w O ((w'.setCell ⟨M, 0, none⟩ (.slice (some ⟨g', 0, none⟩) ((e.part (free N s) 1 (free N 256)).turns + 4) cap')).setCell ⟨M, 1, none⟩ (.int .u64 ((e.part (free N s) 1 (free N 256)).size : Int))) (Step.paint O w 41) := by
  rw [← hcs]
  refine (rput_other (e := e) (hR.2.toRow.below hb (fun k hk => ownsRow_lt hR.2.toRow k hk)) hf (by omega) N s hs hN).mono ?_
  rintro x w' ⟨v, rfl, hrow, hb', hm⟩
  obtain ⟨g', cap', hv'⟩ := hrow.form (by rw [be_length]; omega)
  rw [be_length] at hv'
  subst hv'
  have hbb := hb.trans (hb'.mono hb.size)
  obtain ⟨r1, r2⟩ := hR.set hbb hrow (Rc.moved_up hb.size hm) rfl
  exact ⟨g', cap', rfl, hbb, r1, r2⟩
/-- The table of the last k bytes, in both. -/
theorem Cp.tab {r : Rw} {q : Rd} (C : Cp r q) {k : Nat} (hk : k < r.pth.length) : q.at' k = some (tabK r k) := by
  obtain ⟨i, l, h1, h2⟩ := C.ok.at hk
  rw [C.at k, h1, Pp.tabK_at h1 h2]
  exact h2
/-- The document learns. -/
theorem WrC.learn {w w2 : World} {O O2 : Paint} {e M : Nat} {z : Rw × Enc} {mb : Nat} {D : Dv} {q : Rd} {j : Nat} (h : WrC w O e M z mb D q j) (hj : j ≤ 100) {s : Nat} (hs : s < 256) {p : Enc × Int} (hp : p = putP z.1 s z.1.pth.length Pp.noN z.2) (hp2 : p.2 ≤ (z.1.pth.length : Int) - 1) (hst : Step [41, 42] w O w2 O2) (he : RefBlk w2 O2 41 M p.1) :
    Calls Try.prog 42 #[.pointer (some ⟨e, 0, none⟩), .int .u8 (s : Int), .int .i64 p.2] w2 fun x w' => x = .returned (.tuple #[]) ∧ ∃ O' mb' D', Step refs w O w' O' ∧ WrC w' O' e M (stepP z s) mb' D' (q.learn s p.2) (j + 1) := by
  have h1 := h.cp.ok.order
  have h2 := h.cp.ok.cells.2
  have h3 := h.cp.ok.used
  rw [h.cp.order] at h1
  rw [h.cp.cells] at h2 h3
  rw [h.cp.u] at h3
  have b1 := h.hist
  have b2 := h.n
  have b3 := h.rs
  have hl := h.cp.ok.short.1
  refine (learn_dw (h.ref.step hst (by simp)) h1 (by omega) h2 (by omega) (by omega) hs p.2 (by omega) (by omega)).mono ?_
  rintro x w' ⟨rfl, O', mb', D', hs', h'⟩
  obtain ⟨c1, c2, c3⟩ := q.learn_bd s p.2 h1
  have hz : stepP z s = (z.1.learn s p.2, p.1) := by rw [hp]; rfl
  refine ⟨rfl, O', mb', D', (hst.mono (fun c hc => by simp at hc; rcases hc with e1 | e1 <;> simp [refs, e1])).trans (hs'.mono (fun c hc => by simp at hc; simp [refs, hc])), ?_⟩
  rw [hz]
  exact ⟨h', he.step hs' (by simp), h.cp.learn hs hp2, by omega, by omega, by omega⟩
theorem turn_next {a b k x : Nat} (h1 : a ≤ b + 3) (h2 : b + 3 * (k + 1) ≤ x) : a + 3 * k ≤ x := by omega
theorem turn_end {a k x : Nat} (h : a + 3 * k ≤ x) : a ≤ x := by omega
set_option maxRecDepth 100000 in
set_option maxHeartbeats 8000000 in
theorem written_any (t : ByteArray) (o c : Int) (w : World) (ht : t.size ≤ 100) :
    Calls Try.prog 13 #[.string t, .int .i64 o, .int .i64 c] w fun x w' => x = .returned (.string (encS t o c)) ∧ Below w.heap.size w w' := by
  have HNR := Lib.hid (new_dw o c w (fun _ => 0) 40)
  go_enter Try.func13, Try.ntmps13
  go_wp2_with fail
  refine HNR.out.mono ?_
  rintro x w2 ⟨O2, e, mb2, D2, rfl, hs2, h2⟩
  have HS2 := Lib.hid hs2
  have H2 := Lib.hid h2
  clear hs2 h2 HNR
  go_wp2_with fail
  refine (Rc.new_any (.slice none 0 0) w2).mono ?_
  rintro x w3 ⟨v3, rfl, hrow3, hb3, hmv3⟩
  obtain ⟨g3, cap3, hv3⟩ := hrow3.form (by rw [be_length]; omega)
  rw [be_length] at hv3
  subst hv3
  have hs3 := Step.of_below hb3 O2 41
  have HRO := Lib.hid (show Held w3 (Step.paint O2 w2 41) 41 5 (.slice (some ⟨g3, 0, none⟩) (Enc.start.turns + 4) cap3) ((be (Enc.start.turns + 4) Enc.start.low).map byte) from Held.fresh hrow3.toOwn (fun k hk => by
    rcases hmv3 with e1 | e1
    · rw [e1] at hk; simp [Value.ownBlock] at hk
    · exact e1 k hk) O2)
  have H3 := Lib.hid (H2.out.step hs3 (by simp))
  have HS3 := Lib.hid (HS2.out.trans hs3)
  generalize Step.paint O2 w2 41 = O3 at *
  clear hs3 hrow3 hb3 hmv3 HS2 H2
  go_upto_block 0 with (fail)
  have hs4 := Step.alloc_paint w3 O3 41 (.cells #[.slice (some ⟨g3, 0, none⟩) (Enc.start.turns + 4) cap3, .int .u64 (Enc.start.size : Int)] 76)
  have b4 := Blk.new w3 O3 41 (.cells #[.slice (some ⟨g3, 0, none⟩) (Enc.start.turns + 4) cap3, .int .u64 (Enc.start.size : Int)] 76)
  have HW4 := Lib.hid (show WrC _ _ e w3.heap.size (Rw.new o c, Enc.start) mb2 D2 (rdNew o c) 0 from ⟨H3.out.step hs4 (by simp), ⟨g3, cap3, b4, HRO.out.step hs4 (by simp)⟩, Cp.new o c, Nat.le_refl _, Nat.le_refl _, Nat.le_refl _⟩)
  have HS4 := Lib.hid ((HS3.out.trans hs4).nil (cs := refs))
  clear hs4 b4 HRO H3 HS3
  generalize w3.alloc (.cells #[.slice (some ⟨g3, 0, none⟩) (Enc.start.turns + 4) cap3, .int .u64 (Enc.start.size : Int)] 76) = W4 at *
  generalize Step.paint O3 w3 41 = O4 at *
  generalize w3.heap.size = M at *
  go_wp2_with fail
  go_loopw [9] (fun i wr => ∃ (j : Nat) (O1 : Paint) (mb : Nat) (D : Dv) (q : Rd), j ≤ t.size ∧ i = .int .i64 (j : Int) ∧ Step refs w (fun _ => 0) wr O1 ∧ WrC wr O1 e M (runP (Rw.new o c, Enc.start) ((nums t).take j)) mb D q j) (fun i _ => t.size - (intOf i).toNat)
  case atStart => exact ⟨0, O4, mb2, D2, _, Nat.zero_le _, rfl, HS4.out, HW4.out⟩
  case round =>
    obtain ⟨j, O1, mb, D, q, hj, rfl, hs1, h1⟩ := hrel
    rename World => wo
    clear HS4 HW4
    have hrun := Pp.runP_ok ((nums t).take j) (Rw.new o c, Enc.start) (fun s hs => Pp.nums_lt t s (List.mem_of_mem_take hs)) (Cx.Rw.new_ok o c) Rc.fine_start
    have htn : (runP (Rw.new o c, Enc.start) ((nums t).take j)).2.turns ≤ 60 * j := by
      have h3 := hrun.2.2
      have : ((nums t).take j).length ≤ j := List.length_take_le _ _
      have e0 : (Rw.new o c, Enc.start).2.turns = 0 := rfl
      omega
    have HFI := Lib.hid hrun.2.1
    clear hrun
    by_cases hlt : j < t.size
    · as_aux_lemma =>
      have hx := UInt8.toNat_lt t[j]
      have e1 : (0 : Int) ≤ (j : Int) := by omega
      have e2 : (j : Int) < (t.size : Int) := by omega
      have e4 : (j : Int).toNat = j := rfl
      have HNX := Lib.hid (show runP (Rw.new o c, Enc.start) ((nums t).take (j + 1)) = stepP (runP (Rw.new o c, Enc.start) ((nums t).take j)) t[j].toNat by rw [nums_take t hlt, runP_snoc])
      generalize runP (Rw.new o c, Enc.start) ((nums t).take j) = z at *
      have HS1 := Lib.hid hs1
      have H1 := Lib.hid h1
      clear hs1 h1
      have HXX := Lib.hid (show t[j].toNat < 256 from by omega)
      go_upto_region 8 with (fail)
      rw [show Try.zeroCells78 = setA Pp.noN from zeroA]
      obtain ⟨s, hsx⟩ : ∃ s, s = t[j].toNat := ⟨_, rfl⟩
      have HSX := Lib.hid hsx
      rw [← hsx] at HNX HXX hx
      have hs5 : Step [] wo O1 (wo.alloc (.cells (setA Pp.noN) 78)) (Step.paint O1 wo 42) := ((Step.refl [] wo O1).alloc _).repaint 42
      have hZ5 : Blk (wo.alloc (.cells (setA Pp.noN) 78)) (Step.paint O1 wo 42) 42 wo.heap.size (.cells (setA Pp.noN) 78 (0, 0)) := ⟨heap_alloc_new _ _, Step.paint_new (Nat.le_refl _)⟩
      have h5 := H1.out.idle hs5
      have HS5 := Lib.hid (HS1.out.trans hs5.nil)
      have hpl := h5.cp.ok.short.1
      have hqo : q.order ≤ 16 := by have := h5.cp.ok.order; rw [h5.cp.order] at this; exact this
      have hqh : q.hist.length ≤ 1000000 := by have := h5.hist; omega
      have HLG := Lib.hid (longest_dw h5.ref hqo hqh)
      rw [h5.cp.long] at HLG
      have H5 := Lib.hid h5
      have HZ5 := Lib.hid hZ5
      clear hs5 h5 hZ5 hsx HS1 H1
      generalize wo.alloc (.cells (setA Pp.noN) 78) = W5 at *
      generalize Step.paint O1 wo 42 = O5 at *
      generalize wo.heap.size = Z at *
      go_wp2_with fail
      refine HLG.out.mono ?_
      rintro x w6 ⟨rfl, hb6⟩
      have hs6 := Step.of_below_same hb6 O5
      have H6 := Lib.hid (H5.out.idle hs6)
      have HZ6 := Lib.hid (HZ5.out.step hs6 (by simp))
      have HS6 := Lib.hid (HS5.out.trans hs6.nil)
      clear hs6 hb6 HLG H5 HZ5 HS5
      obtain ⟨p, hp⟩ : ∃ p, p = putP z.1 s z.1.pth.length Pp.noN z.2 := ⟨_, rfl⟩
      have HP := Lib.hid hp
      clear hp
      go_upto_block 2 with (fail)
      go_cut [11, 12, 13, 14, 15, 16] from 29 to 63 (fun v _ _ _ _ _ wc => ∃ (N : Nat → Bool) (e' : Enc) (Ow : Paint), v = .int .i64 p.2 ∧ Step [41, 42] w6 O5 wc Ow ∧ RefBlk wc Ow 41 M e' ∧ Blk wc Ow 42 Z (.cells (setA N) 78 (0, 0)) ∧ Fine e' ∧ e'.turns ≤ z.2.turns + 3 * z.1.pth.length ∧ ((0 ≤ p.2 ∧ p.2 ≤ (z.1.pth.length : Int) - 1 ∧ p.1 = e') ∨ (p.2 = -1 ∧ p.1 = e'.part (free N s) 1 (free N 256) ∧ N s = false)))
      case first =>
        go_wp2_with fail
        go_loopw [11, 12] (fun v i wz => v = .int .i64 (-1) ∧ ∃ (K : Nat) (N : Nat → Bool) (e' : Enc) (Ow : Paint), K ≤ z.1.pth.length ∧ i = .int .i64 ((K : Int) - 1) ∧ Step [41, 42] w6 O5 wz Ow ∧ RefBlk wz Ow 41 M e' ∧ Blk wz Ow 42 Z (.cells (setA N) 78 (0, 0)) ∧ Fine e' ∧ e'.turns + 3 * K ≤ z.2.turns + 3 * z.1.pth.length ∧ p = putP z.1 s K N e' ∧ N s = false) (fun _ i _ => (intOf i + 1).toNat)
        case atStart => exact ⟨rfl, z.1.pth.length, Pp.noN, z.2, O5, Nat.le_refl _, rfl, Step.refl _ _ _, H6.out.enc, HZ6.out, HFI.out, Nat.le_refl _, HP.out, rfl⟩
        case round =>
          obtain ⟨rfl, K, N, e', Ow, hK, rfl, hs7, he7, hZ7, hf7, ht7, hp7, hN7⟩ := hrel
          have HE7 := Lib.hid he7
          have HZ7 := Lib.hid hZ7
          have HF7 := Lib.hid hf7
          have HP7 := Lib.hid hp7
          have HN7 := Lib.hid hN7
          have HS7 := Lib.hid hs7
          have HT7 := Lib.hid ht7
          clear hs7 he7 hZ7 hf7 hp7 hN7 ht7 HZ6
          cases K with
          | zero =>
            have k1 : ¬ 0 ≤ ((0 : Nat) : Int) - 1 := by omega
            go_wp2_with fail
            go_meet
            case rel =>
              have hpe := HP7.out
              exact ⟨N, e', Ow, by rw [hpe]; rfl, HS7.out, HE7.out, HZ7.out, HF7.out, HT7.out, .inr ⟨by rw [hpe]; rfl, by rw [hpe]; rfl, HN7.out⟩⟩
          | succ k =>
            as_aux_lemma =>
            have k0 : ((k + 1 : Nat) : Int) - 1 = (k : Int) := by omega
            rw [k0]
            have k1 : 0 ≤ (k : Int) := by omega
            have hsx := HSX.out
            subst hsx
            have hkl : k < z.1.pth.length := by omega
            have hRD := H6.out.ref.step HS7.out (by simp)
            have htb := table_dw hRD hqo (by omega) k (by omega)
            have hlo := Pp.tabK_ok H6.out.cp.ok k
            rw [H6.out.cp.tab hkl] at htb
            have HRD := Lib.hid hRD
            have HTB := Lib.hid htb
            have HPF := Lib.hid (fun (b : (putE e' (tabK z.1 k) N t[j].toNat).2 = true) => Pp.putP_found b)
            have HPN := Lib.hid (fun (b : (putE e' (tabK z.1 k) N t[j].toNat).2 = false) => Pp.putP_next b)
            have HRN := Lib.hid (fun (b : (putE e' (tabK z.1 k) N t[j].toNat).2 = false) => Pp.rule_not HN7.out b)
            obtain ⟨pa, pn, pc, hpe, hp1, hp2, hp3⟩ := Pp.putE_part hlo e' N t[j].toNat
            have HFE := Lib.hid (show Fine (putE e' (tabK z.1 k) N t[j].toNat).1 by rw [hpe]; exact Rc.fine_part HF7.out hp1 hp2 hp3)
            have hte : (putE e' (tabK z.1 k) N t[j].toNat).1.turns ≤ e'.turns + 3 := by rw [hpe]; exact Rc.part_turns _ _ _ _
            have HTE := Lib.hid hte
            have HLO := Lib.hid hlo
            have HT9 : e'.turns ≤ 900000 := by have := HT7.out; omega
            clear hRD htb hpe hp1 hp2 hp3 hte hlo
            generalize tabK z.1 k = l at *
            go_wp2_with fail
            refine HTB.out.mono ?_
            rintro x w8 ⟨v1, v2, rfl, hrw8, hb8⟩
            obtain ⟨a1, p1, a2, p2, rfl, rfl, hrv0⟩ := refV_of hrw8.ref.ref hrw8.nil0
            clear hrv0
            simp only [Option.getD_some] at *
            have hs8 := Step.of_below_same hb8 Ow
            have HRW8 := Lib.hid (hrw8.step hs8 (by simp))
            have HS8 := Lib.hid (HS7.out.trans hs8.nil)
            have HE8 := Lib.hid (HE7.out.step hs8 (by simp))
            have HZ8 := Lib.hid (HZ7.out.step hs8 (by simp))
            clear hs8 hb8 hrw8 HTB HRD HS7 HE7 HZ7
            go_upto_region 12 with (fail)
            have hs9 := Step.alloc_paint w8 Ow 43 (.cells #[.slice a1 l.length p1, .slice a2 l.length p2] 81)
            have HX9 := Lib.hid (Blk.new w8 Ow 43 (.cells #[.slice a1 l.length p1, .slice a2 l.length p2] 81))
            have HRW9 := Lib.hid (HRW8.out.step hs9 (by simp))
            have HS9 := Lib.hid (HS8.out.trans hs9.nil)
            have he9 := HE8.out.step hs9 (by simp)
            have HZ9 := Lib.hid (HZ8.out.step hs9 (by simp))
            clear hs9 HRW8 HS8 HE8 HZ8
            generalize w8.alloc (.cells #[.slice a1 l.length p1, .slice a2 l.length p2] 81) = w9 at *
            generalize w8.heap.size = X at *
            generalize Step.paint Ow w8 43 = O9 at *
            obtain ⟨g, cap, hRA⟩ := he9
            have HRA := Lib.hid hRA
            have hml := (two hRA.1.1).2.2.2.2
            clear hRA
            obtain ⟨cs, hcs⟩ : ∃ cs : List Value, setA N = cs.toArray := ⟨(setA N).toList, by simp⟩
            have HCS := Lib.hid hcs
            clear hcs
            have hua := Try.underlying78
            have hia := infoA HCS.out
            have HPUT := Lib.hid (fun (W : World) (hb : Below w9.heap.size w9 W) => put_blk HRA.out HF7.out HT9 (refV_of HRW9.out.ref.ref HRW9.out.nil0) HLO.out N t[j].toNat HXX.out hb HCS.out)
            simp only [Option.getD_some] at HPUT
            have HS := Lib.hid (show ∀ W', Below w9.heap.size w9 W' → (Below w9.heap.size w9 W' ∧ ((W'.cell? ⟨M, 0, none⟩ = some (.slice (some ⟨g, 0, none⟩) (e'.turns + 4) cap) ∧ W'.cell? ⟨M, 1, none⟩ = some (.int .u64 (e'.size : Int))) ∧ (W'.cell? ⟨X, 0, none⟩ = some (.slice a1 l.length p1) ∧ W'.cell? ⟨X, 1, none⟩ = some (.slice a2 l.length p2)) ∧ W'.rangeAt Z 0 cs)) from fun W' hb => by
              have b1 := two ((hb.block M hml).trans HRA.out.1.1)
              have b2 := two ((hb.block X HX9.out.lt).trans HX9.out.1)
              have b3 := (hb.block Z HZ9.out.lt).trans HZ9.out.1
              exact ⟨hb, ⟨b1.1, b1.2.1⟩, ⟨b2.1, b2.2.1⟩, range_not HCS.out b3⟩)
            go_upto_region 13 with (fail)
            refine Tail.region_head (fun W' => Below w9.heap.size w9 W' ∧ ((W'.cell? ⟨M, 0, none⟩ = some (.slice (some ⟨g, 0, none⟩) (e'.turns + 4) cap) ∧ W'.cell? ⟨M, 1, none⟩ = some (.int .u64 (e'.size : Int))) ∧ (W'.cell? ⟨X, 0, none⟩ = some (.slice a1 l.length p1) ∧ W'.cell? ⟨X, 1, none⟩ = some (.slice a2 l.length p2)) ∧ W'.rangeAt Z 0 cs)) 7 5 #[true, true, true, true, true, true, true, false, false, false, false, false] (by kernel_rfl) ⟨by kernel_rfl, by decide, by kernel_rfl, by kernel_rfl, by kernel_rfl⟩ (by kernel_rfl) (HS.out _ (bel_drew (Below.refl _ _))) (fun ok hHeld => ?_)
            refine Tail.Lst.mk [0, 1, 2, 3, 4] ?_
            iterate 5 (refine Tail.Lst.takeT ok rfl (v := ?_) (Or.inl ⟨by rfl, ?_⟩) ?_; rotate_left; (next => intro w hSw; (try dsimp only at hSw); go_simp; (try with_reducible rfl)); simp only [Act.put, List.getElem_toArray, List.getElem_cons_succ, List.getElem_cons_zero, List.setIfInBounds_toArray, List.set])
            refine Tail.Lst.nil ?_
            refine Tail.tk ok (i := 5) (v := Value.agg cs.toArray) rfl (by kernel_rfl) (fun _ _ _ h => h) (yieldsIf_load_mid (by rfl) _ _ rfl Z 0 rfl cs _ (fun w hw => hw.2.2.2) hua rfl hia) hHeld ?_
            simp only [Act.put, List.getElem_toArray, List.getElem_cons_succ, List.getElem_cons_zero, List.setIfInBounds_toArray, List.set]
            refine Tail.head_ready (rs := [6]) (by kernel_rfl) (by simp) (by kernel_rfl) ?_
            refine Tail.AllHead.cons rfl (fun K hK => ?_) Tail.AllHead.nil
            go_simp
            refine (HPUT.out _ (bel_drew (Below.refl _ _))).mono ?_
            rintro z1 w10 ⟨g3, cap3, rfl, hb10, hr10, hs10⟩
            refine hK.out _ _ (HS.out _ hb10) (fun hHeld => ?_)
            clear hK K
            try simp only [Act.put, List.getElem_toArray, List.getElem_cons_succ, List.getElem_cons_zero, List.setIfInBounds_toArray, List.set]
            refine Tail.head_done rfl ?_
            obtain ⟨z0, z1, zf0, zf1, hzl⟩ := two ((hb10.block M hml).trans HRA.out.1.1)
            refine wpAny_ready (rs := [7]) (by kernel_rfl) (by simp) ?_
            refine AllReady.cons rfl (fun K hK => ?_) AllReady.nil
            go_simp
            refine hK _ _ ?_
            clear hK K
            try simp only [Act.put, List.getElem_toArray, List.getElem_cons_succ, List.getElem_cons_zero, List.setIfInBounds_toArray, List.set]
            refine wpAny_take (i := 9) (v := ?_) rfl (by kernel_rfl) (by kernel_rfl) (by kernel_rfl) (fun _ _ _ h => h) (Or.inl ⟨by rfl, ?_⟩) ?_
            rotate_left
            next => intro w; go_simp; (try with_reducible rfl)
            try simp only [Act.put, List.getElem_toArray, List.getElem_cons_succ, List.getElem_cons_zero, List.setIfInBounds_toArray, List.set]
            refine wpAny_ready (rs := [8]) (by kernel_rfl) (by simp) ?_
            refine AllReady.cons rfl (fun K hK => ?_) AllReady.nil
            go_simp
            refine hK _ _ ?_
            clear hK K
            try simp only [Act.put, List.getElem_toArray, List.getElem_cons_succ, List.getElem_cons_zero, List.setIfInBounds_toArray, List.set]
            refine wpAny_ready (rs := [10]) (by kernel_rfl) (by simp) ?_
            refine AllReady.cons rfl (fun K hK => ?_) AllReady.nil
            go_simp
            refine hK _ _ ?_
            clear hK K
            try simp only [Act.put, List.getElem_toArray, List.getElem_cons_succ, List.getElem_cons_zero, List.setIfInBounds_toArray, List.set]
            refine wpAny_ready (rs := [11]) (by kernel_rfl) (by simp) ?_
            refine AllReady.cons rfl (fun K hK => ?_) AllReady.nil
            go_simp
            refine hK _ _ ?_
            clear hK K
            try simp only [Act.put, List.getElem_toArray, List.getElem_cons_succ, List.getElem_cons_zero, List.setIfInBounds_toArray, List.set]
            refine wpAny_done (by kernel_rfl) ?_ _
            clear z0 z1 zf0 zf1 hzl hb10 hHeld HS HPUT hua hia HCS
            have HE10 := Lib.hid hr10
            have HS10 := Lib.hid (HS9.out.trans (hs10.mono (fun c hc => by simp at hc; simp [hc])))
            have HX10 := Lib.hid (HX9.out.step hs10 (by simp))
            have HZ10 := Lib.hid (HZ9.out.step hs10 (by simp))
            have HRW10 := Lib.hid (HRW9.out.step hs10 (by simp))
            clear hr10 hs10 hml HRA HX9 HZ9 HRW9 HS9
            generalize (w10.setCell ⟨M, 0, none⟩ (.slice (some ⟨g3, 0, none⟩) ((putE e' l N t[j].toNat).1.turns + 4) cap3)).setCell ⟨M, 1, none⟩ (.int .u64 ((putE e' l N t[j].toNat).1.size : Int)) = w11 at *
            generalize Step.paint O9 w9 41 = O11 at *
            generalize putE e' l N t[j].toNat = pe at *
            obtain ⟨pe1, fnd⟩ := pe
            have HTN : Hid (pe1.turns + 3 * k ≤ z.2.turns + 3 * z.1.pth.length) := Lib.hid (turn_next HTE.out HT7.out)
            cases fnd with
            | true =>
              as_aux_lemma =>
              have HPQ := Lib.hid (HP7.out.trans (HPF.out rfl))
              have hkk : (k : Int) ≤ (z.1.pth.length : Int) - 1 := by omega
              have htu := turn_end HTN.out
              clear HPF HPN HRN HTE HTN HT7 HP7
              go_wp2_with fail
              go_meet
              case rel => exact ⟨N, pe1, O11, by rw [HPQ.out], HS10.out, HE10.out, HZ10.out, HFE.out, htu, .inl ⟨by rw [HPQ.out]; exact k1, by rw [HPQ.out]; exact hkk, by rw [HPQ.out]⟩⟩
            | false =>
              as_aux_lemma =>
              have HPQ := Lib.hid (HP7.out.trans (HPN.out rfl))
              have HRQ := Lib.hid (HRN.out rfl)
              clear HPF HPN HRN HTE HT7 HP7
              go_wp2_with fail
              go_loopw [16] (fun i wr => ∃ (jj : Nat) (O3 : Paint), jj ≤ l.length ∧ i = .int .i64 (jj : Int) ∧ Step [42] w11 O11 wr O3 ∧ Blk wr O3 42 Z (.cells (setA (ruleN N (l.take jj))) 78 (0, 0))) (fun i _ => l.length - (intOf i).toNat)
              case atStart => exact ⟨0, O11, Nat.zero_le _, rfl, Step.refl _ _ _, by rw [Pp.rule_zero]; exact HZ10.out⟩
              case round =>
                obtain ⟨jj, O3, hjj, rfl, hs12, hz12⟩ := hrel
                by_cases hlt2 : jj < l.length
                · have hrow := HRW10.out.step hs12 (by simp)
                  obtain ⟨a1', p1', a2', p2', he1, he2, hcell⟩ := refV_of (l := l) hrow.ref.ref hrow.nil0
                  cases he1
                  obtain ⟨g1, g2, rfl, _, c1, _⟩ := hcell _ (Below.refl _ _) jj hlt2
                  obtain ⟨x0, x1, xf0, xf1, hxl⟩ := two (HX10.out.step hs12 (by simp)).1
                  have hy := (tab_at HLO.out.1 hlt2).1
                  have hl256 := tok_len HLO.out
                  have HRT := Lib.hid (Pp.rule_take N l hlt2)
                  generalize (at' l jj).1 = y at *
                  have z0 := blk_cells hz12.1 y hy
                  have HS12 := Lib.hid hs12
                  have hs12c : O11 Z = 42 := HZ10.out.2
                  have HZ12 := Lib.hid hz12
                  have e1' : (jj : Int) < (l.length : Int) := by omega
                  clear hs12 hz12 hrow hcell he2
                  obtain ⟨z1, z2⟩ := z0
                  have hy0 : (0 : Int) ≤ (y : Int) := Int.natCast_nonneg _
                  have hy1 : (y : Int) < 256 := by omega
                  have hy2 : (y : Int).toNat = y := rfl
                  go_wp2_with fail
                  go_roundw
                  case rel =>
                    have hb := HZ12.out.setCell y (.bool true)
                    rw [setA_add _ y hy, HRT.out] at hb
                    exact ⟨jj + 1, O3, by omega, by go_num, HS12.out.setCell (p := ⟨Z, y, none⟩) (.inl (by rw [hs12c]; simp)) _, hb⟩
                  case measure => simp [intOf]; omega
                · obtain rfl : jj = l.length := by omega
                  rw [List.take_of_length_le (Nat.le_refl _)] at hz12
                  obtain ⟨x0, x1, xf0, xf1, hxl⟩ := two (HX10.out.step hs12 (by simp)).1
                  have HS13 := Lib.hid (HS10.out.trans (hs12.mono (fun c hc => by simp at hc; simp [hc])))
                  have HE13 := Lib.hid (HE10.out.step hs12 (by simp))
                  have HZ13 := Lib.hid hz12
                  clear hs12 hz12 HS10 HE10 HZ10 HX10 HRW10
                  go_wp2_with fail
                  go_roundw
                  case rel => exact ⟨rfl, k, ruleN N l, pe1, O3, by omega, by go_num, HS13.out, HE13.out, HZ13.out, HFE.out, HTN.out, HPQ.out, HRQ.out⟩
                  case measure => (simp [intOf]; try omega)
      case rest =>
        obtain ⟨N, e', Ow, rfl, hs7, he7, hZ7, hf7, ht7, hcase⟩ := hcut
        have hsx := HSX.out
        subst hsx
        have hp2 : p.2 ≤ (z.1.pth.length : Int) - 1 := by omega
        have HLN := Lib.hid (fun (W : World) (OW : Paint) (hst : Step [41, 42] w6 O5 W OW) (he : RefBlk W OW 41 M p.1) => H6.out.learn (by omega) HXX.out HP.out hp2 hst he)
        have HS7 := Lib.hid hs7
        have HE7 := Lib.hid he7
        have HZ7 := Lib.hid hZ7
        have HF7 := Lib.hid hf7
        have HT9 : e'.turns ≤ 900000 := by omega
        clear hs7 he7 hZ7 hf7 ht7 HZ6 hp2
        rcases hcase with ⟨c1, c2, c3⟩ | ⟨c1, c2, c3⟩
        · as_aux_lemma =>
          have c0 : ¬ p.2 < 0 := Int.not_lt.2 c1
          have HC := Lib.hid c3
          clear c3
          go_wp2_with fail
          refine (HLN.out _ _ HS7.out (by rw [HC.out]; exact HE7.out)).mono ?_
          rintro x w9 ⟨rfl, O9, mb9, D9, hs9, h9⟩
          have HS9 := Lib.hid (HS6.out.trans hs9)
          have H9 := Lib.hid h9
          clear hs9 h9
          go_wp2_with fail
          go_roundw
          case rel => exact ⟨j + 1, O9, mb9, D9, _, by omega, by go_num, HS9.out, by rw [HNX.out]; exact H9.out⟩
          case measure => simp [intOf]; omega
        · as_aux_lemma =>
          have c0 : p.2 < 0 := by rw [c1]; decide
          clear c1
          have HC := Lib.hid c2
          have HN := Lib.hid c3
          clear c2 c3
          obtain ⟨g, cap, hRA⟩ := HE7.out
          have HRA := Lib.hid hRA
          have hml := (two hRA.1.1).2.2.2.2
          clear hRA
          obtain ⟨cs, hcs⟩ : ∃ cs : List Value, setA N = cs.toArray := ⟨(setA N).toList, by simp⟩
          have HCS := Lib.hid hcs
          clear hcs
          have hua := Try.underlying78
          have hia := infoA HCS.out
          have HPUT := Lib.hid (fun (W : World) (hb : Below wc.heap.size wc W) => other_blk HRA.out HF7.out HT9 N t[j].toNat HXX.out HN.out hb HCS.out)
          have HS := Lib.hid (show ∀ W', Below wc.heap.size wc W' → (Below wc.heap.size wc W' ∧ ((W'.cell? ⟨M, 0, none⟩ = some (.slice (some ⟨g, 0, none⟩) (e'.turns + 4) cap) ∧ W'.cell? ⟨M, 1, none⟩ = some (.int .u64 (e'.size : Int))) ∧ W'.rangeAt Z 0 cs)) from fun W' hb => by
            have b1 := two ((hb.block M hml).trans HRA.out.1.1)
            have b3 := (hb.block Z HZ7.out.lt).trans HZ7.out.1
            exact ⟨hb, ⟨b1.1, b1.2.1⟩, range_not HCS.out b3⟩)
          rw [← HC.out] at HPUT
          go_upto_region 21 with (fail)
          refine Tail.region_head (fun W' => Below wc.heap.size wc W' ∧ ((W'.cell? ⟨M, 0, none⟩ = some (.slice (some ⟨g, 0, none⟩) (e'.turns + 4) cap) ∧ W'.cell? ⟨M, 1, none⟩ = some (.int .u64 (e'.size : Int))) ∧ W'.rangeAt Z 0 cs)) 6 1 #[true, true, true, true, true, true, false] (by kernel_rfl) ⟨by kernel_rfl, by decide, by kernel_rfl, by kernel_rfl, by kernel_rfl⟩ (by kernel_rfl) (HS.out _ (bel_drew (Below.refl _ _))) (fun ok hHeld => ?_)
          refine Tail.Lst.mk [0, 1, 2, 3] ?_
          iterate 4 (refine Tail.Lst.takeT ok rfl (v := ?_) (Or.inl ⟨by rfl, ?_⟩) ?_; rotate_left; (next => intro w hSw; (try dsimp only at hSw); go_simp; (try with_reducible rfl)); simp only [Act.put, List.getElem_toArray, List.getElem_cons_succ, List.getElem_cons_zero, List.setIfInBounds_toArray, List.set])
          refine Tail.Lst.nil ?_
          refine Tail.tk ok (i := 4) (v := Value.agg cs.toArray) rfl (by kernel_rfl) (fun _ _ _ h => h) (yieldsIf_load_mid (by rfl) _ _ rfl Z 0 rfl cs _ (fun w hw => hw.2.2) hua rfl hia) hHeld ?_
          simp only [Act.put, List.getElem_toArray, List.getElem_cons_succ, List.getElem_cons_zero, List.setIfInBounds_toArray, List.set]
          refine Tail.head_ready (rs := [5]) (by kernel_rfl) (by simp) (by kernel_rfl) ?_
          refine Tail.AllHead.cons rfl (fun K hK => ?_) Tail.AllHead.nil
          go_simp
          refine (HPUT.out _ (bel_drew (Below.refl _ _))).mono ?_
          rintro z1 w10 ⟨g3, cap3, rfl, hb10, hr10, hs10⟩
          refine hK.out _ _ (HS.out _ hb10) (fun hHeld => ?_)
          clear hK K
          try simp only [Act.put, List.getElem_toArray, List.getElem_cons_succ, List.getElem_cons_zero, List.setIfInBounds_toArray, List.set]
          refine Tail.head_done rfl ?_
          obtain ⟨z0, z1, zf0, zf1, hzl⟩ := two ((hb10.block M hml).trans HRA.out.1.1)
          refine wpAny_ready (rs := [6]) (by kernel_rfl) (by simp) ?_
          refine AllReady.cons rfl (fun K hK => ?_) AllReady.nil
          go_simp
          refine hK _ _ ?_
          clear hK K
          try simp only [Act.put, List.getElem_toArray, List.getElem_cons_succ, List.getElem_cons_zero, List.setIfInBounds_toArray, List.set]
          refine wpAny_done (by kernel_rfl) ?_ _
          clear z0 z1 zf0 zf1 hzl hb10 hHeld HS HPUT hua hia HCS
          have HE10 := Lib.hid hr10
          have HS10 := Lib.hid (HS7.out.trans (hs10.mono (fun c hc => by simp at hc; simp [hc])))
          clear hr10 hs10 hml HRA HC HS7
          generalize (w10.setCell ⟨M, 0, none⟩ (.slice (some ⟨g3, 0, none⟩) (p.1.turns + 4) cap3)).setCell ⟨M, 1, none⟩ (.int .u64 (p.1.size : Int)) = w11 at *
          generalize Step.paint Ow wc 41 = O11 at *
          go_wp2_with fail
          refine (HLN.out _ _ HS10.out HE10.out).mono ?_
          rintro x w9 ⟨rfl, O9, mb9, D9, hs9, h9⟩
          have HS9 := Lib.hid (HS6.out.trans hs9)
          have H9 := Lib.hid h9
          clear hs9 h9
          go_wp2_with fail
          go_roundw
          case rel => exact ⟨j + 1, O9, mb9, D9, _, by omega, by go_num, HS9.out, by rw [HNX.out]; exact H9.out⟩
          case measure => simp [intOf]; omega
    · obtain rfl : j = t.size := by omega
      have hal : (nums t).take t.size = nums t := List.take_of_length_le (by rw [nums_len]; exact Nat.le_refl _)
      rw [hal] at h1 htn
      obtain ⟨g, cp, hRA⟩ := h1.enc
      obtain ⟨q0, q1, qf0, qf1, hql⟩ := two hRA.1.1
      have HEN := Lib.hid (Rc.end_any hRA.2.toRow (by omega) (runP (Rw.new o c, Enc.start) (nums t)).2.size)
      have HB := Lib.hid (refs_below hs1)
      have HEV := Lib.hid (show (.string ⟨(runP (Rw.new o c, Enc.start) (nums t)).2.bytes.toArray⟩ : Value) = .string (encS t o c) from rfl)
      clear hs1 h1 hal hRA
      go_wp2_with fail
      refine HEN.out.mono ?_
      rintro x w5 ⟨rfl, hb⟩
      have HB2 := Lib.hid (HB.out.trans (hb.mono HB.out.size))
      clear hb
      go_wp2_with fail
      go_ret
      exact ⟨congrArg Ending.returned HEV.out, HB2.out⟩
end Go.Proofs.Yteacmcckhjabmaa.Rx
