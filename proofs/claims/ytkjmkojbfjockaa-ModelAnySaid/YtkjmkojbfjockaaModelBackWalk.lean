/-
  The walk of the statement ModelBack: for all numbers and every list of packets it returns true, and writes nothing that was there.
-/
import Derived.Test.YtkjmkojbfjockaaModelPair
set_option linter.unusedVariables false
namespace Go.Proofs.Ytkjmkojbfjockaa.Mo
open Go.RowKit
open Rc
open Pk (Rp Pt four IsPts IsPt)
open Pl (flatP)
theorem eq_pk (p : Pt) (w : World) : (Op.equalIn 10000 34 (.agg #[.int .i64 p.k, .int .i64 p.d, .int .i64 p.n, .int .u8 (p.b : Int)]) (.agg #[.int .i64 p.k, .int .i64 p.d, .int .i64 p.n, .int .u8 (p.b : Int)])).run Try.prog w = .ok true w := by
  rw [run_equalIn_struct (P := Try.prog) w 9999 34 _ _ (by kernel_rfl) (by kernel_rfl)]
  simp [go_sem, Try.underlying34, Try.underlying3, Try.underlying5]
theorem HeldP.ptsS {w : World} {O : Paint} {c n p : Nat} {a : Option Addr} {l : List Pt} (h : HeldP w O c (.slice a n p) l) (hb : ∀ p ∈ l, p.b < 256) : n = l.length ∧ IsPts w a l := by
  obtain ⟨a', cap', e, h2⟩ := h.pts hb
  simp only [Value.slice.injEq] at e
  obtain ⟨rfl, rfl, rfl⟩ := e
  exact ⟨rfl, h2⟩
theorem fitAll_b {most : Int} : ∀ {l : List Pt} {x : Pr}, FitAll most x l → ∀ p ∈ l, p.b < 256
  | [], _, _ => by simp
  | q :: l, x, h => by
    intro p hp
    rcases List.mem_cons.1 hp with rfl | hp
    · exact h.1.1
    · exact fitAll_b h.2 p hp
/-- What the first loop holds. -/
def Putting (w0 : World) (i j : Mid) (E : Nat) (x : Pr) (n : Ms) (k : Nat) (v : Value) (w : World) : Prop := ∃ l O, LockE w0 i j E (runs 5000 x l) n qNew w O ∧ HeldP w O 7 v l ∧ FitAll 5000 x l ∧ l.length ≤ k
set_option maxRecDepth 100000 in
set_option maxHeartbeats 16000000 in
theorem mback_walk (x0 x1 x2 : Nat) (a0 : Option Addr) (len cap : Nat) (w : World) (ps : List Pt) (h0 : x0 < 256) (h1 : x1 < 256) (h2 : x2 < 256) (hps : ps.length = min len 60) (hpb : ∀ p ∈ ps, p.b < 256) (hlen : len ≤ maxLen) (h : IsPts w a0 ps) :
    Calls Try.prog 3 #[.agg #[.int .u8 (x0 : Int), .int .u8 (x1 : Int), .int .u8 (x2 : Int)], .slice a0 len cap] w fun x w' => x = .returned (.bool true) ∧ Below w.heap.size w w' := by
  have HIP := Lib.hid h
  have HPS := Lib.hid hps
  have HPX := Lib.hid hpb
  have h60 : ps.length ≤ 60 := by omega
  have hpl : ps.length ≤ len := by omega
  unfold maxLen at hlen
  clear h hps hpb
  have HSUM := Lib.hid (par_sum x0 x1)
  have HPB : Hid (x2 % 5 ≤ 4) := Lib.hid (by omega)
  have HPA := Lib.hid (fun W => params_any x0 x1 x2 h0 h1 h2 W)
  have hb1 : Below w.heap.size w (w.alloc (.cells #[.int .u8 (x0 : Int), .int .u8 (x1 : Int), .int .u8 (x2 : Int)] 22)) := (Below.refl _ _).alloc (Nat.le_refl _) _
  have hB := heap_alloc_new w (.cells #[.int .u8 (x0 : Int), .int .u8 (x1 : Int), .int .u8 (x2 : Int)] 22)
  have HBX := Lib.hid hB
  have HB1 := Lib.hid hb1
  generalize parL x0 = lc at *
  generalize parP x0 x1 = lp at *
  generalize x2 % 5 = pb at *
  clear h0 h1 h2 hb1 hB
  go_enter Try.func3, Try.ntmps3
  go_upto_region 1 with (fail)
  generalize w.alloc (.cells #[.int .u8 (x0 : Int), .int .u8 (x1 : Int), .int .u8 (x2 : Int)] 22) = W1 at *
  go_wp2_with fail
  refine (speaks10 W1).mono ?_
  rintro x w2 ⟨rfl, hb2⟩
  have HB2 := Lib.hid (HB1.out.trans (hb2.mono HB1.out.size))
  have hX2 := (hb2.block _ (lt_of_heap HBX.out)).trans HBX.out
  obtain ⟨p0, p1, p2⟩ := three hX2
  clear hb2 HB1 HBX hX2
  go_wp2_with fail
  refine (HPA.out w2).mono ?_
  rintro x w3 ⟨rfl, hb3⟩
  have hb03 := HB2.out.trans (hb3.mono HB2.out.size)
  have HRUN : Hid (Run w w3 (fun _ => 0)) := Lib.hid ⟨hb03, fun _ _ => rfl⟩
  clear hb3 HB2 p0 p1 p2 HPA hb03
  go_upto_region 4 with (fail)
  have hs1 := Step.alloc_paint w3 (fun _ => 0) 8 (.cells #[.int .i64 (lc : Int), .int .i64 (lp : Int), .int .i64 (pb : Int)] 26)
  have hX := Blk.new w3 (fun _ => 0) 8 (.cells #[.int .i64 (lc : Int), .int .i64 (lp : Int), .int .i64 (pb : Int)] 26)
  have HR1 := Lib.hid (HRUN.out.step hs1 (by simp))
  generalize w3.alloc (.cells #[.int .i64 (lc : Int), .int .i64 (lp : Int), .int .i64 (pb : Int)] 26) = W1 at *
  generalize Step.paint (fun _ => 0) w3 8 = O1 at *
  have HX := Lib.hid hX
  clear hX hs1
  obtain ⟨p0, p1, p2⟩ := three HX.out.1
  go_cut [6, 7] (fun a b wc => ∃ i j O', a = .pointer (some ⟨i.mo, 0, none⟩) ∧ b = .pointer (some ⟨j.mo, 0, none⟩) ∧ i.most = 5000 ∧ j.most = 5000 ∧ TwoM w i j (mNew lc lp pb) qNew (mNew lc lp pb) qNew wc O')
  case first =>
    as_aux_lemma =>
    have HS : Hid (∀ W' : World, Below W1.heap.size W1 W' → (fun W' => Below W1.heap.size W1 W' ∧ (W'.cell? ⟨w3.heap.size, 0, none⟩ = some (.int .i64 (lc : Int)) ∧ W'.cell? ⟨w3.heap.size, 1, none⟩ = some (.int .i64 (lp : Int)) ∧ W'.cell? ⟨w3.heap.size, 2, none⟩ = some (.int .i64 (pb : Int)))) W') := Lib.hid fun W' hb => ⟨hb, three ((hb.block w3.heap.size HX.out.lt).trans HX.out.1)⟩
    have HN : Hid (∀ (V : World) (O : Paint) (cw cm : Nat), cw ≠ cm → Calls Try.prog 9 #[.agg #[.int .i64 (lc : Int), .int .i64 (lp : Int), .int .i64 (pb : Int)], .int .i64 5000] V fun x w' => ∃ i O', x = .returned (.pointer (some ⟨i.mo, 0, none⟩)) ∧ i.cw = cw ∧ i.cm = cm ∧ i.most = 5000 ∧ Step [] V O w' O' ∧ Whole w' O' i (mNew lc lp pb) qNew) := Lib.hid fun V O cw cm hne => new_model _ _ _ HSUM.out HPB.out 5000 (by omega) (by omega) V O cw cm hne
    go_region_held3 (fun W' => Below W1.heap.size W1 W' ∧ (W'.cell? ⟨w3.heap.size, 0, none⟩ = some (.int .i64 (lc : Int)) ∧ W'.cell? ⟨w3.heap.size, 1, none⟩ = some (.int .i64 (lp : Int)) ∧ W'.cell? ⟨w3.heap.size, 2, none⟩ = some (.int .i64 (pb : Int)))) ((refine HS.out _ ?_; repeat (first | assumption | exact Below.refl _ _ | refine Pk.bel_drew ?_ | refine Pk.bel_alloc _ ?_))) (first | (go_at_call 9; (with_reducible refine (HN.out W1.drew O1 1 2 (by decide)).mono ?_); rintro x Va ⟨i, Oa, rfl, ia, ib, ic, hsa, hWa⟩; have hba := (hsa.from_drew).below (Nat.le_refl _) (by simp)) | (go_at_call 9; (with_reducible refine (HN.out _ Oa 3 4 (by decide)).mono ?_); rintro x Vb ⟨j, Ob, rfl, ja, jb, jc, hsb, hWb⟩; have hbb := ((hsa.from_drew).trans hsb).below (Nat.le_refl _) (by simp)))
    all_goals
      have HRB := Lib.hid ((HR1.out.step hsa.from_drew (by simp)).step hsb (by simp))
      have HWA := Lib.hid (hWa.step hsb (by simp) (by simp))
      have HWB := Lib.hid hWb
      clear hsa hsb hWa hWb hba hbb HN HS p0 p1 p2
      go_wp2_with fail
      go_meet
      first | exact ⟨i, j, Ob, rfl, rfl, ic, jc, HRB.out, HWA.out, HWB.out, .inl ⟨ia, ib, ja, jb⟩⟩ | exact ⟨j, i, Ob, rfl, rfl, jc, ic, HRB.out, HWB.out, HWA.out, .inr ⟨ja, jb, ia, ib⟩⟩
  case rest =>
    obtain ⟨i, j, O2, rfl, rfl, hi9, hj9, hT⟩ := hcut
    have HT := Lib.hid hT
    have HI9 := Lib.hid hi9
    have HJ9 := Lib.hid hj9
    clear hT hi9 hj9 HX HR1 p0 p1 p2 HSUM HPB HRUN
    go_wp2_with fail
    refine (new_enc _ O2 5).mono ?_
    rintro x w4 ⟨E, rfl, _, O4, hs4, he4⟩
    have HXD : Hid (∃ X, X = (⟨mNew lc lp pb, ⟨Enc.start, qNew⟩⟩ : Pr)) := Lib.hid ⟨_, rfl⟩
    obtain ⟨X, hX⟩ := HXD.out
    have HXX := Lib.hid hX
    have HN0 : Hid ((mNew lc lp pb) = X.m) := Lib.hid (by rw [hX])
    have HP0 : Hid (Putting w i j E X (mNew lc lp pb) 0 (.slice none 0 0) w4) := Lib.hid ⟨[], O4, by rw [hX]; exact ⟨HT.out.idle hs4, he4⟩, HeldP.nil _ _ _, trivial, Nat.le_refl _⟩
    have HTX : Hid (X.s.e.turns = 0) := Lib.hid (by rw [hX]; rfl)
    have HOX : Hid X.s.Ok := Lib.hid (by rw [hX]; exact start_ok _ _ _)
    clear hs4 he4 HT hX HXD
    obtain ⟨N0, hN0⟩ : ∃ N0, N0 = mNew lc lp pb := ⟨_, rfl⟩
    rw [← hN0] at HP0
    have HNN := Lib.hid hN0
    clear hN0
    go_upto_block 0 with (fail)
    go_cut [9] (fun v wc => Putting w i j E X N0 60 v wc)
    case first =>
      as_aux_lemma =>
      -- BEGIN put
      go_wp2_with fail
      go_loopw [9, 10] (fun v i' wr => ∃ k : Nat, k ≤ ps.length ∧ i' = .int .i64 k ∧ Putting w i j E X N0 k v wr) (fun _ i' _ => ps.length - (intOf i').toNat)
      case atStart => exact ⟨0, by omega, rfl, HP0.out⟩
      case round =>
        clear HP0
        obtain ⟨k, hk, rfl, l, O, hL, hH, hF, hl⟩ := hrel
        by_cases hlt : k < ps.length
        · have hl1 : k < len := by omega
          have hl2 : k < 60 := by omega
          rcases HIP.out with he | ⟨b0, off, rfl, hc⟩
          · rw [he] at hlt; simp at hlt
          · have hb0 := World.block_lt_of_cell? _ _ (hc k hlt).1
            have hpt := (hc k hlt).below hL.two.run.below
            have HPT := Lib.hid hpt
            have HL := Lib.hid hL
            have HH := Lib.hid hH
            have HF := Lib.hid hF
            have htu := runs_turns hF
            have HTU : Hid ((runs 5000 X l).s.e.turns ≤ 600000) := Lib.hid (by have := HTX.out; omega)
            clear hc hpt hL hH hF htu
            generalize ps[k] = p at *
            obtain ⟨c0, c1, c2, c3, hpb⟩ := HPT.out
            have HPUT := Lib.hid (fun (W : World) (O' : Paint) (hW : LockE w i j E (runs 5000 X l) N0 qNew W O') => hW.put HTU.out p hpb)
            rw [HI9.out] at HPUT
            unfold Pk.Pt.val at HPUT
            have HSN := Lib.hid (runs_snoc 5000 X l p)
            go_upto_region 11 with (fail)
            have hs5 := Step.alloc_paint wr O 8 (.cells #[.int .i64 p.k, .int .i64 p.d, .int .i64 p.n, .int .u8 (p.b : Int)] 34)
            have HB5 := Lib.hid (Blk.new wr O 8 (.cells #[.int .i64 p.k, .int .i64 p.d, .int .i64 p.n, .int .u8 (p.b : Int)] 34))
            have HL5 := Lib.hid (HL.out.idle hs5)
            have HH5 := Lib.hid (HH.out.step hs5 (by simp))
            clear hs5 HL HH c0 c1 c2 c3
            generalize wr.alloc (.cells #[.int .i64 p.k, .int .i64 p.d, .int .i64 p.n, .int .u8 (p.b : Int)] 34) = W5 at *
            generalize wr.heap.size = Z at *
            generalize Step.paint O wr 8 = O5 at *
            obtain ⟨⟨d0, d1, d2, d3⟩, _, _⟩ := four HB5.out.1
            go_wp2_with fail
            refine (HPUT.out W5 O5 HL5.out).mono ?_
            rintro x w6 ⟨rfl, O6, hs6, hL6⟩
            have hcol := HL5.out.two.col
            have HB6 := Lib.hid (HB5.out.step hs6 (by simp; omega))
            have HH6 := Lib.hid (HH5.out.step hs6 (by simp; omega))
            have HL6 := Lib.hid hL6
            clear hs6 hL6 hcol HB5 HH5 HL5 HPUT d0 d1 d2 d3
            obtain ⟨⟨d0, d1, d2, d3⟩, _, _⟩ := four HB6.out.1
            cases hf : fitM 5000 (runs 5000 X l).m p with
            | none =>
              as_aux_lemma =>
              have HL7 : Hid (LockE w i j E (runs 5000 X l) N0 qNew w6 O6) := Lib.hid (by have := HL6.out; rwa [Pr.put_no hf] at this)
              clear hf HL6
              go_wp2_with fail
              go_roundw
              case rel => exact ⟨k + 1, by omega, by go_num, l, O6, HL7.out, HH6.out, HF.out, by omega⟩
              case measure => simp [intOf]; omega
            | some y =>
              as_aux_lemma =>
              have HL7 : Hid (LockE w i j E (runs 5000 X (l ++ [p])) N0 qNew w6 O6) := Lib.hid (by rw [HSN.out]; exact HL6.out)
              have HF7 : Hid (FitAll 5000 X (l ++ [p])) := Lib.hid (fitAll_snoc HF.out hpb ⟨y, hf⟩)
              have HROW := Lib.hid HH6.out.row
              obtain ⟨i0, hi, hz0, hz1, hz2⟩ := info_parts Pl.infoPk
              have hm1 : l.length + 1 ≤ maxLen := by unfold maxLen; omega
              have hm2 : (l.length + 1) * 32 ≤ 140737488355328 := by omega
              clear hf HL6
              go_wp2_with (at_builtin; refine wpList_append_one _ rfl _ _ 32 rfl 34 i0 (.agg #[.int .i64 0, .int .i64 0, .int .i64 0, .int .u8 0]) 4 32 Try.underlying32 hi hz0 hz1 hz2 rfl (by decide) u9 l.length _ rfl (HROW.out.alloc _) ⟨w6.heap.size, 0, none⟩ 1 [.int .i64 p.k, .int .i64 p.d, .int .i64 p.n, .int .u8 (p.b : Int)] rfl rfl (Pl.pt_news (heap_alloc_new _ _)) (Pl.pt_one _ _ _ _) hm1 hm2 ?_; intro g9 cap9 w10 hown10 hgr10 hmv10; obtain ⟨t1, t2⟩ := HH6.out.more rfl hown10 hgr10 hmv10; have HT1 := Lib.hid t1; have HT2 := Lib.hid t2; clear t1 t2 hown10 hgr10 hmv10)
              go_roundw
              case rel => exact ⟨k + 1, by omega, by go_num, l ++ [p], _, HL7.out.other HT1.out (by omega), HT2.out, HF7.out, by simp; omega⟩
              case measure => simp [intOf]; omega
        · have HE : Hid (Putting w i j E X N0 60 u9 wr) := Lib.hid ⟨l, O, hL, hH, hF, by omega⟩
          clear hL hH hF
          have key : (k < len ∧ ¬ k < 60) ∨ ¬ k < len := by have := HPS.out; omega
          rcases key with ⟨g1, g2⟩ | g1
          · go_wp2_with fail
            go_meet
            exact HE.out
          · go_wp2_with fail
            go_meet
            exact HE.out
      -- END put
    case rest =>
      clear HP0 HIP HPS HPX
      obtain ⟨l, O, hL, hH, hF, hl⟩ := hcut
      have HL := Lib.hid hL
      have HH := Lib.hid hH
      have HF := Lib.hid hF
      obtain ⟨A9, p9, rfl⟩ := hH.slice
      have htu := runs_turns hF
      have ht0 := HTX.out
      have HFIN := Lib.hid (hL.fin (by omega))
      have htu2 : (((runs 5000 X l).s.code (runs 5000 X l).m pend).e).turns ≤ 20000 := by
        have h := Es.code_turns (runs 5000 X l).s (runs 5000 X l).m pend_ok
        omega
      have HTU := Lib.hid htu2
      obtain ⟨ds, d0, dk, dend, ddone, dbad⟩ := back_all (by rw [← HXX.out]; exact hF) (X := runs 5000 X l) (by rw [← HXX.out])
      rw [← HXX.out] at dk
      have HDK := Lib.hid dk
      have HEND := Lib.hid dend
      have HDN := Lib.hid ddone
      have HBD := Lib.hid dbad
      have HD0 := Lib.hid d0
      clear d0 dk dend ddone dbad hL hH hF htu ht0 htu2
      go_wp2_with fail
      refine HFIN.out.mono ?_
      rintro x w6 ⟨rfl, O6, hs6, hL6⟩
      have hcol := HL.out.two.col
      have HH6 := Lib.hid (HH.out.step hs6 (by simp; omega))
      have HL6 := Lib.hid hL6
      clear hs6 hL6 hcol HL HH HFIN
      have hE := enc_end HL6.out.enc (Nat.le_trans HTU.out (by omega))
      have hbs : (⟨((runs 5000 X l).s.code (runs 5000 X l).m pend).e.bytes.toArray⟩ : ByteArray).size ≤ 1000000000000 := by
        show ((runs 5000 X l).s.code (runs 5000 X l).m pend).e.bytes.toArray.size ≤ _
        have := HTU.out
        simp [Enc.bytes, Rc.be_length]; omega
      have HND := Lib.hid (fun W O => Rc.newdec (⟨((runs 5000 X l).s.code (runs 5000 X l).m pend).e.bytes.toArray⟩ : ByteArray) hbs W O 6)
      have HDT : Hid (Dec.read (⟨((runs 5000 X l).s.code (runs 5000 X l).m pend).e.bytes.toArray⟩ : ByteArray).data.toList = (ds 0).d) := Lib.hid (by rw [HD0.out])
      have HQ : Hid ((ds 0).q = qNew) := Lib.hid (by rw [HD0.out])
      have HE := Lib.hid hE
      clear hE hbs HD0
      simp only at HE
      generalize ((runs 5000 X l).s.code (runs 5000 X l).m pend).e.bytes = BY at *
      go_wp2_with fail
      refine HE.out.mono ?_
      rintro x w7 ⟨rfl, hb7⟩
      have hs7 := Step.of_below_same hb7 O6
      have HL7 := Lib.hid (HL6.out.idle hs7)
      have HH7 := Lib.hid (HH6.out.step hs7 (by simp))
      clear hb7 hs7 HL6 HH6 HE
      go_wp2_with fail
      refine (HND.out w7 O6).mono ?_
      rintro x w8 ⟨rfl, O8, hs8, hd8⟩
      rw [HDT.out] at hd8
      have HD8 : Hid (LockD w i j w7.heap.size (runs 5000 X l).m ((runs 5000 X l).s.code (runs 5000 X l).m pend).q (runs 5000 X (l.take 0)).m (ds 0) 0 w8 O8) := Lib.hid ⟨by
        rw [HQ.out]
        have e : (runs 5000 X (l.take 0)).m = N0 := by rw [List.take_zero, HNN.out, HN0.out]; rfl
        rw [e]
        exact HL7.out.two.idle hs8, hd8⟩
      have HH8 := Lib.hid (HH7.out.step hs8 (by simp))
      have HER : Hid (∀ W O', TwoM w i j (runs 5000 X l).m ((runs 5000 X l).s.code (runs 5000 X l).m pend).q (runs 5000 X l).m ((ds l.length).code (runs 5000 X l).m).q W O' → True) := Lib.hid (fun _ _ _ => trivial)
      generalize w7.heap.size = D at *
      have HEAT := Lib.hid (HL7.out.enc.step hs8 (by simp))
      clear hs8 hd8 HL7 HH7 HND HDT HQ HTU HER
      have hlen60 : l.length ≤ 60 := hl
      generalize ((runs 5000 X l).s.code (runs 5000 X l).m pend) = FE at *
      go_wp2_with fail
      go_loopw [13] (fun i' wr => ∃ k O', k ≤ l.length ∧ i' = .int .i64 (k : Int) ∧ LockD w i j D (runs 5000 X l).m FE.q (runs 5000 X (l.take k)).m (ds k) 0 wr O' ∧ HeldP wr O' 7 (.slice A9 l.length p9) l ∧ EncAt wr O' 5 E FE.e) (fun i' _ => l.length - (intOf i').toNat)
      case atStart => exact ⟨0, O8, by omega, rfl, HD8.out, HH8.out, HEAT.out⟩
      case round =>
        clear HD8 HH8 HEAT
        obtain ⟨k, O, hk, rfl, hL, hH, hEa⟩ := hrel
        by_cases hlt : k < l.length
        · as_aux_lemma =>
          -- BEGIN get
          obtain ⟨_, hpts⟩ := hH.ptsS (fitAll_b HF.out)
          have hlk : l[k]? = some l[k] := List.getElem?_eq_getElem hlt
          obtain ⟨g1, g2⟩ := HDK.out k _ hlk
          have HGET := Lib.hid (hL.get HJ9.out g1 g2)
          have HH := Lib.hid hH
          have HEA := Lib.hid hEa
          have hcol := hL.two.col
          have HCOL := Lib.hid hcol
          rcases hpts with he | ⟨b0, off, rfl, hc⟩
          · rw [he] at hlt; simp at hlt
          · clear g1 g2 hL hH hEa hlk hcol hc
            unfold Pk.Pt.val at HGET
            go_wp2_with fail
            refine HGET.out.mono ?_
            rintro x w9 ⟨rfl, O9, hs9, hL9⟩
            have hcol := HCOL.out
            have HH9 := Lib.hid (HH.out.step hs9 (by simp; omega))
            have HEA9 := Lib.hid (HEA.out.step hs9 (by simp; omega))
            have HL9 := Lib.hid hL9
            clear hs9 hL9 hcol HH HEA HGET
            go_upto_region 19 with (fail)
            have hs10 := Step.alloc_paint w9 O9 8 (.cells #[.int .i64 l[k].k, .int .i64 l[k].d, .int .i64 l[k].n, .int .u8 (l[k].b : Int)] 34)
            have HB10 := Lib.hid (Blk.new w9 O9 8 (.cells #[.int .i64 l[k].k, .int .i64 l[k].d, .int .i64 l[k].n, .int .u8 (l[k].b : Int)] 34))
            have HL10 := Lib.hid (HL9.out.idle hs10)
            have HH10 := Lib.hid (HH9.out.step hs10 (by simp))
            have HEA10 := Lib.hid (HEA9.out.step hs10 (by simp))
            clear hs10 HL9 HH9 HEA9
            generalize w9.alloc (.cells #[.int .i64 l[k].k, .int .i64 l[k].d, .int .i64 l[k].n, .int .u8 (l[k].b : Int)] 34) = W10 at *
            generalize w9.heap.size = Z at *
            generalize Step.paint O9 w9 8 = O10 at *
            obtain ⟨⟨d0, d1, d2, d3⟩, _, _⟩ := four HB10.out.1
            obtain ⟨_, hpts⟩ := HH10.out.ptsS (fitAll_b HF.out)
            rcases hpts with he | ⟨b1, off1, e1, hc⟩
            · rw [he] at hlt; simp at hlt
            · simp only [Option.some.injEq, Addr.mk.injEq, and_true] at e1
              obtain ⟨rfl, rfl⟩ := e1
              obtain ⟨c0, c1, c2, c3, _⟩ := hc k hlt
              have hq := eq_pk l[k]
              clear hc
              have i1 : (0 : Int) ≤ (k : Int) := by omega
              have i2 : (k : Int) < (l.length : Int) := by omega
              generalize l[k] = p at *
              go_quiet (fail)
              clear hq
              have HLD := Lib.hid (HL10.out.idle ((Step.refl [] W10 O10).drewN nq))
              have HHD := Lib.hid (HH10.out.step ((Step.refl [] W10 O10).drewN nq) (by simp))
              have HED := Lib.hid (HEA10.out.step ((Step.refl [] W10 O10).drewN nq) (by simp))
              go_wp2_with fail
              go_roundw
              case rel => exact ⟨k + 1, _, by omega, by go_num, HLD.out, HHD.out, HED.out⟩
              case measure => simp [intOf]; omega
          -- END get
        · as_aux_lemma =>
          obtain rfl : k = l.length := by omega
          rw [List.take_length] at hL
          have HGET := Lib.hid (hL.get HJ9.out HEND.out rfl)
          have HCOL := Lib.hid hL.two.col
          have HEA := Lib.hid hEa
          clear hL hH hEa HDK HEND HF hlt
          generalize (runs 5000 X l).m = M at *
          generalize hDE : (ds l.length).code M = DE at *
          clear hDE
          unfold Pk.Pt.val at HGET
          simp only at HGET
          go_wp2_with fail
          refine HGET.out.mono ?_
          rintro x w9 ⟨rfl, O9, hs9, hL9⟩
          have hcol := HCOL.out
          have HEA9 := Lib.hid (HEA.out.step hs9 (by simp; omega))
          have HL9 := Lib.hid hL9
          clear hs9 hL9 hcol HGET HEA
          -- BEGIN done
          go_upto_region 22 with (fail)
          have hs10 := Step.alloc_paint w9 O9 8 (.cells #[.int .i64 0, .int .i64 0, .int .i64 0, .int .u8 0] 34)
          have HB10 := Lib.hid (Blk.new w9 O9 8 (.cells #[.int .i64 0, .int .i64 0, .int .i64 0, .int .u8 0] 34))
          have HL10 := Lib.hid (HL9.out.idle hs10)
          have HEA10 := Lib.hid (HEA9.out.step hs10 (by simp))
          clear hs10 HL9 HEA9
          generalize w9.alloc (.cells #[.int .i64 0, .int .i64 0, .int .i64 0, .int .u8 0] 34) = W10 at *
          generalize w9.heap.size = Z at *
          generalize Step.paint O9 w9 8 = O10 at *
          go_wp2_with fail
          refine (none_end _ W10).mono ?_
          rintro x w11 ⟨rfl, rfl⟩
          go_wp2_with fail
          refine (none_get _ W10).mono ?_
          rintro x w12 ⟨rfl, hb12⟩
          go_upto_region 25 with (fail)
          have hs12 := Step.of_below_same (hb12.alloc hb12.size (.cells #[.int .i64 0, .int .i64 0, .int .i64 0, .int .u8 0] 34)) O10
          have HB12 := Lib.hid (HB10.out.step hs12 (by simp))
          have HL12 := Lib.hid (HL10.out.idle hs12)
          clear hs12 hb12 HB10 HL10 HEA10
          generalize w12.alloc (.cells #[.int .i64 0, .int .i64 0, .int .i64 0, .int .u8 0] 34) = W12 at *
          obtain ⟨⟨d0, d1, d2, d3⟩, _, _⟩ := four HB12.out.1
          have hq := eq_pk ⟨0, 0, 0, 0⟩ W12
          have HDO := Lib.hid (Rc.dec_done HL12.out.dec)
          rw [HDN.out] at HDO
          go_wp2_with fail
          refine HDO.out.mono ?_
          rintro x w13 ⟨rfl, n, hn⟩
          have HL13 := Lib.hid (show LockD w i j D M FE.q M DE 0 w13 O10 from by rw [hn]; exact HL12.out.idle ((Step.refl [] _ _).drewN n))
          have HBA := Lib.hid (Rc.dec_bad HL13.out.dec)
          rw [HBD.out] at HBA
          clear hn HDO HL12 d0 d1 d2 d3 hq HB12
          go_wp2_with fail
          refine HBA.out.mono ?_
          rintro x w14 ⟨rfl, rfl⟩
          have HT1 := Lib.hid (model_text HL13.out.two.one)
          have HT2 := Lib.hid (model_text HL13.out.two.two)
          clear HBA
          go_wp2_with fail
          refine HT2.out.mono ?_
          rintro x w15 ⟨rfl, rfl⟩
          go_wp2_with fail
          refine HT1.out.mono ?_
          rintro x w15 ⟨rfl, rfl⟩
          have HNP := Lib.hid (none_put (.pointer (some ⟨E, 0, none⟩)) ⟨1, 0, 0, 0⟩ w13)
          unfold Pk.Pt.val at HNP
          simp only at HNP
          have hst : ((⟨M.l.toArray⟩ : ByteArray).toList == (⟨M.l.toArray⟩ : ByteArray).toList) = true := by simp
          clear HT1 HT2
          go_wp2_with fail
          refine HNP.out.mono ?_
          rintro x w16 ⟨rfl, hb16⟩
          have HL16 := Lib.hid (HL13.out.idle (Step.of_below_same hb16 O10))
          clear hb16 HNP HL13 hst
          go_wp2_with fail
          refine (none_text w16).mono ?_
          rintro x w17 ⟨rfl, rfl⟩
          go_wp2_with fail
          refine (none_len w16).mono ?_
          rintro x w17 ⟨rfl, rfl⟩
          go_wp2_with fail
          go_ret
          exact ⟨rfl, HL16.out.two.run.below⟩
          -- END done
end Go.Proofs.Ytkjmkojbfjockaa.Mo
