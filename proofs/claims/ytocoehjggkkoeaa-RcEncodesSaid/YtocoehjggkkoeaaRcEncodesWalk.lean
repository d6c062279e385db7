/-
  The walk of the statement RcEncodes: for every list of steps it returns true, and writes nothing that was there.
-/
import Derived.Test.YtocoehjggkkoeaaRcLock
import Derived.Deep.RegionWith
namespace Go.Proofs.Ytocoehjggkkoeaa.Rc
open Go.RowKit
set_option maxRecDepth 100000 in
set_option maxHeartbeats 16000000 in
theorem encodes_walk (a0 : Option Addr) (len cap : Nat) (w : World) (hl : IsSteps w a0 len) :
    Calls Try.prog 3 #[.slice a0 len cap] w fun x w' => x = .returned (.bool true) ∧ Below w.heap.size w w' := by
  have HRUN := Lib.hid (Run.start w)
  have HIS := Lib.hid hl
  have hlen := hl.1
  unfold maxLen at hlen
  clear hl
  go_enter Try.func3, Try.ntmps3
  go_wp2_with fail
  refine (speaks3 w).mono ?_
  rintro x w1 ⟨rfl, hb1⟩
  have hs1 := Step.of_below_same hb1 (fun _ => 0)
  have HR1 := Lib.hid (HRUN.out.step hs1 (by simp))
  clear hb1 hs1 HRUN
  go_wp2_with fail
  refine (new_enc w1 (fun _ => 0) 1).mono ?_
  rintro x w2 ⟨a, rfl, ha, O2, hs2, he2⟩
  have HR2 := Lib.hid (HR1.out.step hs2 (by simp))
  have HE2 := Lib.hid he2
  clear hs2 he2 HR1
  go_wp2_with fail
  refine (new_any (.slice none 0 0) w2).mono ?_
  rintro x w3 ⟨v3, rfl, hrow3, hb3, hmv3⟩
  obtain ⟨g3, cap3, hv3⟩ := hrow3.form (by rw [be_length]; omega)
  rw [be_length] at hv3
  subst hv3
  have hs3 := Step.of_below hb3 O2 2
  have HE3 := Lib.hid (HE2.out.step hs3 (by simp))
  have HR3 := Lib.hid (HR2.out.step hs3 (by simp))
  have HRO := Lib.hid (show Held w3 (Step.paint O2 w2 2) 2 5 (.slice (some ⟨g3, 0, none⟩) (Enc.start.turns + 4) cap3) ((be (Enc.start.turns + 4) Enc.start.low).map byte) from Held.fresh hrow3.toOwn (fun k hk => by
    rcases hmv3 with e1 | e1
    · rw [e1] at hk; simp [Value.ownBlock] at hk
    · exact e1 k hk) O2)
  generalize Step.paint O2 w2 2 = O3 at *
  clear hs3 hrow3 hb3 hmv3 HE2 HR2
  go_wp2_with fail
  have hs4 := Step.alloc_paint w3 O3 2 (.cells #[.slice (some ⟨g3, 0, none⟩) (Enc.start.turns + 4) cap3, .int .u64 (Enc.start.size : Int)] 29)
  have b4 := Blk.new w3 O3 2 (.cells #[.slice (some ⟨g3, 0, none⟩) (Enc.start.turns + 4) cap3, .int .u64 (Enc.start.size : Int)] 29)
  have z4 : (w3.alloc (.cells #[.slice (some ⟨g3, 0, none⟩) (Enc.start.turns + 4) cap3, .int .u64 (Enc.start.size : Int)] 29)).heap.size = w3.heap.size + 1 := World.size_alloc _ _
  have e4 := HE3.out.step hs4 (by simp)
  have r4 := HR3.out.step hs4 (by simp)
  have h4 := HRO.out.step hs4 (by simp)
  generalize w3.alloc (.cells #[.slice (some ⟨g3, 0, none⟩) (Enc.start.turns + 4) cap3, .int .u64 (Enc.start.size : Int)] 29) = W4 at *
  generalize Step.paint O3 w3 2 = O4 at *
  have hs5 := Step.alloc_paint W4 O4 3 (.cells #[.int .u16 1024, .int .u16 1024, .int .u16 1024, .int .u16 1024] 32)
  have p5 := Blk.new W4 O4 3 (.cells #[.int .u16 1024, .int .u16 1024, .int .u16 1024, .int .u16 1024] 32)
  have z5 : (W4.alloc (.cells #[.int .u16 1024, .int .u16 1024, .int .u16 1024, .int .u16 1024] 32)).heap.size = W4.heap.size + 1 := World.size_alloc _ _
  have e5 := e4.step hs5 (by simp)
  have r5 := r4.step hs5 (by simp)
  have b5 := b4.step hs5 (by simp)
  have h5 := h4.step hs5 (by simp)
  generalize W4.alloc (.cells #[.int .u16 1024, .int .u16 1024, .int .u16 1024, .int .u16 1024] 32) = W5 at *
  generalize Step.paint O4 W4 3 = O5 at *
  have hs6 := Step.alloc_paint W5 O5 4 (.cells #[.int .u64 1024, .int .u64 1024, .int .u64 1024, .int .u64 1024] 33)
  have q6 := Blk.new W5 O5 4 (.cells #[.int .u64 1024, .int .u64 1024, .int .u64 1024, .int .u64 1024] 33)
  have e6 := e5.step hs6 (by simp)
  have r6 := r5.step hs6 (by simp)
  have b6 := b5.step hs6 (by simp)
  have h6 := h5.step hs6 (by simp)
  have p6 := p5.step hs6 (by simp)
  generalize W5.alloc (.cells #[.int .u64 1024, .int .u64 1024, .int .u64 1024, .int .u64 1024] 33) = W6 at *
  generalize Step.paint O5 W5 4 = O6 at *
  rw [z4] at z5 p6
  rw [z5] at q6
  generalize w3.heap.size = M at *
  have HL0 := Lib.hid (show Locked w a M (M + 1) (M + 1 + 1) Enc.start [1024, 1024, 1024, 1024] W6 from ⟨rfl, probs_new 4, O6, r6, e6, ⟨g3, cap3, b6, h6⟩, p6, q6⟩)
  clear hs4 b4 z4 e4 r4 h4 hs5 p5 z5 e5 r5 b5 h5 hs6 q6 e6 r6 b6 h6 p6 HE3 HR3 HRO
  clear ha
  generalize M + 1 + 1 = Q at *
  generalize M + 1 = P at *
  go_loopw [7] (fun i wr => ∃ (k : Nat) (e : Enc) (pl : List Nat), k ≤ len ∧ k ≤ 80 ∧ i = .int .i64 k ∧ e.turns ≤ 100 * k ∧ Locked w a M P Q e pl wr) (fun i _ => len - (intOf i).toNat)
  case atStart => exact ⟨0, _, _, by omega, by omega, rfl, Nat.le_refl _, HL0.out⟩
  case round =>
    clear HL0
    obtain ⟨k, e, pl, hk, hk80, rfl, htn, hlk⟩ := hrel
    by_cases hlt : k < len ∧ k < 80
    · obtain ⟨hlt, hlt80⟩ := hlt
      have hex := HIS.out.2
      rcases hex with h0 | ⟨b, off, rfl, hbl, hact⟩
      · omega
      · obtain ⟨x, hc0, hc1, hc2, hc3, hc4, hx⟩ := hact k hlt
        have hbw := hlk.2.2.elim fun O h => h.run.below
        rw [← hbw.cell (p := ⟨b, _, none⟩) hbl] at hc0 hc1 hc2 hc3 hc4
        have HX := Lib.hid hx
        have HLK := Lib.hid hlk
        clear hact hbw hlk
        obtain ⟨x1, x2, x3, x4, x5⟩ := hx
        go_upto_block 2 with (fail)
        go_cut [37] (fun _ wx => ∃ (e' : Enc) (pl' : List Nat), e'.turns ≤ 100 * (k + 1) ∧ Locked w a M P Q e' pl' wx)
        case first =>
          obtain ⟨hpl, hpr, O, hL⟩ := HLK.out
          have hsx := Step.alloc_paint wr O 5 (.cells #[.int .u8 (x.what : Int), .int .u8 (x.which : Int), .int .u32 (x.v : Int), .int .u8 (x.n : Int), .int .u16 (x.total : Int)] 36)
          have hbx := Blk.new wr O 5 (.cells #[.int .u8 (x.what : Int), .int .u8 (x.which : Int), .int .u32 (x.v : Int), .int .u8 (x.n : Int), .int .u16 (x.total : Int)] 36)
          have hL1 := hL.idle hsx
          generalize wr.alloc (.cells #[.int .u8 (x.what : Int), .int .u8 (x.which : Int), .int .u32 (x.v : Int), .int .u8 (x.n : Int), .int .u16 (x.total : Int)] 36) = W at *
          generalize Step.paint O wr 5 = O1 at *
          generalize wr.heap.size = X at *
          have HX1 := Lib.hid hbx
          have HL1 := Lib.hid hL1
          have HPR := Lib.hid hpr
          have HPL := Lib.hid hpl
          clear hsx hL hL1 hc0 hc1 hc2 hc3 hc4 hpl hpr HLK
          by_cases h3 : x.what % 5 = 3
          · as_aux_lemma =>
            -- BEGIN direct
            have hb3 : ((x.what : Int) % 5 == 3) = true := by rw [beq_iff_eq]; omega
            have v3 : W.cell? ⟨X, 3, none⟩ = some (.int .u8 (x.n : Int)) := hbx.cell 3
            have v2 : W.cell? ⟨X, 2, none⟩ = some (.int .u32 (x.v : Int)) := hbx.cell 2
            obtain ⟨n, hn⟩ : ∃ n : Nat, n = x.n % 33 := ⟨_, rfl⟩
            have hn32 : n ≤ 32 := by omega
            have HN := Lib.hid (show (x.n : Int) % 33 = (n : Int) by omega)
            clear hbx hn h3
            go_wp2_with fail
            rw [HN.out]
            clear hb3 v3 v2
            refine (encdirect HL1.out.enc (by omega) x.v n x3 hn32).mono ?_
            rintro y W2 ⟨rfl, O2, hs2, he2⟩
            have HL2 := Lib.hid (HL1.out.dev hs2 he2)
            have HX2 := Lib.hid (HX1.out.step hs2 (by simp))
            clear hs2 he2
            go_wp2_with fail
            go_loopw [10] (fun i wx => ∃ q : Nat, q ≤ n ∧ i = .int .i64 ((q : Int) - 1) ∧ ∃ O, Lock w a M P Q (directN x.v n e n) (directN x.v n e (n - q)) pl pl wx O ∧ Blk wx O 5 X (.cells #[.int .u8 (x.what : Int), .int .u8 (x.which : Int), .int .u32 (x.v : Int), .int .u8 (x.n : Int), .int .u16 (x.total : Int)] 36 (0, 0))) (fun i _ => (intOf i + 1).toNat)
            case atStart => exact ⟨n, Nat.le_refl _, rfl, O2, by rw [Nat.sub_self]; exact HL2.out, HX2.out⟩
            case round =>
              clear HL2 HX2
              obtain ⟨q, hq, rfl, O3, hL3, hX3⟩ := hrel
              cases q with
              | zero =>
                rw [Nat.sub_zero] at hL3
                have HL3 := Lib.hid hL3
                clear hL3 hX3
                go_wp2_with fail
                go_meet
                exact ⟨_, pl, Nat.le_trans (directN_turns e x.v n n) (by omega), HPL.out, HPR.out, O3, HL3.out⟩
              | succ p =>
                have hst : directN x.v n e (n - p) = (directN x.v n e (n - (p + 1))).direct (bitAt x.v p) := by
                  rw [show n - p = (n - (p + 1)) + 1 from by omega, directN, show n - 1 - (n - (p + 1)) = p from by omega]
                have htt := directN_turns e x.v n (n - (p + 1))
                have hfi := fine_directN hL3.enc.2 0 0 0
                have HFI := Lib.hid (fine_directN HL1.out.enc.2 x.v n (n - (p + 1)))
                clear hfi
                generalize directN x.v n e (n - (p + 1)) = E at *
                obtain ⟨g4, cap4, hR4⟩ := hL3.ref
                obtain ⟨m0, m1, mf0, mf1, mlt⟩ := two hR4.1.1
                have v2 : wr.cell? ⟨X, 2, none⟩ = some (.int .u32 (x.v : Int)) := hX3.cell 2
                have hXl := hX3.lt
                have HBW := Lib.hid (show bits .and .i64 (IntKind.i64.wrap ((x.v : Int) / 2 ^ p)) 1 = ((bitAt x.v p : Nat) : Int) by
                  rw [shr_wrap x.v p (by omega)]; exact and1_i64 x.v p (by omega))
                have hb1 := bitAt_le x.v p
                have HST := Lib.hid hst
                have hpI : ((p + 1 : Nat) : Int) - 1 = (p : Int) := by omega
                rw [hpI]
                have HCB := Lib.hid (directb_any (w := wr.drew) (show Row wr.drew _ _ from hR4.2.toRow) HFI.out (by omega) (bitAt x.v p) hb1)
                generalize bitAt x.v p = bb at *
                have HR4 := Lib.hid hR4
                have HL3 := Lib.hid hL3
                have HX3 := Lib.hid hX3
                clear hst hpI hR4 hL3 hX3
                go_wp2_with fail
                go_region_with ((go_at_call 13; rw [HBW.out]; (with_reducible refine HCB.out.mono ?_); rintro y w5 ⟨v5, rfl, hrow5, hb5, hmv5⟩; obtain ⟨g5, cap5, hv5⟩ := row_len hrow5; subst hv5; have k0 := (hb5.cell (p := ⟨M, 0, none⟩) mlt).trans m0; have k1 := (hb5.cell (p := ⟨M, 1, none⟩) mlt).trans m1; have l0 := (hb5.frozen (p := ⟨M, 0, none⟩) mlt).trans mf0; have l1 := (hb5.frozen (p := ⟨M, 1, none⟩) mlt).trans mf1; have HRow5 := Lib.hid hrow5; have HB5 := Lib.hid hb5; have HMV5 := Lib.hid hmv5; clear hrow5 hb5 hmv5))
                all_goals
                  obtain ⟨t1, t2⟩ := HR4.out.set ⟨HB5.out.os, HB5.out.tape, HB5.out.output, HB5.out.size, HB5.out.block⟩ HRow5.out HMV5.out rfl
                  have HL5 := Lib.hid (HL3.out.refs t2 t1)
                  have HX5 := Lib.hid (HX3.out.step t2 (by simp))
                  clear t1 t2 k0 k1 l0 l1 m0 m1 mf0 mf1 v2
                  go_wp2_with fail
                  go_roundw
                  case rel => exact ⟨p, by omega, by go_num, _, by rw [HST.out]; exact HL5.out, HX5.out⟩
                  case measure => simp [intOf]
            -- END direct
          · have hb3 : ((x.what : Int) % 5 == 3) = false := by rw [beq_eq_false_iff_ne]; omega
            by_cases h4 : x.what % 5 = 4
            · as_aux_lemma =>
              -- BEGIN part
              have hb4 : ((x.what : Int) % 5 == 4) = true := by rw [beq_iff_eq]; omega
              obtain ⟨p1, p2, p3, p4⟩ := St.parts HX.out
              have HPA := Lib.hid (part_law x HX.out)
              generalize x.C = C at *
              generalize x.A = A at *
              generalize x.B = B at *
              have v0 : W.cell? ⟨X, 0, none⟩ = some (.int .u8 (x.what : Int)) := hbx.cell 0
              have v1 : W.cell? ⟨X, 1, none⟩ = some (.int .u8 (x.which : Int)) := hbx.cell 1
              have v2 : W.cell? ⟨X, 2, none⟩ = some (.int .u32 (x.v : Int)) := hbx.cell 2
              have v3 : W.cell? ⟨X, 3, none⟩ = some (.int .u8 (x.n : Int)) := hbx.cell 3
              have v4 : W.cell? ⟨X, 4, none⟩ = some (.int .u16 (x.total : Int)) := hbx.cell 4
              clear hbx h3 h4
              go_wp2_with fail
              refine (HPA.out _).mono ?_
              rintro y W2 ⟨rfl, hb2⟩
              have HL2 := Lib.hid (HL1.out.below hb2)
              clear hb2 v0 v1 v2 v3 v4 hb3 hb4 HX1 HL1
              go_wp2_with fail
              refine (encpart HL2.out.enc (by omega) A B C p1 p2 p3).mono ?_
              rintro y W3 ⟨rfl, O3, hs3, he3⟩
              have hL3 := HL2.out.dev hs3 he3
              have HFI := Lib.hid HL2.out.enc.2
              obtain ⟨g4, cap4, hR4⟩ := hL3.ref
              obtain ⟨m0, m1, mf0, mf1, mlt⟩ := two hR4.1.1
              have HR4 := Lib.hid hR4
              have HL3 := Lib.hid hL3
              clear hs3 he3 hL3 hR4 HL2
              go_wp2_with fail
              refine (part_any HR4.out.2.toRow HFI.out (by omega) A B C p1 p2 p3).mono ?_
              rintro y w5 ⟨v5, rfl, hrow5, hb5, hmv5⟩
              obtain ⟨g5, cap5, hv5⟩ := row_len hrow5
              subst hv5
              obtain ⟨t1, t2⟩ := HR4.out.set hb5 hrow5 hmv5 rfl
              have k0 := (hb5.cell (p := ⟨M, 0, none⟩) mlt).trans m0
              have k1 := (hb5.cell (p := ⟨M, 1, none⟩) mlt).trans m1
              have l0 := (hb5.frozen (p := ⟨M, 0, none⟩) mlt).trans mf0
              have l1 := (hb5.frozen (p := ⟨M, 1, none⟩) mlt).trans mf1
              have HL5 := Lib.hid (HL3.out.refs t2 t1)
              clear t1 t2 m0 m1 mf0 mf1 hb5 hrow5 hmv5
              go_wp2_with fail
              go_meet
              exact ⟨_, pl, Nat.le_trans (part_turns e A B C) (by omega), HPL.out, HPR.out, _, HL5.out⟩
              -- END part
            · as_aux_lemma =>
              -- BEGIN bit
              have hb4 : ((x.what : Int) % 5 == 4) = false := by rw [beq_eq_false_iff_ne]; omega
              obtain ⟨j, hj⟩ : ∃ j : Nat, j = x.which % 4 := ⟨_, rfl⟩
              have hj4 : j < 4 := by omega
              have HJ := Lib.hid (show (x.which : Int) % 4 = (j : Int) by omega)
              have v1 : W.cell? ⟨X, 1, none⟩ = some (.int .u8 (x.which : Int)) := hbx.cell 1
              have v2 : W.cell? ⟨X, 2, none⟩ = some (.int .u32 (x.v : Int)) := hbx.cell 2
              have hb1 : x.v % 2 ≤ 1 := by omega
              have hpj := probs_get HPR.out (show j < pl.length by rw [HPL.out]; exact hj4)
              have hjl : j < pl.length := by rw [HPL.out]; exact hj4
              obtain ⟨pp, hpp⟩ : ∃ pp : Nat, pp = pl.getD j 0 := ⟨_, rfl⟩
              rw [← hpp] at hpj
              have HPP := Lib.hid hpp
              clear hj h3 h4 hbx hpp
              go_upto_region 11 with (fail)
              rw [HJ.out]
              go_cut [48] (fun _ wx => ∃ O, Lock w a M P Q (e.bit pp (x.v % 2)) e (pl.set j (learn pp (x.v % 2))) pl wx O ∧ Blk wx O 5 X (.cells #[.int .u8 (x.what : Int), .int .u8 (x.which : Int), .int .u32 (x.v : Int), .int .u8 (x.n : Int), .int .u16 (x.total : Int)] 36 (0, 0)))
              case first =>
                as_aux_lemma =>
                have HLd := Lib.hid (HL1.out.idle (Step.refl [] W O1).drew)
                have HXd := Lib.hid (HX1.out.step ((Step.refl [] W O1).drew) (by simp))
                have HCB := Lib.hid (encbit (p := pp) (b := x.v % 2) HLd.out.enc (by omega) (by rw [HPP.out]; exact HLd.out.ps.cellAt hjl) (Blk.free HLd.out.ps j) (by show O1 P ≠ 1; rw [HLd.out.ps.2]; decide) (by omega) (by omega) hb1)
                go_region_with ((go_at_call 17; (first | rw [low_bit x.v x3] | rw [low_bit64 x.v x3]); (with_reducible refine HCB.out.mono ?_); rintro y w5 ⟨rfl, O5, hs5, he5⟩; have HL5 := Lib.hid ((HLd.out.setP j (learn pp (x.v % 2))).dev hs5 he5); have HX5 := Lib.hid ((HXd.out.setCell_other (p := ⟨P, j, none⟩) (fun e1 => by have h1 := HLd.out.ps.2; have h2 := HXd.out.2; simp only at e1; rw [e1, h2] at h1; exact absurd h1 (by decide)) (.int .u16 ((learn pp (x.v % 2) : Nat) : Int))).step hs5 (by simp)); clear hs5 he5))
                all_goals
                  go_wp2_with fail
                  go_meet
                  exact ⟨O5, HL5.out, HX5.out⟩
              case rest =>
              obtain ⟨O5, hL5, hX5⟩ := hcut
              obtain ⟨g4, cap4, hR4⟩ := hL5.ref
              obtain ⟨m0, m1, mf0, mf1, mlt⟩ := two hR4.1.1
              have q0 := hL5.qs.cellAt hjl
              have v2 : wc.cell? ⟨X, 2, none⟩ = some (.int .u32 (x.v : Int)) := hX5.cell 2
              have qf0 := Blk.free hL5.qs j
              have qlt := Blk.lt hL5.qs
              have hMQ : M ≠ Q := fun e1 => by
                have h1 := hR4.1.2
                have h2 := hL5.qs.2
                rw [e1, h2] at h1
                exact absurd h1 (by decide)
              rw [← HPP.out] at q0
              have HR4 := Lib.hid hR4
              have HL5 := Lib.hid hL5
              have HX5 := Lib.hid hX5
              have HFI := Lib.hid HL1.out.enc.2
              have HCR := Lib.hid (bitb_any (w := wc.drew) (show Row wc.drew _ _ from hR4.2.toRow) HFI.out (by omega) pp (x.v % 2) hpj.1 hpj.2 hb1)
              clear hR4 hL5 hX5
              go_upto_region 12 with (fail)
              go_cut [49] (fun _ wx => ∃ O, Lock w a M P Q (e.bit pp (x.v % 2)) (e.bit pp (x.v % 2)) (pl.set j (learn pp (x.v % 2))) (pl.set j (learn pp (x.v % 2))) wx O)
              case first =>
                as_aux_lemma =>
                go_region_with ((go_at_call 18; (first | rw [low_bit x.v x3] | rw [low_bit64 x.v x3]); (with_reducible refine HCR.out.mono ?_); rintro y w6 ⟨v6, rfl, hrow6, hb6, hmv6⟩; obtain ⟨g6, cap6, hv6⟩ := row_len hrow6; subst hv6; have k0 := (hb6.cell (p := ⟨M, 0, none⟩) mlt).trans m0; have k1 := (hb6.cell (p := ⟨M, 1, none⟩) mlt).trans m1; have l0 := (hb6.frozen (p := ⟨M, 0, none⟩) mlt).trans mf0; have l1 := (hb6.frozen (p := ⟨M, 1, none⟩) mlt).trans mf1; have k2 := (hb6.cell (p := ⟨Q, j, none⟩) qlt).trans q0; have l2 := (hb6.frozen (p := ⟨Q, j, none⟩) qlt).trans qf0; have HRow6 := Lib.hid hrow6; have HB6 := Lib.hid hb6; have HMV6 := Lib.hid hmv6; clear hrow6 hb6 hmv6))
                all_goals
                  obtain ⟨t1, t2⟩ := HR4.out.set ⟨HB6.out.os, HB6.out.tape, HB6.out.output, HB6.out.size, HB6.out.block⟩ HRow6.out HMV6.out rfl
                  have HL6 := Lib.hid ((HL5.out.refs t2 t1).setQ j (learn pp (x.v % 2)))
                  clear t1 t2 k0 k1 k2 l0 l1 l2
                  go_wp2_with fail
                  go_meet
                  exact ⟨_, HL6.out⟩
              case rest =>
              clear HR4 HL5 HX5 HCR HL1 HX1
              obtain ⟨O7, hL7⟩ := hcut
              have hl2 : (pl.set j (learn pp (x.v % 2))).length = 4 := by rw [List.length_set]; exact HPL.out
              have c1 := hL7.ps.cellAt (j := j) (by omega)
              have c2 := hL7.qs.cellAt (j := j) (by omega)
              have HPR7 := Lib.hid (probs_set HPR.out j (learn_in (b := x.v % 2) hpj.1 hpj.2))
              have hlr := probs_get HPR7.out (k := j) (by omega)
              have HL7 := Lib.hid hL7
              have HL2 := Lib.hid hl2
              generalize pl.set j (learn pp (x.v % 2)) = pm at *
              generalize pm.getD j 0 = r at *
              clear hL7 hl2
              go_wp2_with fail
              go_quiet (fail)
              go_wp2_with fail
              go_meet
              exact ⟨_, pm, Nat.le_trans (bit_turns _ _ _) (by omega), HL2.out, HPR7.out, O7, HL7.out.idle ((Step.refl [] _ _).drewN _)⟩
              -- END bit
        case rest =>
          -- BEGIN rest
          obtain ⟨e', pl', ht', hpl', hpr', O', hL'⟩ := hcut
          obtain ⟨g4, cap4, hR4⟩ := hL'.ref
          have HLn := Lib.hid (Ended.drew ⟨hL', hR4⟩)
          have HLP := Lib.hid hpl'
          have HLQ := Lib.hid hpr'
          have HE0 := Lib.hid hL'
          obtain ⟨m0, m1, mf0, mf1, mlt⟩ := two hR4.1.1
          have HED := Lib.hid (fun W h => Ended.dev (w := W) (w0 := w) (a := a) (M := M) (P := P) (Q := Q) (g := g4) (cap := cap4) (e := e') (pl := pl') (O := O') h (by omega))
          have HER := Lib.hid (fun W h => Ended.refs (w := W) (w0 := w) (a := a) (M := M) (P := P) (Q := Q) (g := g4) (cap := cap4) (e := e') (pl := pl') (O := O') h (by omega))
          clear hL' hR4 hpl' hpr' hc0 hc1 hc2 hc3 hc4
          generalize (⟨e'.bytes.toArray⟩ : ByteArray) = SS at *
          by_cases h7 : k % 7 = 0
          · as_aux_lemma =>
            have hb7 : ((k : Int) % 7 == 0) = true := by rw [beq_iff_eq]; omega
            have e7 : (k : Int).tmod 7 = 0 := by rw [Int.tmod_eq_emod_of_nonneg (by omega)]; omega
            have e8 : (k : Int) % 7 = 0 := by omega
            go_wp2_with fail
            go_region_with ((first | (go_at_call 19; (with_reducible refine (HED.out _ HLn.out).mono ?_); rintro y w6 ⟨rfl, hl6⟩; obtain ⟨k0, k1, _, _, _⟩ := two hl6.2.1.1; have HLn := Lib.hid hl6; clear hl6) | (go_at_call 20; (with_reducible refine (HER.out _ HLn.out).mono ?_); rintro y w6 ⟨rfl, hl6⟩; obtain ⟨k0, k1, _, _, _⟩ := two hl6.2.1.1; have HLn := Lib.hid hl6; clear hl6)))
            all_goals
              go_wp2_with fail
              go_roundw
              case rel => exact ⟨k + 1, e', pl', by omega, by omega, by go_num, ht', HLP.out, HLQ.out, O', HLn.out.1⟩
              case measure => simp [intOf]; omega
          · as_aux_lemma =>
            have hb7 : ((k : Int) % 7 == 0) = false := by rw [beq_eq_false_iff_ne]; omega
            go_wp2_with fail
            go_quiet (fail)
            go_wp2_with fail
            go_roundw
            case rel => exact ⟨k + 1, e', pl', by omega, by omega, by go_num, ht', HLP.out, HLQ.out, O', HE0.out.idle ((Step.refl [] _ _).drewN _)⟩
            case measure => simp [intOf]; omega
          -- END rest
    · -- BEGIN exit
      obtain ⟨hpl', hpr', O', hL'⟩ := hlk
      obtain ⟨g4, cap4, hR4⟩ := hL'.ref
      have HLn := Lib.hid (Ended.drew ⟨hL', hR4⟩)
      obtain ⟨m0, m1, mf0, mf1, mlt⟩ := two hR4.1.1
      have HED := Lib.hid (fun W h => Ended.dev (w := W) (w0 := w) (a := a) (M := M) (P := P) (Q := Q) (g := g4) (cap := cap4) (e := e) (pl := pl) (O := O') h (by omega))
      have HER := Lib.hid (fun W h => Ended.refs (w := W) (w0 := w) (a := a) (M := M) (P := P) (Q := Q) (g := g4) (cap := cap4) (e := e) (pl := pl) (O := O') h (by omega))
      clear hL' hR4 hpl' hpr'
      generalize (⟨e.bytes.toArray⟩ : ByteArray) = SS at *
      have key : (k < len ∧ ¬ k < 80) ∨ ¬ k < len := by omega
      rcases key with ⟨h1, h2⟩ | h1
      · have d2 : decide ((k : Int) < 80) = false := by rw [decide_eq_false_iff_not]; omega
        clear hlt h2
        go_wp2_with fail
        go_region_with ((first | (go_at_call 19; (with_reducible refine (HED.out _ HLn.out).mono ?_); rintro y w6 ⟨rfl, hl6⟩; obtain ⟨k0, k1, _, _, _⟩ := two hl6.2.1.1; have HLn := Lib.hid hl6; clear hl6) | (go_at_call 20; (with_reducible refine (HER.out _ HLn.out).mono ?_); rintro y w6 ⟨rfl, hl6⟩; obtain ⟨k0, k1, _, _, _⟩ := two hl6.2.1.1; have HLn := Lib.hid hl6; clear hl6)))
        all_goals
          go_wp2_with fail
          go_ret
          exact ⟨ret_bool (by simp), HLn.out.1.run.below⟩
      · have d1 : decide (k < len) = false := by rw [decide_eq_false_iff_not]; omega
        clear hlt
        go_wp2_with fail
        go_region_with ((first | (go_at_call 19; (with_reducible refine (HED.out _ HLn.out).mono ?_); rintro y w6 ⟨rfl, hl6⟩; obtain ⟨k0, k1, _, _, _⟩ := two hl6.2.1.1; have HLn := Lib.hid hl6; clear hl6) | (go_at_call 20; (with_reducible refine (HER.out _ HLn.out).mono ?_); rintro y w6 ⟨rfl, hl6⟩; obtain ⟨k0, k1, _, _, _⟩ := two hl6.2.1.1; have HLn := Lib.hid hl6; clear hl6)))
        all_goals
          go_wp2_with fail
          go_ret
          exact ⟨ret_bool (by simp), HLn.out.1.run.below⟩
      -- END exit
end Go.Proofs.Ytocoehjggkkoeaa.Rc
