/-
  The walk of the statement RcDecodes: for every text and every list of steps it returns true, and writes nothing that was there.
-/
import Derived.Test.YtocoehjggkkoeaaRcDecLock
import Derived.Deep.RegionWith
import Derived.Deep.RegionHeld3
namespace Go.Proofs.Ytocoehjggkkoeaa.Rc
open Go.RowKit
set_option maxRecDepth 100000 in
set_option maxHeartbeats 16000000 in
theorem decodes_walk (s : ByteArray) (a0 : Option Addr) (len cap : Nat) (w : World) (hso : s.size ≤ maxLen) (hl : IsSteps w a0 len) :
    Calls Try.prog 5 #[.string s, .slice a0 len cap] w fun x w' => x = .returned (.bool true) ∧ Below w.heap.size w w' := by
  have HRUN := Lib.hid (Run.start w)
  have HIS := Lib.hid hl
  have hlen := hl.1
  unfold maxLen at hlen hso
  clear hl
  go_enter Try.func5, Try.ntmps5
  go_wp2_with fail
  refine (speaks3 w).mono ?_
  rintro x w1 ⟨rfl, hb1⟩
  have hs1 := Step.of_below_same hb1 (fun _ => 0)
  have HR1 := Lib.hid (HRUN.out.step hs1 (by simp))
  clear hb1 hs1 HRUN
  go_upto_region 3 with (fail)
  obtain ⟨t, ht⟩ : ∃ t : ByteArray, t = s.extract 0 (min s.size 100) := ⟨_, rfl⟩
  have hts : t.size ≤ 100 := by rw [ht]; simp; omega
  have HTE := Lib.hid ht
  clear ht
  go_cut [0] (fun u wx => u = .string t ∧ wx = w1)
  case first =>
    as_aux_lemma =>
    by_cases h5 : s.size ≤ 100
    · have h5' : (s.size : Int) ≤ 100 := by omega
      go_wp2_with fail
      all_goals
        go_meet
        exact ⟨congrArg Value.string (by rw [HTE.out, Nat.min_eq_left h5]; simp), rfl⟩
    · have h5' : (100 : Int) < (s.size : Int) := by omega
      go_wp2_with fail
      all_goals
        go_meet
        exact ⟨congrArg Value.string (by rw [HTE.out, Nat.min_eq_right (by omega)]), rfl⟩
  case rest =>
  obtain ⟨rfl, rfl⟩ := hcut
  clear HTE hso
  have htl : t.data.toList.length ≤ 100 := by simpa using hts
  have HRD := Lib.hid (read_any t.data.toList (by omega))
  have hteq : (⟨t.data.toList.toArray⟩ : ByteArray) = t := by simp
  rw [hteq] at HRD
  have hok0 : DecOk (Dec.read t.data.toList) := ⟨fine_read _, Nat.le_trans (read_len _) htl⟩
  have HOK0 := Lib.hid hok0
  clear hok0 hteq htl
  go_wp2_with fail
  refine (newdec t (by omega) _ (fun _ => 0) 1).mono ?_
  rintro y w2 ⟨rfl, O2, hs2, hd2⟩
  have HR2 := Lib.hid (HR1.out.step hs2 (by simp))
  have HD2 := Lib.hid hd2
  clear hs2 hd2 HR1
  generalize hDD : (World.heap _).size = D at *
  clear hDD
  generalize Dec.read t.data.toList = d0 at *
  go_wp2_with fail
  refine (HRD.out w2).mono ?_
  rintro y w3 ⟨rfl, hb3⟩
  have hs3 := Step.of_below_same hb3 O2
  have HR3 := Lib.hid (HR2.out.step hs3 (by simp))
  have HD3 := Lib.hid (HD2.out.step hs3 (by simp))
  clear hb3 hs3 HR2 HD2 HRD
  unfold dv
  go_upto_block 0 with (fail)
  have hs4 := Step.alloc_paint w3 O2 2 (.cells #[.string ⟨d0.rest.toArray⟩, .int .u64 (d0.code : Int), .int .u64 (d0.size : Int), .bool d0.bad] 58)
  have b4 := Blk.new w3 O2 2 (.cells #[.string ⟨d0.rest.toArray⟩, .int .u64 (d0.code : Int), .int .u64 (d0.size : Int), .bool d0.bad] 58)
  have z4 : (w3.alloc (.cells #[.string ⟨d0.rest.toArray⟩, .int .u64 (d0.code : Int), .int .u64 (d0.size : Int), .bool d0.bad] 58)).heap.size = w3.heap.size + 1 := World.size_alloc _ _
  have e4 := HD3.out.step hs4 (by simp)
  have r4 := HR3.out.step hs4 (by simp)
  generalize w3.alloc (.cells #[.string ⟨d0.rest.toArray⟩, .int .u64 (d0.code : Int), .int .u64 (d0.size : Int), .bool d0.bad] 58) = W4 at *
  generalize Step.paint O2 w3 2 = O4 at *
  have hs5 := Step.alloc_paint W4 O4 3 (.cells #[.int .u16 1024, .int .u16 1024, .int .u16 1024, .int .u16 1024] 32)
  have p5 := Blk.new W4 O4 3 (.cells #[.int .u16 1024, .int .u16 1024, .int .u16 1024, .int .u16 1024] 32)
  have z5 : (W4.alloc (.cells #[.int .u16 1024, .int .u16 1024, .int .u16 1024, .int .u16 1024] 32)).heap.size = W4.heap.size + 1 := World.size_alloc _ _
  have e5 := e4.step hs5 (by simp)
  have r5 := r4.step hs5 (by simp)
  have b5 := b4.step hs5 (by simp)
  generalize W4.alloc (.cells #[.int .u16 1024, .int .u16 1024, .int .u16 1024, .int .u16 1024] 32) = W5 at *
  generalize Step.paint O4 W4 3 = O5 at *
  have hs6 := Step.alloc_paint W5 O5 4 (.cells #[.int .u64 1024, .int .u64 1024, .int .u64 1024, .int .u64 1024] 33)
  have q6 := Blk.new W5 O5 4 (.cells #[.int .u64 1024, .int .u64 1024, .int .u64 1024, .int .u64 1024] 33)
  have e6 := e5.step hs6 (by simp)
  have r6 := r5.step hs6 (by simp)
  have b6 := b5.step hs6 (by simp)
  have p6 := p5.step hs6 (by simp)
  generalize W5.alloc (.cells #[.int .u64 1024, .int .u64 1024, .int .u64 1024, .int .u64 1024] 33) = W6 at *
  generalize Step.paint O5 W5 4 = O6 at *
  rw [z4] at z5 p6
  rw [z5] at q6
  generalize w3.heap.size = M at *
  have HL0 := Lib.hid (show LockedD w D M (M + 1) (M + 1 + 1) W6 from ⟨d0, 0, [1024, 1024, 1024, 1024], O6, HOK0.out, rfl, probs_new 4, r6, e6, b6, p6, q6⟩)
  clear hs4 b4 z4 e4 r4 hs5 p5 z5 e5 r5 b5 hs6 q6 e6 r6 b6 p6 HD3 HR3 HOK0
  generalize M + 1 + 1 = Q at *
  generalize M + 1 = P at *
  go_cut [9] (fun _ wx => LockedD w D M P Q wx)
  case first =>
    as_aux_lemma =>
    -- BEGIN loop
    go_wp2_with fail
    go_loopw [9] (fun i wr => ∃ k : Nat, k ≤ len ∧ k ≤ 80 ∧ i = .int .i64 k ∧ LockedD w D M P Q wr) (fun i _ => len - (intOf i).toNat)
    case atStart => exact ⟨0, by omega, by omega, rfl, HL0.out⟩
    case round =>
      clear HL0
      obtain ⟨k, hk, hk80, rfl, hlk⟩ := hrel
      by_cases hlt : k < len ∧ k < 80
      · obtain ⟨hlt, hlt80⟩ := hlt
        rcases HIS.out.2 with h0 | ⟨b, off, rfl, hbl, hact⟩
        · omega
        · obtain ⟨x, hc0, hc1, hc2, hc3, hc4, hx⟩ := hact k hlt
          obtain ⟨d, tot, pl, O, hok, hpl, hpr, hL⟩ := hlk
          rw [← hL.run.below.cell (p := ⟨b, _, none⟩) hbl] at hc0 hc1 hc2 hc3 hc4
          have HX := Lib.hid hx
          have HL := Lib.hid hL
          have HOK := Lib.hid hok
          have HPL := Lib.hid hpl
          have HPR := Lib.hid hpr
          clear hact hL hok hpl hpr
          obtain ⟨x1, x2, x3, x4, x5⟩ := hx
          have hd80 : decide ((k : Int) < 80) = true := by rw [decide_eq_true_iff]; omega
          go_upto_block 2 with (fail)
          go_cut [50] (fun _ wx => LockedD w D M P Q wx)
          case first =>
            have hsx := Step.alloc_paint wr O 5 (.cells #[.int .u8 (x.what : Int), .int .u8 (x.which : Int), .int .u32 (x.v : Int), .int .u8 (x.n : Int), .int .u16 (x.total : Int)] 36)
            have hbx := Blk.new wr O 5 (.cells #[.int .u8 (x.what : Int), .int .u8 (x.which : Int), .int .u32 (x.v : Int), .int .u8 (x.n : Int), .int .u16 (x.total : Int)] 36)
            have hL1 := HL.out.idle hsx
            generalize wr.alloc (.cells #[.int .u8 (x.what : Int), .int .u8 (x.which : Int), .int .u32 (x.v : Int), .int .u8 (x.n : Int), .int .u16 (x.total : Int)] 36) = W at *
            generalize Step.paint O wr 5 = O1 at *
            generalize wr.heap.size = X at *
            have HL1 := Lib.hid hL1
            have v0 : W.cell? ⟨X, 0, none⟩ = some (.int .u8 (x.what : Int)) := hbx.cell 0
            have v1 : W.cell? ⟨X, 1, none⟩ = some (.int .u8 (x.which : Int)) := hbx.cell 1
            have v3 : W.cell? ⟨X, 3, none⟩ = some (.int .u8 (x.n : Int)) := hbx.cell 3
            have v4 : W.cell? ⟨X, 4, none⟩ = some (.int .u16 (x.total : Int)) := hbx.cell 4
            clear hsx hL1 hc0 hc1 hc2 hc3 hc4 hbx HL
            by_cases h3 : x.what % 5 = 3
            · as_aux_lemma =>
              -- BEGIN direct
              have hb3 : ((x.what : Int) % 5 == 3) = true := by rw [beq_iff_eq]; omega
              obtain ⟨n, hn⟩ : ∃ n : Nat, n = x.n % 33 := ⟨_, rfl⟩
              have hn32 : n ≤ 32 := by omega
              have HNN := Lib.hid (show (x.n : Int) % 33 = (n : Int) by omega)
              clear hn h3
              go_upto_region 19 with (fail)
              rw [HNN.out]
              go_wp2_with fail
              clear v0 v1 v3 v4 hb3
              go_loopw [12, 13, 14] (fun u i _ wx => ∃ j : Nat, j ≤ n ∧ i = .int .i64 j ∧ u = .int .u64 (((gotN d j).2 : Nat) : Int) ∧ LockD w D M P Q d (gotN d j).1 tot pl pl wx O1) (fun _ i _ _ => n - (intOf i).toNat)
              case atStart => exact ⟨0, by omega, rfl, rfl, HL1.out⟩
              case round =>
                clear HL1
                obtain ⟨j, hj, rfl, rfl, hL2⟩ := hrel
                by_cases hjn : j < n
                · have HS1 := Lib.hid (show (gotN d (j + 1)).1 = (gotN d j).1.getDirect from rfl)
                  have HS2 := Lib.hid (show (gotN d (j + 1)).2 = 2 * (gotN d j).2 + (gotN d j).1.directOf from rfl)
                  have hgl : (gotN d j).2 < 4294967296 := Nat.lt_of_lt_of_le (gotN_lt d j) (Nat.le_trans (Nat.pow_le_pow_right (by omega) (by omega : j ≤ 32)) (by omega))
                  have hdl := directOf_le (gotN d j).1
                  have hfi := fine_gotN HOK.out.1 j
                  have hle := Nat.le_trans (gotN_len d j) HOK.out.2
                  have HGD := Lib.hid (getDirect_any (gotN d j).1 hfi (by omega) wr)
                  generalize (gotN d j).2 = g at *
                  generalize (gotN d j).1 = E at *
                  unfold dv at HGD
                  obtain ⟨m0, m1, m2, m3, n0, n1, n2, n3, _⟩ := four hL2.ref.1
                  have mlt := Blk.lt hL2.ref
                  have HL2 := Lib.hid hL2
                  clear hL2 hfi
                  go_wp2_with fail
                  refine HGD.out.mono ?_
                  rintro y w6 ⟨rfl, hb6⟩
                  obtain ⟨t1, t2⟩ := HL2.out.ref.set (d' := E.getDirect) hb6
                  have HL6 := Lib.hid (HL2.out.refs t2 t1)
                  have c0 := (hb6.cell (p := ⟨M, 0, none⟩) mlt).trans m0
                  have c1 := (hb6.cell (p := ⟨M, 1, none⟩) mlt).trans m1
                  have c2 := (hb6.cell (p := ⟨M, 2, none⟩) mlt).trans m2
                  have c3 := (hb6.cell (p := ⟨M, 3, none⟩) mlt).trans m3
                  have g0 := (hb6.frozen (p := ⟨M, 0, none⟩) mlt).trans n0
                  have g1 := (hb6.frozen (p := ⟨M, 1, none⟩) mlt).trans n1
                  have g2 := (hb6.frozen (p := ⟨M, 2, none⟩) mlt).trans n2
                  have g3 := (hb6.frozen (p := ⟨M, 3, none⟩) mlt).trans n3
                  clear t1 t2 hb6 m0 m1 m2 m3 n0 n1 n2 n3
                  generalize E.directOf = bb at *
                  go_wp2_with fail
                  go_roundw
                  case rel => exact ⟨j + 1, by omega, by go_num, by rw [HS2.out]; go_num, by rw [HS1.out]; exact HL6.out⟩
                  case measure => simp [intOf]; omega
                · obtain rfl : j = n := by omega
                  have HL2 := Lib.hid hL2
                  have hgl : (gotN d j).2 < 4294967296 ∨ j = 32 := by
                    by_cases h32 : j = 32
                    · exact .inr h32
                    · exact .inl (Nat.lt_of_lt_of_le (gotN_lt d j) (Nat.le_trans (Nat.pow_le_pow_right (by omega) (by omega : j ≤ 32)) (by omega)))
                  have hgl2 : (gotN d j).2 < 4294967296 := Nat.lt_of_lt_of_le (gotN_lt d j) (Nat.le_trans (Nat.pow_le_pow_right (by omega) hn32) (by omega))
                  have HCD := Lib.hid (decdirect HL2.out.dec j hn32)
                  have HOK2 := Lib.hid (show DecOk (gotN d j).1 from ⟨fine_gotN HOK.out.1 j, Nat.le_trans (gotN_len d j) HOK.out.2⟩)
                  generalize (gotN d j).2 = g at *
                  generalize (gotN d j).1 = E at *
                  clear hL2 hgl
                  go_wp2_with fail
                  refine HCD.out.mono ?_
                  rintro y w6 ⟨rfl, hs6, hd6⟩
                  have HL6 := Lib.hid (HL2.out.dev hs6 hd6)
                  clear hs6 hd6
                  go_wp2_with fail
                  go_meet
                  exact ⟨E, tot, pl, O1, HOK2.out, HPL.out, HPR.out, HL6.out⟩
              -- END direct
            · have hb3 : ((x.what : Int) % 5 == 3) = false := by rw [beq_eq_false_iff_ne]; omega
              by_cases h4 : x.what % 5 = 4
              · as_aux_lemma =>
                -- BEGIN part
                have hb4 : ((x.what : Int) % 5 == 4) = true := by rw [beq_iff_eq]; omega
                obtain ⟨C, hC⟩ : ∃ C : Nat, C = 1 + x.total := ⟨_, rfl⟩
                have HC := Lib.hid (show (1 : Int) + (x.total : Int) = (C : Int) by omega)
                have p4 : 1 ≤ C := by omega
                have p3 : C ≤ 65536 := by omega
                clear h3 h4 hC
                go_upto_region 29 with (fail)
                rw [HC.out]
                clear v0 v1 v3 v4 hb3 hb4
                go_wp2_with fail
                refine (decwhere HL1.out.dec C p4 p3).mono ?_
                rintro y W3 ⟨rfl, hs3, hd3⟩
                have hL3 := HL1.out.dev hs3 hd3
                obtain ⟨m0, m1, m2, m3, n0, n1, n2, n3, mlt⟩ := four hL3.ref.1
                have HL3 := Lib.hid hL3
                have hwl : d.whereIn C < C := by
                  unfold Dec.whereIn
                  exact Nat.lt_of_le_of_lt (Nat.min_le_right _ _) (by omega)
                have HWA := Lib.hid (where_any d HOK.out.1 C p4 p3 W3)
                have HTA := Lib.hid (fun W => take_any d HOK.out.1 (by have := HOK.out.2; omega) (d.whereIn C) 1 C (by omega) (by omega) p3 W)
                unfold dv at HWA
                have HOK2 := Lib.hid (show DecOk (d.take (d.whereIn C) 1 C) from ⟨fine_take HOK.out.1 (by omega) (by omega) p3, Nat.le_trans (take_len _ _ _ _) HOK.out.2⟩)
                generalize d.whereIn C = wh at *
                clear hs3 hd3 hL3 HL1
                go_wp2_with fail
                refine HWA.out.mono ?_
                rintro y W4 ⟨rfl, hb4⟩
                have hs4 := Step.of_below_same hb4 O1
                have HL4 := Lib.hid (HL3.out.idle hs4)
                have t1 : decide (C ≤ wh) = false := by rw [decide_eq_false_iff_not]; omega
                clear hb4 hs4 m0 m1 m2 m3 n0 n1 n2 n3 mlt HL3 HWA
                go_wp2_with fail
                refine (dectake HL4.out.dec wh 1 (by omega) (by omega) p3).mono ?_
                rintro y W5 ⟨rfl, hs5, hd5⟩
                have hL5 := HL4.out.dev hs5 hd5
                obtain ⟨m0, m1, m2, m3, n0, n1, n2, n3, mlt⟩ := four hL5.ref.1
                have HL5 := Lib.hid hL5
                have HTT := Lib.hid (HTA.out W5)
                unfold dv at HTT
                clear hs5 hd5 hL5 HL4 t1 HTA
                go_wp2_with fail
                refine HTT.out.mono ?_
                rintro y w6 ⟨rfl, hb6⟩
                unfold dv
                obtain ⟨t1, t2⟩ := HL5.out.ref.set (d' := d.take wh 1 C) hb6
                have HL6 := Lib.hid (HL5.out.refs t2 t1)
                have c0 := (hb6.cell (p := ⟨M, 0, none⟩) mlt).trans m0
                have c1 := (hb6.cell (p := ⟨M, 1, none⟩) mlt).trans m1
                have c2 := (hb6.cell (p := ⟨M, 2, none⟩) mlt).trans m2
                have c3 := (hb6.cell (p := ⟨M, 3, none⟩) mlt).trans m3
                have g0 := (hb6.frozen (p := ⟨M, 0, none⟩) mlt).trans n0
                have g1 := (hb6.frozen (p := ⟨M, 1, none⟩) mlt).trans n1
                have g2 := (hb6.frozen (p := ⟨M, 2, none⟩) mlt).trans n2
                have g3 := (hb6.frozen (p := ⟨M, 3, none⟩) mlt).trans n3
                clear t1 t2 hb6 m0 m1 m2 m3 n0 n1 n2 n3
                go_wp2_with fail
                go_meet
                exact ⟨_, C, pl, O1, HOK2.out, HPL.out, HPR.out, HL6.out⟩
                -- END part
              · as_aux_lemma =>
                -- BEGIN bit
                have hb4 : ((x.what : Int) % 5 == 4) = false := by rw [beq_eq_false_iff_ne]; omega
                obtain ⟨j, hj⟩ : ∃ j : Nat, j = x.which % 4 := ⟨_, rfl⟩
                have hj4 : j < 4 := by omega
                have HJ := Lib.hid (show (x.which : Int) % 4 = (j : Int) by omega)
                have hpj := probs_get HPR.out (show j < pl.length by rw [HPL.out]; exact hj4)
                have hjl : j < pl.length := by rw [HPL.out]; exact hj4
                obtain ⟨pp, hpp⟩ : ∃ pp : Nat, pp = pl.getD j 0 := ⟨_, rfl⟩
                rw [← hpp] at hpj
                have HPP := Lib.hid hpp
                clear hj h3 h4 hpp
                go_upto_region 12 with (fail)
                rw [HJ.out]
                clear v0 v1 v3 v4 hb3 hb4
                go_upto_region 13 with (fail)
                go_cut [18] (fun u wx => u = .int .i64 ((d.bitOf pp : Nat) : Int) ∧ LockD w D M P Q d (d.getBit pp) tot pl (pl.set j (learn pp (d.bitOf pp))) wx O1)
                case first =>
                  as_aux_lemma =>
                  have HLd := Lib.hid (HL1.out.idle (Step.refl [] W O1).drew)
                  obtain ⟨m0, m1, m2, m3, n0, n1, n2, n3, mlt⟩ := four HL1.out.ref.1
                  have q0 := HL1.out.qs.cellAt hjl
                  have qf0 := Blk.free HL1.out.qs j
                  have qlt := Blk.lt HL1.out.qs
                  rw [← HPP.out] at q0
                  have hMQ : M ≠ Q := fun e1 => by
                    have h1 := HL1.out.ref.2
                    have h2 := HL1.out.qs.2
                    rw [e1, h2] at h1
                    exact absurd h1 (by decide)
                  have ej2 : (0 : Int) ≤ (j : Int) := by omega
                  have ej3 : (j : Int) < 4 := by omega
                  have ej4 : (j : Int).toNat = j := by omega
                  have HGB := Lib.hid (getBit_any d HOK.out.1 (by have := HOK.out.2; omega) pp hpj.1 hpj.2 W.drew)
                  unfold dv at HGB
                  go_region_with ((go_at_call 32; (with_reducible refine HGB.out.mono ?_); rintro y w6 ⟨rfl, hb6⟩; have c0 := (hb6.cell (p := ⟨M, 0, none⟩) mlt).trans m0; have c1 := (hb6.cell (p := ⟨M, 1, none⟩) mlt).trans m1; have c2 := (hb6.cell (p := ⟨M, 2, none⟩) mlt).trans m2; have c3 := (hb6.cell (p := ⟨M, 3, none⟩) mlt).trans m3; have g0 := (hb6.frozen (p := ⟨M, 0, none⟩) mlt).trans n0; have g1 := (hb6.frozen (p := ⟨M, 1, none⟩) mlt).trans n1; have g2 := (hb6.frozen (p := ⟨M, 2, none⟩) mlt).trans n2; have g3 := (hb6.frozen (p := ⟨M, 3, none⟩) mlt).trans n3; have c4 := (hb6.cell (p := ⟨Q, j, none⟩) qlt).trans q0; have g4 := (hb6.frozen (p := ⟨Q, j, none⟩) qlt).trans qf0; have HB6 := Lib.hid hb6; clear hb6))
                  all_goals
                    obtain ⟨t1, t2⟩ := HLd.out.ref.set (d' := d.getBit pp) HB6.out
                    have HL6 := Lib.hid ((HLd.out.refs t2 t1).setQ j (learn pp (d.bitOf pp)))
                    clear t1 t2 c0 c1 c2 c3 c4 g0 g1 g2 g3 g4 ej2 ej3 ej4
                    go_wp2_with fail
                    go_meet
                    exact ⟨rfl, HL6.out⟩
                case rest =>
                obtain ⟨rfl, hL7⟩ := hcut
                have HL7 := Lib.hid hL7
                have HL7d := Lib.hid (hL7.idle (Step.refl [] wc O1).drew)
                have HOK2 := Lib.hid (show DecOk (d.getBit pp) from ⟨fine_getBit HOK.out.1 (by omega) (by omega), Nat.le_trans (getBit_len _ _) HOK.out.2⟩)
                have HCB := Lib.hid (decbit (p := pp) HL7d.out.dec (by rw [HPP.out]; exact HL7d.out.ps.cellAt hjl) (Blk.free HL7d.out.ps j) (by show O1 P ≠ 1; rw [HL7d.out.ps.2]; decide) (by omega) (by omega))
                have hbo := bitOf_le d pp
                have HPR2 := Lib.hid (probs_set HPR.out j (learn_in (b := d.bitOf pp) hpj.1 hpj.2))
                have hll : (pl.set j (learn pp (d.bitOf pp))).length = 4 := by rw [List.length_set]; exact HPL.out
                have HLL := Lib.hid hll
                have hgj : (pl.set j (learn pp (d.bitOf pp))).getD j 0 = learn pp (d.bitOf pp) := by simp [List.getD, hjl]
                have hli := learn_in (b := d.bitOf pp) hpj.1 hpj.2
                have q1 := hL7.qs.cellAt (j := j) (by rw [List.length_set]; exact hjl)
                rw [hgj] at q1
                clear hL7 hll
                have ej2 : (0 : Int) ≤ (j : Int) := by omega
                have ej3 : (j : Int) < 4 := by omega
                have ej4 : (j : Int).toNat = j := by omega
                have HGJ := Lib.hid hgj
                clear hgj
                unfold BittenD at HCB
                generalize learn pp (d.bitOf pp) = lr at *
                generalize d.bitOf pp = bb at *
                have hne : (IntKind.u64.wrap (lr : Int) != (lr : Int)) = false := by rw [IntWalk.u64_in _ (by omega)]; simp
                go_upto_region 14 with (fail)
                go_region_with ((go_at_call 25; (with_reducible refine HCB.out.mono ?_); rintro y w6 ⟨rfl, hs6, hd6⟩; have hL8 := (HL7d.out.setP j lr).dev hs6 hd6; have z1 := hL8.qs.cellAt (j := j) (by have := HLL.out; omega); rw [HGJ.out] at z1; have z2 := hL8.ps.cellAt (j := j) (by have := HLL.out; omega); rw [HGJ.out] at z2; have HL8 := Lib.hid hL8; clear hs6 hd6 hL8))
                all_goals
                  clear z1 z2
                  go_wp2_with fail
                  go_meet
                  exact ⟨_, tot, _, O1, HOK2.out, HLL.out, HPR2.out, HL8.out⟩
                -- END bit
          case rest =>
            -- BEGIN rest
            clear HL HOK HPL HPR hc0 hc1 hc2 hc3 hc4
            have HLK := Lib.hid hcut
            obtain ⟨d', tot', pl', O', hok', hpl', hpr', hL'⟩ := hcut
            obtain ⟨m0, m1, m2, m3, _, _, _, _, mlt⟩ := four hL'.ref.1
            have HLd := Lib.hid hL'
            have HBad := Lib.hid (fun n => dec_bad (hL'.idle ((Step.refl [] wc O').drewN n)).dec)
            have HDone := Lib.hid (fun n => dec_done (hL'.idle ((Step.refl [] wc O').drewN n)).dec)
            have hsz : (⟨d'.rest.toArray⟩ : ByteArray).size = d'.rest.length := by simp [ByteArray.size]
            have hcode := hok'.1.2.2
            have hbd : (d'.bad != d'.bad) = false := by simp
            have hrl := hok'.2
            clear hL' hpl' hpr' hok'
            have hdn : d'.done = (d'.rest.isEmpty && (d'.code == 0)) := rfl
            obtain ⟨SS, hSS⟩ : ∃ SS : ByteArray, SS = ⟨d'.rest.toArray⟩ := ⟨_, rfl⟩
            rw [← hSS] at hsz m0
            have HSZ := Lib.hid hsz
            clear hSS hsz
            rcases Nat.lt_or_ge 0 d'.rest.length with hr0 | hr0
            · as_aux_lemma =>
              have hE : d'.rest.isEmpty = false := by
                rw [List.isEmpty_eq_false_iff]; intro e; rw [e] at hr0; simp at hr0
              rw [hE, Bool.false_and] at hdn
              rw [hdn] at HDone
              have k1 : ((SS.size : Int) == 0) = false := by rw [beq_eq_false_iff_ne, HSZ.out]; omega
              clear hE hdn
              go_upto_region 34 with (fail)
              go_quiet ((first | (go_at_call 26; exact Calls.quiet_of_same (still (HBad.out _))) | (go_at_call 27; exact Calls.quiet_of (HDone.out _))))
              go_wp2_with fail
              go_roundw
              case rel =>
                obtain ⟨d2, tot2, pl2, O2', a1, a2, a3, a4⟩ := HLK.out
                exact ⟨k + 1, by omega, by omega, by go_num, d2, tot2, pl2, O2', a1, a2, a3, a4.idle ((Step.refl [] _ _).drewN _)⟩
              case measure => simp [intOf]; omega
            · as_aux_lemma =>
              have hE : d'.rest.isEmpty = true := by
                rw [List.isEmpty_iff]; exact List.eq_nil_of_length_eq_zero (by omega)
              rw [hE, Bool.true_and] at hdn
              rw [hdn] at HDone
              have k1 : ((SS.size : Int) == 0) = true := by rw [beq_iff_eq, HSZ.out]; omega
              have hI : ((d'.code : Int) == 0) = (d'.code == 0) := by rw [Bool.eq_iff_iff]; simp only [beq_iff_eq]; omega
              rw [← hI] at HDone
              have hII : (((d'.code : Int) == 0) != ((d'.code : Int) == 0)) = false := by simp
              generalize hcc : ((d'.code : Int) == 0) = cz at *
              clear hE hdn hI
              go_upto_region 34 with (fail)
              go_quiet ((first | (go_at_call 26; exact Calls.quiet_of_same (still (HBad.out _))) | (go_at_call 27; exact Calls.quiet_of (HDone.out _))))
              go_wp2_with fail
              go_roundw
              case rel =>
                obtain ⟨d2, tot2, pl2, O2', a1, a2, a3, a4⟩ := HLK.out
                exact ⟨k + 1, by omega, by omega, by go_num, d2, tot2, pl2, O2', a1, a2, a3, a4.idle ((Step.refl [] _ _).drewN _)⟩
              case measure => simp [intOf]; omega
            -- END rest
      · -- BEGIN exit
        have key : (k < len ∧ ¬ k < 80) ∨ ¬ k < len := by omega
        have HLK := Lib.hid hlk
        clear hlk
        rcases key with ⟨h1, h2⟩ | h1
        · as_aux_lemma =>
          have d2 : decide ((k : Int) < 80) = false := by rw [decide_eq_false_iff_not]; omega
          clear hlt h2
          go_wp2_with fail
          go_meet
          exact HLK.out
        · as_aux_lemma =>
          have d1 : decide (k < len) = false := by rw [decide_eq_false_iff_not]; omega
          clear hlt
          go_wp2_with fail
          go_meet
          exact HLK.out
        -- END exit
    -- END loop
  case rest =>
  -- BEGIN tail
  clear HL0
  obtain ⟨d, tot, pl, O, hok, hpl, hpr, hL⟩ := hcut
  have HL := Lib.hid hL
  clear hok hpr hL hpl
  go_wp2_with fail
  refine (nil_take _ _ _).mono ?_
  rintro y u1 ⟨rfl, rfl⟩
  go_wp2_with fail
  refine (nil_bit _ _ _).mono ?_
  rintro y u1 ⟨rfl, rfl⟩
  go_wp2_with fail
  refine (nil_direct _ _ _).mono ?_
  rintro y u1 ⟨rfl, rfl⟩
  go_wp2_with fail
  refine (nil_part _ _ _ _).mono ?_
  rintro y u1 ⟨rfl, rfl⟩
  go_wp2_with fail
  refine (nil_dbit _ _).mono ?_
  rintro y u1 ⟨rfl, rfl⟩
  go_wp2_with fail
  refine (nil_ddirect _ _).mono ?_
  rintro y u1 ⟨rfl, rfl⟩
  go_wp2_with fail
  refine (nil_where _ _).mono ?_
  rintro y u1 ⟨rfl, rfl⟩
  go_wp2_with fail
  refine (nil_done _).mono ?_
  rintro y u1 ⟨rfl, n, rfl⟩
  go_wp2_with fail
  refine (nil_bad _).mono ?_
  rintro y u1 ⟨rfl, rfl⟩
  go_wp2_with fail
  refine (nil_end _).mono ?_
  rintro y u1 ⟨rfl, rfl⟩
  go_wp2_with fail
  go_ret
  have hbl := HL.out.run.below
  exact ⟨rfl, hbl.os, hbl.tape, hbl.output, hbl.size, hbl.block⟩
  -- END tail
end Go.Proofs.Ytocoehjggkkoeaa.Rc
