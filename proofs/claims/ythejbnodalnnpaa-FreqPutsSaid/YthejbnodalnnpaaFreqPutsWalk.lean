/-
  The walk of the statement FreqPuts: for every list it returns true, and writes nothing that was there.
-/
import Derived.Test.YthejbnodalnnpaaFreqLock
import Derived.Deep.QuietTactic
import Derived.BigQuiet
import Derived.Deep.CutBlock
import Derived.Deep.DeepCutAuto
namespace Go.Proofs.Ythejbnodalnnpaa.Fq
open Go.RowKit
open Rc (Enc EncAt RefBlk RefAt Row be be_length Fine byte)
/-- What both loops hold. -/
def Putting (w0 : World) (a M E G i : Nat) (w : World) : Prop := ∃ (e : Enc) (l : List (Nat × Nat)) (vt v1 v2 : Value) (O : Paint), LockP w0 a M E G e e l l vt v1 v2 w O ∧ Tab 120 l ∧ (l.map (·.1)).Nodup ∧ l.length ≤ 300 + i ∧ e.turns ≤ 3 * i
theorem tab_nodup (t : ByteArray) (j : Nat) : ((tab t j).map (·.1)).Nodup := by
  unfold tab
  have key : ∀ (L : List UInt8) (l : List (Nat × Nat)), (l.map (·.1)).Nodup → ((adds l L).map (·.1)).Nodup := by
    intro L
    induction L with
    | nil => intro l h; exact h
    | cons x L ih => intro l h; exact ih _ (add_nodup h _)
  exact key _ [] (by simp)
set_option maxRecDepth 100000 in
set_option maxHeartbeats 16000000 in
theorem puts_walk (t : ByteArray) (a0 : Option Addr) (len cap : Nat) (w : World) (hs : t.size ≤ maxLen) (hl : IsAsks w a0 len) :
    Calls Try.prog 3 #[.string t, .slice a0 len cap] w fun x w' => x = .returned (.bool true) ∧ Below w.heap.size w w' := by
  have HRUN := Lib.hid (Run.start w)
  have HIS := Lib.hid hl
  have hlen := hl.1
  unfold maxLen at hs hlen
  clear hl
  go_enter Try.func3, Try.ntmps3
  go_wp2_with fail
  refine (speaks5 w).mono ?_
  rintro x w1 ⟨rfl, hb1⟩
  have HR1 := Lib.hid (HRUN.out.step (Step.of_below_same hb1 (fun _ => 0)) (by simp))
  clear hb1 HRUN
  go_wp2_with fail
  refine (new_tab w1 (fun _ => 0) 1).mono ?_
  rintro x w2 ⟨a, rfl, O2, hs2, ht2⟩
  have HR2 := Lib.hid (HR1.out.step hs2 (by simp))
  have HT2 := Lib.hid ht2
  clear hs2 ht2 HR1
  go_upto_block 0 with (fail)
  have hs3 := Step.alloc_paint w2 O2 2 (.cells #[.slice none 0 0, .slice none 0 0] 29)
  have HL0 : Hid (Adding w a w2.heap.size (tab t 0) (w2.alloc (.cells #[.slice none 0 0, .slice none 0 0] 29))) := Lib.hid ⟨.slice none 0 0, .slice none 0 0, .slice none 0 0, Step.paint O2 w2 2, HR2.out.step hs3 (by simp), HT2.out.step hs3 (by simp), Blk.new w2 O2 2 _, ⟨World.ownsRow_nil _ _ _ _, World.ownsRow_nil _ _ _ _⟩, fun k hk => by simp [Value.ownBlock] at hk, fun k hk => by simp [Value.ownBlock] at hk, fun _ => ⟨rfl, rfl⟩⟩
  generalize w2.alloc (.cells #[.slice none 0 0, .slice none 0 0] 29) = W3 at *
  generalize w2.heap.size = M at *
  clear hs3 HR2 HT2
  go_cut [7] (fun _ wc => ∃ l, Adding w a M l wc ∧ Tab 120 l ∧ (l.map (·.1)).Nodup ∧ l.length ≤ 300)
  case first =>
    as_aux_lemma =>
    go_wp2_with fail
    go_loopw [7] (fun i wr => ∃ j : Nat, j ≤ t.size ∧ j ≤ 300 ∧ i = .int .i64 j ∧ Adding w a M (tab t j) wr) (fun i _ => 300 - (intOf i).toNat)
    case atStart => exact ⟨0, by omega, by omega, rfl, HL0.out⟩
    case round =>
      clear HL0
      obtain ⟨j, hj, hj3, rfl, vt, v1, v2, O, hL⟩ := hrel
      have hok := tab_ok t j
      have hle := tab_len t j
      by_cases hlt : j < t.size ∧ j < 300
      · as_aux_lemma =>
        -- BEGIN fill
        obtain ⟨hl1, hl2⟩ := hlt
        have HNX := Lib.hid (tab_next t j hl1)
        have hx := UInt8.toNat_lt t[j]
        have HL := Lib.hid hL
        have HOK := Lib.hid hok
        have HLE : (tab t j).length ≤ 1000000 := by omega
        have HAN := Lib.hid (add_ne (tab t j) t[j].toNat)
        clear hL hok hle
        generalize tab t j = l at *
        go_wp2_with fail
        refine (add_any HL.out.tab HOK.out HLE t[j].toNat (by omega)).mono ?_
        rintro x w4 ⟨rfl, ha⟩
        obtain ⟨O4, vt4, hL4⟩ := HL.out.dev ha
        have HL4 := Lib.hid hL4
        obtain ⟨m0, m1, mf0, mf1, mlt⟩ := two hL4.var.1
        have HRA := Lib.hid (fun (W : World) (hb : Below w4.heap.size w4 W) => radd_any (hL4.rows.below hb) hL4.nil0 HOK.out HLE t[j].toNat (by omega))
        clear ha hL4 HL
        go_upto_region 9 with (fail)
        have e1 : (0 : Int) ≤ (j : Int) := by omega
        have e2 : (j : Int) < (t.size : Int) := by omega
        go_still_tail 4, (by kernel_rfl)
        change wpList _ _ _ _ _ w4.drew
        have HD : Hid (Below w4.heap.size w4 w4.drew) := Lib.hid (bel_drew (Below.refl _ _))
        have m0' : w4.drew.cell? ⟨M, 0, none⟩ = some v1 := m0
        generalize w4.drew = w5 at *
        go_wp2_with fail
        refine (HRA.out _ HD.out).mono ?_
        rintro x w6 ⟨v1', v2', rfl, hR6, hb6, n1, n2⟩
        obtain ⟨y1, z1, y2, z2, rfl, rfl, _⟩ := hR6.form (List.length_pos_iff.2 HAN.out)
        have hz5 : w4.heap.size ≤ w5.heap.size := HD.out.size
        have c0 := (hb6.cell (p := ⟨M, 0, none⟩) (by show M < w5.heap.size; omega)).trans m0'
        have c1 := (hb6.cell (p := ⟨M, 1, none⟩) (by show M < w5.heap.size; omega)).trans ((HD.out.cell (p := ⟨M, 1, none⟩) mlt).trans m1)
        have f0 := (hb6.frozen (p := ⟨M, 0, none⟩) (by show M < w5.heap.size; omega)).trans ((HD.out.frozen (p := ⟨M, 0, none⟩) mlt).trans mf0)
        have f1 := (hb6.frozen (p := ⟨M, 1, none⟩) (by show M < w5.heap.size; omega)).trans ((HD.out.frozen (p := ⟨M, 1, none⟩) mlt).trans mf1)
        have HL6 := Lib.hid (HL4.out.refs (HD.out.trans (hb6.mono hz5)) hR6 (fun k hk => Nat.le_trans hz5 (n1 k hk)) (fun k hk => Nat.le_trans hz5 (n2 k hk)) HAN.out)
        clear hR6 hb6 n1 n2 m0 m1 mf0 mf1 m0' hz5
        go_wp2_with fail
        go_roundw
        case rel => exact ⟨j + 1, by omega, by omega, by go_num, by rw [HNX.out]; exact ⟨_, _, _, _, HL6.out⟩⟩
        case measure => simp [intOf]; omega
        -- END fill
      · have hnd := tab_nodup t j
        generalize tab t j = l at *
        have HL := Lib.hid hL
        have HOK := Lib.hid hok
        have HND := Lib.hid hnd
        have hle3 : l.length ≤ 300 := by omega
        clear hL hok hnd hle
        have key : (j < t.size ∧ ¬ j < 300) ∨ ¬ j < t.size := by omega
        clear hlt
        rcases key with ⟨h1, h2⟩ | h1
        · go_wp2_with fail
          go_meet
          exact ⟨l, ⟨_, _, _, _, HL.out⟩, HOK.out, HND.out, hle3⟩
        · go_wp2_with fail
          go_meet
          exact ⟨l, ⟨_, _, _, _, HL.out⟩, HOK.out, HND.out, hle3⟩
  case rest =>
    obtain ⟨l, ⟨vt, v1, v2, O, hL⟩, hok, hnd, hle⟩ := hcut
    have HL := Lib.hid hL
    have HOK := Lib.hid hok
    have HND := Lib.hid hnd
    clear hL hok hnd HL0
    go_wp2_with fail
    refine (Rc.new_enc _ O 3).mono ?_
    rintro x w4 ⟨E, rfl, _, O4, hs4, he4⟩
    have HL4 := Lib.hid (HL.out.idle hs4)
    have HE4 := Lib.hid he4
    clear hs4 he4 HL
    go_wp2_with fail
    refine (Rc.new_any (.slice none 0 0) w4).mono ?_
    rintro x w5 ⟨v5, rfl, hrow5, hb5, hmv5⟩
    obtain ⟨g5, cap5, hv5⟩ := hrow5.form (by rw [be_length]; omega)
    rw [be_length] at hv5
    subst hv5
    have hs5 := Step.of_below hb5 O4 4
    have HL5 := Lib.hid (HL4.out.idle hs5)
    have HE5 := Lib.hid (HE4.out.step hs5 (by simp))
    have HRO := Lib.hid (show Held w5 (Step.paint O4 w4 4) 4 5 (.slice (some ⟨g5, 0, none⟩) (Enc.start.turns + 4) cap5) ((be (Enc.start.turns + 4) Enc.start.low).map byte) from Held.fresh hrow5.toOwn (fun k hk => by
      rcases hmv5 with e1 | e1
      · rw [e1] at hk; simp [Value.ownBlock] at hk
      · exact e1 k hk) O4)
    generalize Step.paint O4 w4 4 = O5 at *
    clear hs5 hrow5 hb5 hmv5 HE4 HL4
    go_wp2_with fail
    have hs6 := Step.alloc_paint w5 O5 4 (.cells #[.slice (some ⟨g5, 0, none⟩) (Enc.start.turns + 4) cap5, .int .u64 (Enc.start.size : Int)] 36)
    have b6 := Blk.new w5 O5 4 (.cells #[.slice (some ⟨g5, 0, none⟩) (Enc.start.turns + 4) cap5, .int .u64 (Enc.start.size : Int)] 36)
    have HP0 : Hid (Putting w a M E w5.heap.size 0 (w5.alloc (.cells #[.slice (some ⟨g5, 0, none⟩) (Enc.start.turns + 4) cap5, .int .u64 (Enc.start.size : Int)] 36))) := Lib.hid ⟨Enc.start, l, vt, v1, v2, _, ⟨HL5.out.idle hs6, HE5.out.step hs6 (by simp), ⟨g5, cap5, b6, HRO.out.step hs6 (by simp)⟩⟩, HOK.out, HND.out, by omega, by decide⟩
    generalize w5.alloc (.cells #[.slice (some ⟨g5, 0, none⟩) (Enc.start.turns + 4) cap5, .int .u64 (Enc.start.size : Int)] 36) = W6 at *
    generalize w5.heap.size = G at *
    clear hs6 b6 HL5 HE5 HRO HOK HND hle
    clear l vt v1 v2
    go_loopw [10] (fun i wr => ∃ k : Nat, k ≤ len ∧ k ≤ 40 ∧ i = .int .i64 k ∧ Putting w a M E G k wr) (fun i _ => 40 - (intOf i).toNat)
    case atStart => exact ⟨0, by omega, by omega, rfl, HP0.out⟩
    case round =>
      clear HP0
      obtain ⟨k, hk, hk4, rfl, e, l, vt, v1, v2, O, hL, hok, hnd, hle, hte⟩ := hrel
      by_cases hlt : k < len ∧ k < 40
      · obtain ⟨hk1, hk2⟩ := hlt
        have his := HIS.out.2
        rcases his with h0 | ⟨b0, off, rfl, hb0, hc⟩
        · omega
        · obtain ⟨⟨s, q, any⟩, hc0, hc1, hc2, hs1, hq⟩ := hc k hk1
          simp only at hc0 hc1 hc2 hs1 hq
          have hbl := hL.tabs.run.below
          have c0 := (hbl.cell (p := ⟨b0, off + k * 3, none⟩) hb0).trans hc0
          have c1 := (hbl.cell (p := ⟨b0, off + k * 3 + 1, none⟩) hb0).trans hc1
          have c2 := (hbl.cell (p := ⟨b0, off + k * 3 + 2, none⟩) hb0).trans hc2
          have HL := Lib.hid hL
          have HOK := Lib.hid hok
          have HND := Lib.hid hnd
          clear hL hok hnd hbl hc hc0 hc1 hc2
          go_upto_region 15 with (fail)
          have hs7 := Step.alloc_paint wr O 7 (.cells #[.int .u8 (s : Int), .string q, .bool any] 39)
          have HL7 := Lib.hid (HL.out.idle hs7)
          have HV7 := Lib.hid (Blk.new wr O 7 (.cells #[.int .u8 (s : Int), .string q, .bool any] 39))
          clear hs7 HL c0 c1 c2
          generalize wr.alloc (.cells #[.int .u8 (s : Int), .string q, .bool any] 39) = W7 at *
          generalize wr.heap.size = X at *
          generalize Step.paint O wr 7 = O7 at *
          have x1 : W7.cell? ⟨X, 1, none⟩ = some (.string q) := HV7.out.cell 1
          go_wp2_with fail
          refine (sets_any q hq W7 O7 5).mono ?_
          rintro x w8 ⟨b, rfl, O8, hs8, hset8⟩
          have HL8 := Lib.hid (HL7.out.idle hs8)
          have HV8 := Lib.hid (HV7.out.step hs8 (by simp))
          have HS8 := Lib.hid hset8
          clear hs8 hset8 HL7 HV7 x1
          generalize inN (q.data.toList.take 200) = N at *
          go_upto_block 4 with (refine wpList_store_row rfl 41 (.tmp 13) (.tmp 62) rfl w8.heap.size (setA N) (by rfl) (by rfl) 41 Try.zeroCells41 (heap_alloc_new _ _) (by rw [sizeA, setA_size]) (by rw [zeroA, setA_size, setA_size]) (setA_all N) ?_; rw [World.setRow_alloc_new])
          have hs9 := Step.alloc_paint w8 O8 6 (.cells (setA N) 41)
          have HL9 := Lib.hid (HL8.out.idle hs9)
          have HR9 := Lib.hid (show RoundP b w8.heap.size X N s q any (w8.alloc (.cells (setA N) 41)) (Step.paint O8 w8 6) from ⟨HS8.out.step hs9 (by simp), Blk.new w8 O8 6 _, HV8.out.step hs9 (by simp)⟩)
          clear hs9 HL8 HS8 HV8
          generalize w8.alloc (.cells (setA N) 41) = W9 at *
          generalize w8.heap.size = m at *
          generalize Step.paint O8 w8 6 = O9 at *
          go_cut [14] (fun c14 wc => c14 = .int .i64 ((cnt N 256 : Nat) : Int) ∧ wc = W9)
          case first =>
            as_aux_lemma =>
            go_wp2_with fail
            go_loop [14, 15] (fun c i => ∃ j : Nat, j ≤ 256 ∧ i = .int .i64 j ∧ c = .int .i64 ((cnt N j : Nat) : Int)) (fun _ i => 256 - (intOf i).toNat)
            case atStart => exact ⟨0, by omega, rfl, rfl⟩
            case round =>
              obtain ⟨j, hj, rfl, rfl⟩ := hrel
              have hcj := cnt_free N j
              by_cases hj2 : j < 256
              · have HST := Lib.hid (show cnt N (j + 1) = if N j then cnt N j + 1 else cnt N j from rfl)
                have y0 := (blk_cells HR9.out.map.1 j hj2).1
                generalize cnt N j = cj at *
                cases hNj : N j with
                | true =>
                  rw [hNj] at y0
                  rw [hNj, if_pos rfl] at HST
                  clear hNj
                  go_wp2_with fail
                  go_round
                  case rel => exact ⟨j + 1, by omega, by go_num, by rw [HST.out]; go_num⟩
                  case measure => simp [intOf]; omega
                | false =>
                  rw [hNj] at y0
                  rw [hNj, if_neg (by simp)] at HST
                  clear hNj
                  go_wp2_with fail
                  go_round
                  case rel => exact ⟨j + 1, by omega, by go_num, by rw [HST.out]⟩
                  case measure => simp [intOf]; omega
              · obtain rfl : j = 256 := by omega
                go_wp2_with fail
                go_meet
                exact ⟨rfl, rfl⟩
          case rest =>
            obtain ⟨rfl, rfl⟩ := hcut
            have v0 : wc.cell? ⟨X, 0, none⟩ = some (.int .u8 (s : Int)) := HR9.out.var.cell 0
            have v2 : wc.cell? ⟨X, 2, none⟩ = some (.bool any) := HR9.out.var.cell 2
            have y0 := (blk_cells HR9.out.map.1 s hs1).1
            have HLEN := Lib.hid (fun n => set_len (HR9.out.set.step ((Step.refl [] wc O9).drewN n) (by simp)))
            have HHAS := Lib.hid (fun n => setHas (HR9.out.set.step ((Step.refl [] wc O9).drewN n) (by simp)).not s hs1)
            generalize cnt N 256 = cn at *
            have d1 : ((cn : Int) != (cn : Int)) = false := by simp
            have d2 : (N s != N s) = false := by simp
            go_upto_region 22 with (fail)
            go_quiet ((first | (go_at_call 20; exact Calls.quiet_of_same (still (HLEN.out _))) | (go_at_call 21; exact Calls.quiet_of_same (still (HHAS.out _)))))
            rename_i nq
            go_upto_region 24 with (fail)
            have HL10 := Lib.hid (HL9.out.idle ((Step.refl [] wc O9).drewN nq))
            have HR10 := Lib.hid (HR9.out.step ((Step.refl [] wc O9).drewN nq) (by simp) (by simp) (by simp))
            clear HL9 HR9 HLEN HHAS d1 d2 v0 v2 y0
            generalize wc.drewN nq = W10 at *
            have v0 : W10.cell? ⟨X, 0, none⟩ = some (.int .u8 (s : Int)) := HR10.out.var.cell 0
            have v2 : W10.cell? ⟨X, 2, none⟩ = some (.bool any) := HR10.out.var.cell 2
            have hy0 := (blk_cells HR10.out.map.1 s hs1).1
            cases any with
            | true =>
              cases hN : N s with
              | true =>
                as_aux_lemma =>
                rw [hN] at hy0
                clear hN
                go_wp2_with fail
                go_roundw
                case rel => exact ⟨k + 1, by omega, by omega, by go_num, e, l, vt, v1, _, O9, HL10.out, HOK.out, HND.out, by omega, by omega⟩
                case measure => simp [intOf]; omega
              | false =>
                as_aux_lemma =>
                -- BEGIN other
                rw [hN] at hy0
                have HN := Lib.hid hN
                clear hN
                go_wp2_with fail
                refine (put_other HR10.out.set HL10.out.enc (by omega) s hs1 HN.out).mono ?_
                rintro x w11 ⟨rfl, O11, hs11, he11⟩
                have HL11 := Lib.hid (HL10.out.put hs11 he11)
                have HR11 := Lib.hid (HR10.out.step hs11 (by simp) (by simp) (by simp))
                have HFI := Lib.hid HL10.out.enc.2
                clear hs11 he11 HL10 HR10 v0 v2 hy0
                obtain ⟨g, cp, hRA⟩ := HL11.out.ref
                obtain ⟨q0, q1, qf0, qf1, hql⟩ := two hRA.1.1
                have v0 : w11.cell? ⟨X, 0, none⟩ = some (.int .u8 (s : Int)) := HR11.out.var.cell 0
                have HRA := Lib.hid hRA
                clear hRA
                go_wp2_with (refine wpList_load_row rfl 41 (.tmp 13) rfl m (by rfl) 41 (setA N) (0, 0) _ HR11.out.map.1 Try.underlying41 rfl (by rw [sizeA, setA_size]) ?_)
                refine (rput_other (e := e) HRA.out.2.toRow HFI.out (by omega) N s hs1 HN.out).mono ?_
                rintro x w12 ⟨v12, rfl, hrow, hb12, hmv⟩
                obtain ⟨g3, cap3, hv3⟩ := hrow.form (by rw [be_length]; omega)
                rw [be_length] at hv3
                subst hv3
                obtain ⟨O13, hs13, hL13⟩ := HL11.out.rput HRA.out hb12 hrow hmv rfl
                obtain ⟨z0, z1, zf0, zf1, hzl⟩ := two ((hb12.block G hql).trans HRA.out.1.1)
                have HL13 := Lib.hid hL13
                have HTU := Lib.hid (Rc.part_turns e (free N s) 1 (free N 256))
                clear hL13 hs13 hrow hb12 hmv q0 q1 qf0 qf1 hql v0 HRA HL11 HR11
                go_wp2_with fail
                go_roundw
                case rel => exact ⟨k + 1, by omega, by omega, by go_num, _, l, vt, _, _, O13, HL13.out, HOK.out, HND.out, by omega, by have := HTU.out; omega⟩
                case measure => simp [intOf]; omega
                -- END other
            | false =>
              as_aux_lemma =>
              -- BEGIN table
              have HAL := Lib.hid (all_le N HOK.out (show l.length ≤ 541 by omega))
              have HAN := Lib.hid (add_ne l s)
              have HTA := Lib.hid (tab_add HOK.out hs1)
              have HNA := Lib.hid (add_nodup HND.out s)
              have HLA := Lib.hid (add_length l s)
              have HTU : Hid ((putE e l N s).1.turns ≤ e.turns + 3) := Lib.hid (by rw [putE_eq]; exact Rc.part_turns _ _ _ _)
              obtain ⟨g, cp, hRA⟩ := HL10.out.ref
              obtain ⟨q0, q1, qf0, qf1, hql⟩ := two hRA.1.1
              obtain ⟨m0, m1, mf0, mf1, mlt⟩ := two HL10.out.tabs.var.1
              have HRA := Lib.hid hRA
              clear hRA hy0
              go_wp2_with (refine wpList_load_row rfl 41 (.tmp 13) rfl m (by rfl) 41 (setA N) (0, 0) _ HR10.out.map.1 Try.underlying41 rfl (by rw [sizeA, setA_size]) ?_)
              refine (rput_any (e := e) HRA.out.2.toRow HL10.out.enc.2 (by omega) (refV_of HL10.out.tabs.rows HL10.out.tabs.nil0) HOK.out HND.out (by omega) N s hs1).mono ?_
              rintro x w11 ⟨v11, rfl, hrow, hb11, hmv⟩
              obtain ⟨g3, cap3, hv3⟩ := hrow.form (by rw [be_length]; omega)
              rw [be_length] at hv3
              subst hv3
              obtain ⟨O12, hs12, hL12⟩ := HL10.out.rput HRA.out hb11 hrow hmv rfl
              obtain ⟨z0, z1, zf0, zf1, hzl⟩ := two ((hb11.block G hql).trans HRA.out.1.1)
              have HL12 := Lib.hid hL12
              have HR12 := Lib.hid (HR10.out.step hs12 (by simp) (by simp) (by simp))
              have hX11 := (hb11.cell (p := ⟨X, 0, none⟩) HR10.out.var.lt).trans v0
              clear hL12 hs12 hrow hb11 hmv q0 q1 qf0 qf1 hql v0 v2 m0 m1 mf0 mf1 mlt HRA HL10 HR10
              go_upto_region 30 with (fail)
              have v0 : ((w11.setCell ⟨G, 0, none⟩ (.slice (some ⟨g3, 0, none⟩) ((putE e l N s).1.turns + 4) cap3)).setCell ⟨G, 1, none⟩ (.int .u64 ((putE e l N s).1.size : Int))).cell? ⟨X, 0, none⟩ = some (.int .u8 (s : Int)) := HR12.out.var.cell 0
              generalize (w11.setCell ⟨G, 0, none⟩ (.slice (some ⟨g3, 0, none⟩) ((putE e l N s).1.turns + 4) cap3)).setCell ⟨G, 1, none⟩ (.int .u64 ((putE e l N s).1.size : Int)) = W12 at *
              clear z0 z1 zf0 zf1 hzl hX11
              generalize hpu : putE e l N s = pe at *
              have HPU := Lib.hid hpu
              clear hpu
              go_wp2_with fail
              refine (put_any HL12.out.tabs.tab HOK.out (by omega) HR12.out.set.not HAL.out HL12.out.enc (by omega) s hs1).mono ?_
              rw [HPU.out]
              rintro x w13 ⟨rfl, O13, hs13, he13⟩
              have HL13 := Lib.hid (HL12.out.put hs13 he13)
              have HR13 := Lib.hid (HR12.out.step hs13 (by simp) (by simp) (by simp))
              clear hs13 he13 HL12 HR12 v0
              have v0 : w13.cell? ⟨X, 0, none⟩ = some (.int .u8 (s : Int)) := HR13.out.var.cell 0
              have d3 : (pe.2 != pe.2) = false := by simp
              go_wp2_with fail
              refine (add_any HL13.out.tabs.tab HOK.out (by omega) s hs1).mono ?_
              rintro x w14 ⟨rfl, ha⟩
              obtain ⟨O14, vt14, hs14, hL14⟩ := HL13.out.add ha
              have HL14 := Lib.hid hL14
              have HR14 := Lib.hid (HR13.out.step hs14 (by simp) (by simp) (by simp))
              clear hs14 hL14 ha HL13 HR13 v0 d3
              have v0 : w14.cell? ⟨X, 0, none⟩ = some (.int .u8 (s : Int)) := HR14.out.var.cell 0
              obtain ⟨m0, m1, mf0, mf1, mlt⟩ := two HL14.out.tabs.var.1
              go_wp2_with fail
              refine (radd_any HL14.out.tabs.rows HL14.out.tabs.nil0 HOK.out (by omega) s hs1).mono ?_
              rintro x w15 ⟨v1', v2', rfl, hR6, hb6, n1, n2⟩
              obtain ⟨y1, c1, y2, c2, rfl, rfl, _⟩ := hR6.form (List.length_pos_iff.2 HAN.out)
              obtain ⟨k0, k1, kf0, kf1, klt⟩ := two ((hb6.block M mlt).trans HL14.out.tabs.var.1)
              obtain ⟨O16, hs16, hL16⟩ := HL14.out.radd hb6 hR6 n1 n2 HAN.out
              have HL16 := Lib.hid hL16
              clear hs16 hL16 hR6 hb6 n1 n2 m0 m1 mf0 mf1 mlt v0 HL14 HR14
              go_wp2_with fail
              go_roundw
              case rel => exact ⟨k + 1, by omega, by omega, by go_num, _, _, _, _, _, O16, HL16.out, HTA.out, HNA.out, by have := HLA.out; omega, by have := HTU.out; omega⟩
              case measure => simp [intOf]; omega
              -- END table
      · -- BEGIN exit
        have key : (k < len ∧ ¬ k < 40) ∨ ¬ k < len := by omega
        obtain ⟨g, cp, hRA⟩ := hL.ref
        have HLn := Lib.hid (EndedP.drew ⟨hL, hRA⟩)
        obtain ⟨m0, m1, mf0, mf1, mlt⟩ := two hRA.1.1
        have HED := Lib.hid (fun W h => EndedP.dev (w := W) (w0 := w) (a := a) (M := M) (E := E) (G := G) (g := g) (cap := cp) (e := e) (l := l) (vt := vt) (v1 := v1) (v2 := v2) (O := O) h (by omega))
        have HER := Lib.hid (fun W h => EndedP.refs (w := W) (w0 := w) (a := a) (M := M) (E := E) (G := G) (g := g) (cap := cp) (e := e) (l := l) (vt := vt) (v1 := v1) (v2 := v2) (O := O) h (by omega))
        have HNH := Lib.hid (nil_shas1)
        clear hL hRA hok hnd hlt
        generalize (⟨e.bytes.toArray⟩ : ByteArray) = SS at *
        rcases key with ⟨h1, h2⟩ | h1
        · as_aux_lemma =>
          have d2 : decide ((k : Int) < 40) = false := by rw [decide_eq_false_iff_not]; omega
          clear h2
          go_wp2_with fail
          refine (nil_sadd _ 1).mono ?_
          rintro x w7 ⟨rfl, rfl⟩
          go_wp2_with fail
          go_region_with ((first | (go_at_call 27; (with_reducible refine (HED.out _ HLn.out).mono ?_); rintro y w6 ⟨rfl, hl6⟩; obtain ⟨k0, k1, _, _, _⟩ := two hl6.2.1.1; have HLn := Lib.hid hl6; clear hl6) | (go_at_call 28; (with_reducible refine (HER.out _ HLn.out).mono ?_); rintro y w6 ⟨rfl, hl6⟩; obtain ⟨k0, k1, _, _, _⟩ := two hl6.2.1.1; have HLn := Lib.hid hl6; clear hl6) | (go_at_call 21; (with_reducible refine (HNH.out _).mono ?_); rintro y w6 ⟨rfl, rfl⟩) | (go_at_call 20; (with_reducible refine (nil_len _).mono ?_); rintro y w6 ⟨rfl, rfl⟩)))
          all_goals
            go_wp2_with fail
            go_ret
            exact ⟨ret_bool (by simp), HLn.out.1.tabs.run.below⟩
        · as_aux_lemma =>
          have d1 : decide (k < len) = false := by rw [decide_eq_false_iff_not]; omega
          go_wp2_with fail
          refine (nil_sadd _ 1).mono ?_
          rintro x w7 ⟨rfl, rfl⟩
          go_wp2_with fail
          go_region_with ((first | (go_at_call 27; (with_reducible refine (HED.out _ HLn.out).mono ?_); rintro y w6 ⟨rfl, hl6⟩; obtain ⟨k0, k1, _, _, _⟩ := two hl6.2.1.1; have HLn := Lib.hid hl6; clear hl6) | (go_at_call 28; (with_reducible refine (HER.out _ HLn.out).mono ?_); rintro y w6 ⟨rfl, hl6⟩; obtain ⟨k0, k1, _, _, _⟩ := two hl6.2.1.1; have HLn := Lib.hid hl6; clear hl6) | (go_at_call 21; (with_reducible refine (HNH.out _).mono ?_); rintro y w6 ⟨rfl, rfl⟩) | (go_at_call 20; (with_reducible refine (nil_len _).mono ?_); rintro y w6 ⟨rfl, rfl⟩)))
          all_goals
            go_wp2_with fail
            go_ret
            exact ⟨ret_bool (by simp), HLn.out.1.tabs.run.below⟩
        -- END exit
end Go.Proofs.Ythejbnodalnnpaa.Fq
