/-
  The walk of the statement ArenaPlays: for every number of cells and every list of acts it returns true, and writes nothing that was there.
-/
import Derived.Test.YtollngjnoccmfaaArenaPlaysBase
import Derived.Deep.CutBlock
set_option linter.unusedVariables false
set_option linter.unusedSimpArgs false
namespace Go.Proofs.Ytollngjnoccmfaa.Ar
open Go.RowKit Go.Maps
open Rc Im
/-- An act: three cells in a row. -/
def IsAct (w : World) (b off q : Nat) (x y : Int) : Prop := w.cell? ⟨b, off, none⟩ = some (.int .u8 (q : Int)) ∧ w.cell? ⟨b, off + 1, none⟩ = some (.int .i64 x) ∧ w.cell? ⟨b, off + 2, none⟩ = some (.int .i64 y) ∧ q < 256 ∧ (-9223372036854775808 ≤ x ∧ x ≤ 9223372036854775807) ∧ (-9223372036854775808 ≤ y ∧ y ≤ 9223372036854775807)
def IsActs (w : World) (a : Option Addr) (len : Nat) : Prop := len = 0 ∨ ∃ b off, a = some ⟨b, off, none⟩ ∧ ∀ i, i < len → ∃ q x y, IsAct w b (off + i * 3) q x y
theorem three_at {w : World} {X : Nat} {a b c : Value} {t : TypeId} (h : w.heap[X]? = some (.cells #[a, b, c] t (0, 0))) :
    w.cell? ⟨X, 0, none⟩ = some a ∧ w.cell? ⟨X, 1, none⟩ = some b ∧ w.cell? ⟨X, 2, none⟩ = some c :=
  ⟨by simp [World.cell?, h], by simp [World.cell?, h], by simp [World.cell?, h]⟩
set_option maxRecDepth 100000 in
set_option maxHeartbeats 16000000 in
theorem plays_walk (cells : Int) (a0 : Option Addr) (len cap : Nat) (w : World) (hc0 : cells ≤ 9223372036854775807) (hlen : len ≤ maxLen) (h : IsActs w a0 len) :
    Calls Try.prog 5 #[.int .i64 cells, .slice a0 len cap] w fun x w' => x = .returned (.bool true) ∧ Below w.heap.size w w' := by
  clear hlen
  have HIP := Lib.hid h
  have HSP := Lib.hid (fun W => speaks17 W)
  have HNEW := Lib.hid (fun (W : World) => new_any (c1 := 1) (c2 := 2) (c3 := 3) (c4 := 4) cells hc0 W (fun _ => 0) (by decide) (fun _ => 0) (fun _ => #[]))
  obtain ⟨R, hR⟩ : ∃ R : Nat, R = cells.toNat := ⟨_, rfl⟩
  have hRm : R < 9223372036854775808 := by omega
  have hmx : (cells < 0 ∧ (R : Int) = 0) ∨ (¬ cells < 0 ∧ (R : Int) = cells) := by omega
  rw [← hR] at HNEW
  clear h hR
  have HM1 := Lib.hid (fun (W : World) => run_makeMap (P := Try.prog) 54 W)
  have HM2 := Lib.hid (fun (W : World) => run_makeMap (P := Try.prog) 55 W)
  go_enter Try.func5, Try.ntmps5
  go_wp2_with fail
  refine (HSP.out w).mono ?_
  rintro x w1 ⟨rfl, hb1⟩
  have HB1 := Lib.hid hb1
  clear hb1 HSP
  go_wp2_with fail
  refine (HNEW.out _).mono ?_
  rintro x w2 ⟨O2, a, rfl, hs2, hA2⟩
  have HR2 := Lib.hid (run_step ⟨HB1.out, fun _ _ => rfl⟩ hs2 (by simp))
  have HA2 := Lib.hid hA2
  clear hs2 hA2 HNEW HB1
  go_upto_region 4 with (fail)
  go_cut [6] from 26 to 27 (fun v wc => v = .int .i64 (R : Int) ∧ wc = w2)
  case first =>
    as_aux_lemma =>
    clear HIP HM1 HM2 HR2 HA2
    rcases hmx with ⟨g1, g2⟩ | ⟨g1, g2⟩
    · have g3 : ¬ 0 ≤ cells := by omega
      have G2 := Lib.hid g2
      clear g2
      go_wp2_with fail
      go_meet
      exact ⟨by rw [G2.out], rfl⟩
    · have g3 : 0 ≤ cells := by omega
      have G2 := Lib.hid g2
      clear g2
      go_wp2_with fail
      go_meet
      exact ⟨by rw [G2.out], rfl⟩
  case rest =>
    obtain ⟨rfl, rfl⟩ := hcut
    obtain ⟨sA, mA⟩ := map_new wc O2 5 4 (.bool false)
    obtain ⟨sB, mB⟩ := map_new (wc.alloc (.map #[] 0)) (Step.paint O2 wc 5) 6 3 (.int .i64 0)
    have HP0 : Hid (Pl w a (zNew R) (fun _ => 0) (fun _ => #[]) (.slice none 0 0) (.slice none 0 0) wc.heap.size (wc.alloc (.map #[] 0)).heap.size 0 (.slice none 0 0) (fun _ => 0) ((wc.alloc (.map #[] 0)).alloc (.map #[] 0)) (Step.paint (Step.paint O2 wc 5) (wc.alloc (.map #[] 0)) 6)) := Lib.hid
      ⟨run_step (run_step HR2.out sA (by simp)) sB (by simp), (HA2.out.idle sA).idle sB, (mA.step sB (by simp)).congr (fun k => by rw [takenB_new]), mB, ⟨World.ownsRow_nil _ _ _ _, fun k hk => by simp [Value.ownBlock] at hk⟩, (fun k hk => by rw [takenB_new] at hk; simp at hk), ⟨Nat.le_refl _, Nat.le_refl _⟩⟩
    rw [World.size_alloc] at HP0
    clear sA mA sB mB HR2 HA2 hmx
    have hm1 := HM1.out wc
    have hm2 := HM2.out (wc.alloc (.map #[] 0))
    go_upto_region 6 with (fail)
    generalize (wc.alloc (.map #[] 0)).alloc (.map #[] 0) = W3 at *
    generalize Step.paint (Step.paint O2 wc 5) (wc.alloc (.map #[] 0)) 6 = O3 at *
    obtain ⟨vb, hvb⟩ : ∃ vb, vb = wc.heap.size + 1 := ⟨_, rfl⟩
    rw [← hvb] at HP0 ⊢
    clear hvb hm1 hm2
    generalize wc.heap.size = tb0 at *
    obtain ⟨m, hm⟩ : ∃ m, m = min len 80 := ⟨_, rfl⟩
    have hm80 : m ≤ 80 := by omega
    have hml : m ≤ len := by omega
    have HMM := Lib.hid hm
    clear hm
    go_wp2_with fail
    go_loopw [7, 9, 10, 11] (fun t fv e i' wr => ∃ (k : Nat) (z : Aren) (O : Paint) (B : Nat → Nat) (A : Nat → Array Value) (vp vf : Value) (tb : Nat) (V : Int → Int), k ≤ m ∧ i' = .int .i64 (k : Int) ∧ t = .map (some tb) ∧ e = .int .i64 (z.used : Int) ∧ z.cells = R ∧ Pl w a z B A vp vf tb vb k fv V wr O) (fun _ _ _ i' _ => m - (intOf i').toNat)
    case atStart => exact ⟨0, zNew R, O3, _, _, _, _, tb0, _, by omega, rfl, rfl, rfl, rfl, HP0.out⟩
    case round =>
      clear HP0
      obtain ⟨k, z, O, B, A, vp, vf, tb, V, hk, rfl, rfl, rfl, hzc, hP⟩ := hrel
      have HP := Lib.hid hP
      clear hP
      obtain ⟨A9, p9, rfl⟩ := HP.out.fvs
      by_cases hlt : k < m
      · have hl1 : k < len := by omega
        have hl2 : k < 80 := by omega
        have hk0 : (0 : Int) ≤ (k : Int) := by omega
        have hkn : (k : Int).toNat = k := rfl
        have hki : (k : Int) < 80 := by omega
        have hkl : (k : Int) < (len : Int) := by omega
        rcases HIP.out with he | ⟨b0, off, rfl, hc⟩
        · omega
        · obtain ⟨q, x, y, hq0, hq1, hq2, hq3, hx, hy⟩ := hc k hl1
          have hbR := HP.out.run.1
          have c0 := (World.cell?_of_block (hbR.block b0 (World.block_lt_of_cell? _ _ hq0))).trans hq0
          have c1 := (World.cell?_of_block (hbR.block b0 (World.block_lt_of_cell? _ _ hq1))).trans hq1
          have c2 := (World.cell?_of_block (hbR.block b0 (World.block_lt_of_cell? _ _ hq2))).trans hq2
          clear hc hq0 hq1 hq2 hbR
          go_upto_region 12 with (fail)
          have hs5 : Step [] wr O (wr.alloc (.cells #[.int .u8 (q : Int), .int .i64 x, .int .i64 y] 57)) (Step.paint O wr 8) := Step.of_below ((Below.refl _ _).alloc (Nat.le_refl _) _) O 8
          have HB5 : Hid (Blk (wr.alloc (.cells #[.int .u8 (q : Int), .int .i64 x, .int .i64 y] 57)) (Step.paint O wr 8) 8 wr.heap.size (.cells #[.int .u8 (q : Int), .int .i64 x, .int .i64 y] 57 (0, 0))) := Lib.hid ⟨heap_alloc_new _ _, Step.paint_new (Nat.le_refl _)⟩
          have HP5 := Lib.hid (HP.out.idle hs5)
          clear hs5 HP c0 c1 c2
          generalize wr.alloc (.cells #[.int .u8 (q : Int), .int .i64 x, .int .i64 y] 57) = W7 at *
          generalize wr.heap.size = Z at *
          generalize Step.paint O wr 8 = O7 at *
          obtain ⟨d0, d1, d2⟩ := three_at HB5.out.1
          go_upto_block 2 with (fail)
          go_cut [7, 9, 10, 13, 14, 15, 16] from 46 to 142 (fun t fv e _ _ _ _ wc => ∃ (z' : Aren) (O' : Paint) (B' : Nat → Nat) (A' : Nat → Array Value) (vp' vf' : Value) (tb' : Nat) (V' : Int → Int), t = .map (some tb') ∧ e = .int .i64 (z'.used : Int) ∧ z'.cells = R ∧ Pl w a z' B' A' vp' vf' tb' vb (k + 1) fv V' wc O')
          case first =>
            as_aux_lemma =>
            clear HIP HMM hlt hl1 hl2 hki hkl hk0 hml
            obtain ⟨r, hr⟩ : ∃ r : Nat, r = q % 6 := ⟨_, rfl⟩
            have hqr : (q : Int) % 6 = (r : Int) := by omega
            have hr6 : r < 6 := by omega
            rw [hqr]
            have HX := Lib.hid hx
            have HY := Lib.hid hy
            clear hr hqr hq3 hx hy hRm hc0
            by_cases h5 : r = 5
            · -- BEGIN five
              subst h5
              by_cases hy4 : Int.tmod y 4 = 0
              · have g1 : (Int.tmod y 4 == 0) = true := by simpa using hy4
                have HCL := Lib.hid (clear_any HP5.out.ar)
                go_wp2_with fail
                refine HCL.out.mono ?_
                rintro x' w5 ⟨rfl, hs5, hA5⟩
                have HN := Lib.hid (HP5.out.cleared hs5 hA5)
                have hm1 := HM1.out w5
                clear hs5 hA5 HCL HP5 HB5 d0 d1 d2
                go_wp2_with fail
                go_meet
                exact ⟨zNew z.cells, _, _, _, _, _, _, _, rfl, rfl, hzc, HN.out⟩
              · have g1 : (Int.tmod y 4 == 0) = false := by simpa using hy4
                have HN := Lib.hid (HP5.out.mono (show k ≤ k + 1 by omega))
                clear HP5
                go_wp2_with fail
                go_meet
                exact ⟨z, O7, B, A, vp, vf, tb, V, rfl, rfl, hzc, HN.out⟩
              -- END five
            · by_cases h4 : r = 4
              · -- BEGIN four
                subst h4
                have HAT := Lib.hid (at_any HP5.out.ar x rfl)
                cases hT : z.takenB x with
                | false =>
                  rw [hT, if_neg (by simp)] at HAT
                  clear hT
                  go_wp2_with fail
                  refine HAT.out.mono ?_
                  rintro x' w5 ⟨rfl, n, rfl⟩
                  have HN := Lib.hid ((HP5.out.idle ((Step.refl [] W7 O7).drewN n)).mono (show k ≤ k + 1 by omega))
                  clear HAT HP5
                  generalize W7.drewN n = W5 at *
                  go_wp2_with fail
                  go_meet
                  exact ⟨z, O7, B, A, vp, vf, tb, V, rfl, rfl, hzc, HN.out⟩
                | true =>
                  rw [hT, if_pos rfl] at HAT
                  obtain ⟨n1, n2, n3⟩ := takenB_nat hT
                  obtain ⟨i, hi⟩ := Int.eq_ofNat_of_zero_le (show 0 ≤ x by omega)
                  have hti : x.toNat = i := by omega
                  rw [hti] at HAT
                  have HCS := Lib.hid (fun n => show (∃ u, ((W7.drewN n)).cell? ⟨B (lg i), 2 * pk i, none⟩ = some u) ∧ (W7.drewN n).frozen? ⟨B (lg i), 2 * pk i, none⟩ = false ∧ (∃ w7 A1, (Instr.mapUpdate 55 (.map (some vb)) (.int .i64 x) (.int .i64 y)).run Try.prog ((W7.drewN n).setCell ⟨B (lg i), 2 * pk i, none⟩ (.int .i64 y)) = .ok () w7 ∧ Pl w a (z.set i (.int .i64 y)) B A1 vp vf tb vb (k + 1) (.slice A9 z.F.length p9) (fun j => if j = x then y else V j) w7 O7) ∧ (((W7.drewN n).setCell ⟨B (lg i), 2 * pk i, none⟩ (.int .i64 y)).cell? ⟨Z, 1, none⟩ = some (.int .i64 x) ∧ ((W7.drewN n).setCell ⟨B (lg i), 2 * pk i, none⟩ (.int .i64 y)).cell? ⟨Z, 2, none⟩ = some (.int .i64 y)) ∧ ((W7.drewN n).cell? ⟨Z, 1, none⟩ = some (.int .i64 x) ∧ (W7.drewN n).cell? ⟨Z, 2, none⟩ = some (.int .i64 y)) from by
                    have hq := HP5.out.idle ((Step.refl [] W7 O7).drewN n)
                    obtain ⟨⟨u, v, e1, _⟩, f1, _⟩ := hq.ar.some (i := i) (by omega) (by omega)
                    obtain ⟨s4, hA4⟩ := hq.ar.set1 (i := i) (by omega) (by omega) (.int .i64 y)
                    obtain ⟨w7, hup, s6, hm⟩ := (hq.va.step s4 (by simp)).setI (by omega) HX.out.1 HX.out.2 HY.out.1 HY.out.2
                    have hb := (HB5.out.step ((Step.refl [] W7 O7).drewN n) (by simp)).step s4 (by simp)
                    obtain ⟨_, g1, g2⟩ := three_at hb.1
                    exact ⟨⟨u, e1⟩, f1, ⟨w7, _, hup, hq.setted hi ((s4.mono (by simp)).trans (s6.mono (by simp))) (hA4.step s6 (by simp) (by simp) (by simp) (by simp)) hm⟩, ⟨g1, g2⟩, (three_at (HB5.out.step ((Step.refl [] W7 O7).drewN n) (by simp)).1).2⟩)
                  clear hT n1 n2 n3 hti hi HP5
                  generalize B (lg i) = bb at *
                  generalize 2 * pk i = oo at *
                  go_wp2_with fail
                  refine HAT.out.mono ?_
                  rintro x' w5 ⟨rfl, n, rfl⟩
                  obtain ⟨⟨u, e1⟩, f1, ⟨w7, A1, hup, hpl⟩, ⟨g1, g2⟩, g3, g4⟩ := HCS.out n
                  have HN := Lib.hid hpl
                  clear hpl HAT HCS
                  generalize W7.drewN n = W5 at *
                  go_wp2_with fail
                  go_meet
                  exact ⟨z.set i (.int .i64 y), O7, _, _, vp, vf, tb, _, rfl, rfl, hzc, HN.out⟩
                -- END four
              · by_cases h3 : r = 3
                · -- BEGIN three
                  subst h3
                  have hk1000 : k ≤ 1000 := by omega
                  have hus : z.used ≤ 1000000000 := Nat.le_trans HP5.out.bd.1 (by omega)
                  have hfl : z.F.length ≤ 1000 := Nat.le_trans HP5.out.bd.2 hk1000
                  have HS : Hid (∀ W', (∃ O', Step [1, 3, 4] W7 O7 W' O') → (∃ O', Step [1, 3, 4] W7 O7 W' O') ∧ (W'.cell? ⟨Z, 0, none⟩ = some (.int .u8 (q : Int)) ∧ W'.cell? ⟨Z, 1, none⟩ = some (.int .i64 x) ∧ W'.cell? ⟨Z, 2, none⟩ = some (.int .i64 y)) ∧ (Instr.lookup 54 (.map (some tb)) (.int .i64 x) false).run Try.prog W' = .ok (.bool (z.takenB x)) W') := Lib.hid (fun W' hW => by
                    obtain ⟨O', hs⟩ := hW
                    exact ⟨⟨O', hs⟩, three_at (HB5.out.step hs (by simp)).1, (HP5.out.tk.step hs (by simp)).lookB HX.out.1 HX.out.2⟩)
                  have S0 : ∃ O', Step [1, 3, 4] W7 O7 W7.drew O' := ⟨O7, (Step.refl _ W7 O7).drew⟩
                  cases hT : z.takenB x with
                  | false =>
                    rw [hT] at HS
                    have HF := Lib.hid (free_no (HP5.out.ar.idle ((Step.refl [] W7 O7).drew)) x hT)
                    have HN := Lib.hid (fun n => (HP5.out.idle ((Step.refl [] W7 O7).drewN n)).mono (show k ≤ k + 1 by omega))
                    have hSw := HS.out _ S0
                    clear hT hus hfl HP5 hk1000
                    go_upto_region 26 with (fail)
                    go_region_held3 (fun W' => (∃ O', Step [1, 3, 4] W7 O7 W' O') ∧ (W'.cell? ⟨Z, 0, none⟩ = some (.int .u8 (q : Int)) ∧ W'.cell? ⟨Z, 1, none⟩ = some (.int .i64 x) ∧ W'.cell? ⟨Z, 2, none⟩ = some (.int .i64 y)) ∧ (Instr.lookup 54 (.map (some tb)) (.int .i64 x) false).run Try.prog W' = .ok (.bool false) W') ((refine HS.out _ ?_; first | assumption)) (first | (go_at_call 22; (with_reducible refine HF.out.mono ?_); rintro x' w6 ⟨rfl, n6, rfl⟩; have hq6 : ∃ O', Step [1, 3, 4] W7 O7 (W7.drewN (1 + n6)) O' := ⟨O7, (Step.refl _ W7 O7).drewN (1 + n6)⟩))
                    all_goals
                      have HN2 := Lib.hid (HN.out (1 + n6))
                      obtain ⟨_, ⟨e0, e1, e2⟩, e3⟩ := HS.out _ hq6
                      clear HN HS HF hq6 hSw S0
                      generalize W7.drewN (1 + n6) = W9 at *
                      go_wp2_with fail
                      go_meet
                      exact ⟨z, O7, B, A, vp, vf, tb, V, rfl, rfl, hzc, HN2.out⟩
                  | true =>
                    rw [hT] at HS
                    obtain ⟨n1, n2, n3⟩ := takenB_nat hT
                    obtain ⟨i, hi⟩ := Int.eq_ofNat_of_zero_le (Int.le_trans (by decide) n1)
                    have HF : Hid (Calls Try.prog 22 #[.pointer (some ⟨a, 0, none⟩), .int .i64 x] W7.drew fun x' w' => x' = .returned (.bool true) ∧ ∃ O' A' vf', Step [1, 3, 4] W7.drew O7 w' O' ∧ ArenaAt w' O' 1 2 3 4 a 141 212 143 (z.free i (.int .i64 0)) 0 B A' vp vf') := Lib.hid (by
                      have := free_yes (i := i) (HP5.out.ar.idle ((Step.refl [] W7 O7).drew)) (by rw [← hi]; exact hT) hus
                      rw [← hi] at this
                      exact this)
                    have HFR := Lib.hid (fun (w1 : World) (O1 : Paint) (A' : Nat → Array Value) (vf' : Value) => HP5.out.freed (w1 := w1) (O1 := O1) (A' := A') (vf' := vf') hk1000 hi HX.out.1 HX.out.2)
                    have hSw := HS.out _ S0
                    have HI := Lib.hid hi
                    clear hT hus hk1000 n1 n2 n3 HP5 hi
                    go_upto_region 26 with (fail)
                    go_region_held3 (fun W' => (∃ O', Step [1, 3, 4] W7 O7 W' O') ∧ (W'.cell? ⟨Z, 0, none⟩ = some (.int .u8 (q : Int)) ∧ W'.cell? ⟨Z, 1, none⟩ = some (.int .i64 x) ∧ W'.cell? ⟨Z, 2, none⟩ = some (.int .i64 y)) ∧ (Instr.lookup 54 (.map (some tb)) (.int .i64 x) false).run Try.prog W' = .ok (.bool true) W') ((refine HS.out _ ?_; first | assumption)) (first | (go_at_call 22; (with_reducible refine HF.out.mono ?_); rintro x' w6 ⟨rfl, O6, A6, vf6, hs6, hA6⟩; have hq6 : ∃ O', Step [1, 3, 4] W7 O7 w6 O' := ⟨O6, ((Step.refl _ W7 O7).drew).trans hs6⟩))
                    all_goals
                      have hs7 : Step [1, 3, 4] W7 O7 w6 O6 := ((Step.refl _ W7 O7).drew).trans hs6
                      obtain ⟨w7, hup, s7, hfr7, hpl⟩ := HFR.out w6 O6 A6 vf6 hs7 hA6
                      obtain ⟨_, ⟨e0, e1, e2⟩, e3⟩ := HS.out _ hq6
                      have HB7 := Lib.hid ((HB5.out.step hs7 (by simp)).step s7 (by simp))
                      have HPL := Lib.hid hpl
                      have HFR7 := Lib.hid hfr7
                      clear hpl hfr7 s7 hs7 hs6 hA6 HFR HF HS hq6 hSw S0 HB5 d0 d1 d2
                      go_wp2_with fail
                      clear e0 e1 e2 e3 hup
                      have HBS : Hid (∀ W', Below w7.heap.size w7 W' → Below w7.heap.size w7 W' ∧ W'.cell? ⟨Z, 1, none⟩ = some (.int .i64 x)) := Lib.hid (fun W' hW => ⟨hW, (three_at (HB7.out.step (Step.of_below_same hW O6) (by simp)).1).2.1⟩)
                      have HRS : Hid (∀ W', Below w7.heap.size w7 W' → Held W' O6 7 3 (.slice A9 z.F.length p9) (z.F.map fun (i : Nat) => Value.int .i64 (i : Int))) := Lib.hid (fun W' hW => HFR7.out.step (Step.of_below_same hW O6) (by simp))
                      have hb0 : Below w7.heap.size w7 w7.drew := (Below.refl _ _).drew
                      have hsz : w7.drew.heap.size = w7.heap.size := rfl
                      refine Tail.region_head (fun W' => Below w7.heap.size w7 W' ∧ W'.cell? ⟨Z, 1, none⟩ = some (.int .i64 x)) 6 2 #[true, true, true, true, true, true, false, false] (by kernel_rfl) ⟨by kernel_rfl, by decide, by kernel_rfl, by kernel_rfl, by kernel_rfl⟩ (by kernel_rfl) (HBS.out _ hb0) (fun ok hHeld => ?_)
                      refine Tail.Lst.mk [1, 3, 4] ?_
                      iterate 3 (refine Tail.Lst.takeT ok rfl (v := ?_) (Or.inl ⟨by rfl, ?_⟩) ?_; rotate_left; (next => intro w hSw; (try dsimp only at hSw); go_simp; (try with_reducible rfl)); simp only [Act.put, List.getElem_toArray, List.getElem_cons_succ, List.getElem_cons_zero, List.setIfInBounds_toArray, List.set])
                      refine Tail.Lst.nil ?_
                      clear hHeld
                      refine Tail.head_ready (rs := [0, 5]) (by kernel_rfl) (by simp) (by kernel_rfl) ?_
                      refine Tail.AllHead.cons rfl (fun K hK => ?_) (Tail.AllHead.cons rfl (fun K hK => ?_) Tail.AllHead.nil)
                      · go_simp
                        have hbA := hb0.alloc hb0.size (.cells #[] 3)
                        refine hK.out _ _ (HBS.out _ hbA) (fun hHeld => ?_)
                        clear hK K
                        try simp only [Act.put, List.getElem_toArray, List.getElem_cons_succ, List.getElem_cons_zero, List.setIfInBounds_toArray, List.set]
                        have hrw := row_empty w7.drew
                        refine Tail.head_ready (rs := [2, 5]) (by kernel_rfl) (by simp) (by kernel_rfl) ?_
                        refine Tail.AllHead.cons rfl (fun K hK => ?_) (Tail.AllHead.cons rfl (fun K hK => ?_) Tail.AllHead.nil)
                        · have hbB := hbA
                          have hg0 : w7.heap.size ≤ w7.drew.heap.size := Nat.le_refl _
                          refine step_copy _ rfl (.tmp 110) (.tmp 111) rfl (l := z.F) (c := 7) (O := O6) (Nat.le_trans hfl (by decide)) (HRS.out _ hbB) rfl rfl (hrw) ?_
                          intro g cap' wC r1 r2 r3
                          have hgC : w7.heap.size ≤ g := by rcases r3 with e | e; exact Nat.le_trans hg0 (Nat.le_of_eq e.symm); exact Nat.le_trans hbB.size e
                          have hbC := hbB.grown r2 hbB.size (fun k hk => by cases hk; exact hg0)
                          refine hK.out _ _ (HBS.out _ hbC) (fun hHeld => ?_)
                          clear hK K
                          try simp only [Act.put, List.getElem_toArray, List.getElem_cons_succ, List.getElem_cons_zero, List.setIfInBounds_toArray, List.set]
                          refine Tail.head_ready (rs := [5]) (by kernel_rfl) (by simp) (by kernel_rfl) ?_
                          refine Tail.AllHead.cons rfl (fun K hK => ?_) Tail.AllHead.nil
                          go_simp
                          have hbD := hbC.alloc hbC.size (.cells #[.int .i64 x] 3)
                          refine hK.out _ _ (HBS.out _ hbD) (fun hHeld => ?_)
                          clear hK K
                          try simp only [Act.put, List.getElem_toArray, List.getElem_cons_succ, List.getElem_cons_zero, List.setIfInBounds_toArray, List.set]
                          refine Tail.head_done rfl ?_
                          obtain ⟨i0, hi0, hz0, hz1, hz2⟩ := info_parts infoIn
                          refine wpAny_ready (rs := [6]) (by kernel_rfl) (by simp) ?_
                          refine AllReady.cons rfl (fun K hK => ?_) AllReady.nil
                          refine step_append1 _ rfl (.tmp 112) (.tmp 115) 47 rfl 3 i0 (.int .i64 0) 1 8 Try.underlying47 hi0 hz0 hz1 hz2 rfl (by decide) (.slice (some ⟨g, 0, none⟩) z.F.length cap') z.F.length _ rfl (World.ownsRow.alloc r1 _) ⟨wC.heap.size, 0, none⟩ 1 1 (by decide) [.int .i64 x] rfl rfl (cell_at (heap_alloc_new wC (.cells #[.int .i64 x] 3))) (by intro u hu; simp at hu; subst hu; rfl) (by unfold maxLen; exact Nat.le_trans (Nat.succ_le_succ hfl) (by decide)) (Nat.le_trans (Nat.mul_le_mul_right 8 (Nat.succ_le_succ hfl)) (by decide)) ?_
                          intro g2 cap2 w4 r4 r5 r6
                          obtain ⟨q1, q2⟩ := fin_free (O6 := O6) hbD hgC HI.out r4 r5 r6
                          have HN := Lib.hid (HPL.out w4 _ _ q1 q2)
                          refine hK _ _ ?_
                          clear hK K r4 r5 r6 q1 q2
                          try simp only [Act.put, List.getElem_toArray, List.getElem_cons_succ, List.getElem_cons_zero, List.setIfInBounds_toArray, List.set]
                          refine wpAny_ready (rs := [7]) (by kernel_rfl) (by simp) ?_
                          refine AllReady.cons rfl (fun K hK => ?_) AllReady.nil
                          go_simp
                          refine hK _ _ ?_
                          clear hK K
                          try simp only [Act.put, List.getElem_toArray, List.getElem_cons_succ, List.getElem_cons_zero, List.setIfInBounds_toArray, List.set]
                          refine wpAny_done (by kernel_rfl) ?_ _
                          clear r1 r2 r3 hbA hbB hbC hbD hg0 hgC hi0 hz0 hz1 hz2
                          go_wp2_with fail
                          go_meet
                          exact ⟨z.free i (.int .i64 0), _, B, A6, vp, vf6, tb, V, rfl, rfl, hzc, HN.out⟩
                        · go_simp
                          have hbB := hbA.alloc hbA.size (.cells #[.int .i64 x] 3)
                          refine hK.out _ _ (HBS.out _ hbB) (fun hHeld => ?_)
                          clear hK K
                          try simp only [Act.put, List.getElem_toArray, List.getElem_cons_succ, List.getElem_cons_zero, List.setIfInBounds_toArray, List.set]
                          have hg0 : w7.heap.size ≤ w7.drew.heap.size := Nat.le_refl _
                          have hxb := heap_alloc_new (w7.drew.alloc (.cells #[] 3)) (.cells #[.int .i64 x] 3)
                          refine Tail.head_ready (rs := [2]) (by kernel_rfl) (by simp) (by kernel_rfl) ?_
                          refine Tail.AllHead.cons rfl (fun K hK => ?_) Tail.AllHead.nil
                          refine step_copy _ rfl (.tmp 110) (.tmp 111) rfl (l := z.F) (c := 7) (O := O6) (Nat.le_trans hfl (by decide)) (HRS.out _ hbB) rfl rfl (World.ownsRow.alloc hrw _) ?_
                          intro g cap' wC r1 r2 r3
                          have hgC : w7.heap.size ≤ g := by rcases r3 with e | e; exact Nat.le_trans hg0 (Nat.le_of_eq e.symm); exact Nat.le_trans hbB.size e
                          have hbC := hbB.grown r2 hbB.size (fun k hk => by cases hk; exact hg0)
                          refine hK.out _ _ (HBS.out _ hbC) (fun hHeld => ?_)
                          clear hK K
                          try simp only [Act.put, List.getElem_toArray, List.getElem_cons_succ, List.getElem_cons_zero, List.setIfInBounds_toArray, List.set]
                          have hbD := hbC
                          have hxc := (r2.block _ (lt_of_heap hxb) (by rw [World.size_alloc]; simp)).trans hxb
                          rw [World.size_alloc] at hxc
                          refine Tail.head_done rfl ?_
                          obtain ⟨i0, hi0, hz0, hz1, hz2⟩ := info_parts infoIn
                          refine wpAny_ready (rs := [6]) (by kernel_rfl) (by simp) ?_
                          refine AllReady.cons rfl (fun K hK => ?_) AllReady.nil
                          refine step_append1 _ rfl (.tmp 112) (.tmp 115) 47 rfl 3 i0 (.int .i64 0) 1 8 Try.underlying47 hi0 hz0 hz1 hz2 rfl (by decide) (.slice (some ⟨g, 0, none⟩) z.F.length cap') z.F.length _ rfl (r1) ⟨w7.drew.heap.size + 1, 0, none⟩ 1 1 (by decide) [.int .i64 x] rfl rfl (cell_at hxc) (by intro u hu; simp at hu; subst hu; rfl) (by unfold maxLen; exact Nat.le_trans (Nat.succ_le_succ hfl) (by decide)) (Nat.le_trans (Nat.mul_le_mul_right 8 (Nat.succ_le_succ hfl)) (by decide)) ?_
                          intro g2 cap2 w4 r4 r5 r6
                          obtain ⟨q1, q2⟩ := fin_free (O6 := O6) hbD hgC HI.out r4 r5 r6
                          have HN := Lib.hid (HPL.out w4 _ _ q1 q2)
                          refine hK _ _ ?_
                          clear hK K r4 r5 r6 q1 q2
                          try simp only [Act.put, List.getElem_toArray, List.getElem_cons_succ, List.getElem_cons_zero, List.setIfInBounds_toArray, List.set]
                          refine wpAny_ready (rs := [7]) (by kernel_rfl) (by simp) ?_
                          refine AllReady.cons rfl (fun K hK => ?_) AllReady.nil
                          go_simp
                          refine hK _ _ ?_
                          clear hK K
                          try simp only [Act.put, List.getElem_toArray, List.getElem_cons_succ, List.getElem_cons_zero, List.setIfInBounds_toArray, List.set]
                          refine wpAny_done (by kernel_rfl) ?_ _
                          clear r1 r2 r3 hbA hbB hbC hbD hg0 hgC hi0 hz0 hz1 hz2
                          go_wp2_with fail
                          go_meet
                          exact ⟨z.free i (.int .i64 0), _, B, A6, vp, vf6, tb, V, rfl, rfl, hzc, HN.out⟩
                      · go_simp
                        have hbA := hb0.alloc hb0.size (.cells #[.int .i64 x] 3)
                        refine hK.out _ _ (HBS.out _ hbA) (fun hHeld => ?_)
                        clear hK K
                        try simp only [Act.put, List.getElem_toArray, List.getElem_cons_succ, List.getElem_cons_zero, List.setIfInBounds_toArray, List.set]
                        have hxb := heap_alloc_new w7.drew (.cells #[.int .i64 x] 3)
                        refine Tail.head_ready (rs := [0]) (by kernel_rfl) (by simp) (by kernel_rfl) ?_
                        refine Tail.AllHead.cons rfl (fun K hK => ?_) Tail.AllHead.nil
                        go_simp
                        have hbB := hbA.alloc hbA.size (.cells #[] 3)
                        refine hK.out _ _ (HBS.out _ hbB) (fun hHeld => ?_)
                        clear hK K
                        try simp only [Act.put, List.getElem_toArray, List.getElem_cons_succ, List.getElem_cons_zero, List.setIfInBounds_toArray, List.set]
                        have hrw := row_empty (w7.drew.alloc (.cells #[.int .i64 x] 3))
                        rw [World.size_alloc] at hrw
                        have hg0 : w7.heap.size ≤ w7.drew.heap.size + 1 := Nat.le_succ _
                        refine Tail.head_ready (rs := [2]) (by kernel_rfl) (by simp) (by kernel_rfl) ?_
                        refine Tail.AllHead.cons rfl (fun K hK => ?_) Tail.AllHead.nil
                        refine step_copy _ rfl (.tmp 110) (.tmp 111) rfl (l := z.F) (c := 7) (O := O6) (Nat.le_trans hfl (by decide)) (HRS.out _ hbB) rfl rfl (hrw) ?_
                        intro g cap' wC r1 r2 r3
                        have hgC : w7.heap.size ≤ g := by rcases r3 with e | e; exact Nat.le_trans hg0 (Nat.le_of_eq e.symm); exact Nat.le_trans hbB.size e
                        have hbC := hbB.grown r2 hbB.size (fun k hk => by cases hk; exact hg0)
                        refine hK.out _ _ (HBS.out _ hbC) (fun hHeld => ?_)
                        clear hK K
                        try simp only [Act.put, List.getElem_toArray, List.getElem_cons_succ, List.getElem_cons_zero, List.setIfInBounds_toArray, List.set]
                        have hbD := hbC
                        have hxb2 := (Below.heap_alloc (w7.drew.alloc (.cells #[.int .i64 x] 3)) (.cells #[] 3) w7.drew.heap.size (by rw [World.size_alloc]; exact Nat.lt_succ_self _)).trans hxb
                        have hxc := (r2.block _ (lt_of_heap hxb2) (by simp)).trans hxb2
                        refine Tail.head_done rfl ?_
                        obtain ⟨i0, hi0, hz0, hz1, hz2⟩ := info_parts infoIn
                        refine wpAny_ready (rs := [6]) (by kernel_rfl) (by simp) ?_
                        refine AllReady.cons rfl (fun K hK => ?_) AllReady.nil
                        refine step_append1 _ rfl (.tmp 112) (.tmp 115) 47 rfl 3 i0 (.int .i64 0) 1 8 Try.underlying47 hi0 hz0 hz1 hz2 rfl (by decide) (.slice (some ⟨g, 0, none⟩) z.F.length cap') z.F.length _ rfl (r1) ⟨w7.drew.heap.size, 0, none⟩ 1 1 (by decide) [.int .i64 x] rfl rfl (cell_at hxc) (by intro u hu; simp at hu; subst hu; rfl) (by unfold maxLen; exact Nat.le_trans (Nat.succ_le_succ hfl) (by decide)) (Nat.le_trans (Nat.mul_le_mul_right 8 (Nat.succ_le_succ hfl)) (by decide)) ?_
                        intro g2 cap2 w4 r4 r5 r6
                        obtain ⟨q1, q2⟩ := fin_free (O6 := O6) hbD hgC HI.out r4 r5 r6
                        have HN := Lib.hid (HPL.out w4 _ _ q1 q2)
                        refine hK _ _ ?_
                        clear hK K r4 r5 r6 q1 q2
                        try simp only [Act.put, List.getElem_toArray, List.getElem_cons_succ, List.getElem_cons_zero, List.setIfInBounds_toArray, List.set]
                        refine wpAny_ready (rs := [7]) (by kernel_rfl) (by simp) ?_
                        refine AllReady.cons rfl (fun K hK => ?_) AllReady.nil
                        go_simp
                        refine hK _ _ ?_
                        clear hK K
                        try simp only [Act.put, List.getElem_toArray, List.getElem_cons_succ, List.getElem_cons_zero, List.setIfInBounds_toArray, List.set]
                        refine wpAny_done (by kernel_rfl) ?_ _
                        clear r1 r2 r3 hbA hbB hbC hbD hg0 hgC hi0 hz0 hz1 hz2
                        go_wp2_with fail
                        go_meet
                        exact ⟨z.free i (.int .i64 0), _, B, A6, vp, vf6, tb, V, rfl, rfl, hzc, HN.out⟩
                  -- END three
                · -- BEGIN rest
                  obtain ⟨f3, f4, f5⟩ := r_ne h3 h4 h5
                  have hk1000 : k ≤ 1000 := by omega
                  have hus : z.used ≤ 1000000000 := Nat.le_trans HP5.out.bd.1 (by omega)
                  have hfl : z.F.length ≤ 1000 := Nat.le_trans HP5.out.bd.2 hk1000
                  clear h3 h4 h5 hr6
                  by_cases hF : z.F = []
                  · have q1 : ¬ (0 : Int) < (z.F.length : Int) := by rw [hF]; simp
                    have q2 : decide ((0 : Int) < (z.F.length : Int)) = false := decide_eq_false q1
                    by_cases hlu : z.used < R
                    · have hlc : z.F ≠ [] ∨ z.used < z.cells := .inr (by rw [hzc]; exact hlu)
                      have q3 : (z.used : Int) < (R : Int) := lt_cast hlu
                      have q4 : decide ((z.used : Int) < (R : Int)) = true := decide_eq_true q3
                      obtain ⟨u1, u2⟩ := w_succ (j := (z.used : Int)) (by omega) (le_cast (b := 1000000) (Nat.le_trans HP5.out.bd.1 (by omega)))
                      obtain ⟨t1, t2, t3, t4⟩ := take_new HP5.out.ar.ok hF (by rw [hzc]; exact hlu) (.int .i64 y)
                      have HTK := Lib.hid (take_any HP5.out.ar (left_new hF (by rw [hzc]; exact hlu)) hus y)
                      have HNX : Hid ((z.next : Int) = (z.used : Int) + 1) := Lib.hid (by rw [t1]; rfl)
                      have HUS : Hid ((((z.take (.int .i64 y)).used : Nat) : Int) = (z.used : Int) + 1) := Lib.hid (by rw [t3]; rfl)
                      have HTT := Lib.hid (fun (w1 : World) (O1 : Paint) (B' : Nat → Nat) (A' : Nat → Array Value) (vp' vf' : Value) (hs : Step [1, 2, 4] W7 O7 w1 O1) (hA : ArenaAt w1 O1 1 2 3 4 a 141 212 143 (z.take (.int .i64 y)) 0 B' A' vp' vf') => HP5.out.took hk1000 hlc HY.out.1 HY.out.2 hs hA (fv' := .slice A9 z.F.length p9) (by have := HP5.out.fr; rw [t2]; rw [hF] at this ⊢; exact this))
                      have q5 : (0 : Int) < (z.used : Int) + 1 := pos_succ _
                      have q6 : decide ((0 : Int) < (z.used : Int) + 1) = true := decide_eq_true q5
                      clear t1 t2 t3 t4 hF hlu hlc hus hfl hk1000
                      go_wp2_with fail
                      refine HTK.out.mono ?_
                      rintro x' w5 ⟨rfl, O5, B5, A5, vp5, vf5, hs5, hA5⟩
                      obtain ⟨w6, w8, hu1, hu2, hs6, hpl⟩ := HTT.out w5.drew O5 B5 A5 vp5 vf5 hs5.drew (hA5.idle ((Step.refl [] w5 O5).drew))
                      rw [HNX.out] at hu1 hu2
                      obtain ⟨e0, e1, e2⟩ := three_at (HB5.out.step hs5.drew (by simp)).1
                      have e2b := (three_at ((HB5.out.step hs5.drew (by simp)).step hs6 (by simp)).1).2.2
                      have HN := Lib.hid hpl
                      have HU1 := Lib.hid hu1
                      have HU2 := Lib.hid hu2
                      clear hs5 hs6 hA5 hpl hu1 hu2 HTT HTK HB5 HP5 d0 d1 d2 e0 e1
                      rw [HNX.out]
                      go_upto_region 24 with (fail)
                      refine Tail.region_head (fun W' => W'.cell? ⟨Z, 2, none⟩ = some (.int .i64 y)) 7 1 #[true, true, true, true, true, true, true, false] (by kernel_rfl) ⟨by kernel_rfl, by decide, by kernel_rfl, by kernel_rfl, by kernel_rfl⟩ (by kernel_rfl) e2 (fun ok hHeld => ?_)
                      refine Tail.Lst.mk [0, 1, 2, 3, 4, 5] ?_
                      iterate 6 (refine Tail.Lst.takeT ok rfl (v := ?_) (Or.inl ⟨by rfl, ?_⟩) ?_; rotate_left; (next => intro w hSw; (try dsimp only at hSw); go_simp; (try with_reducible rfl)); simp only [Act.put, List.getElem_toArray, List.getElem_cons_succ, List.getElem_cons_zero, List.setIfInBounds_toArray, List.set])
                      refine Tail.Lst.nil ?_
                      refine Tail.head_ready (rs := [6]) (by kernel_rfl) (by simp) (by kernel_rfl) ?_
                      refine Tail.AllHead.cons rfl (fun K hK => ?_) Tail.AllHead.nil
                      have hu1 := HU1.out
                      go_simp
                      refine hK.out _ _ e2b (fun hHeld => ?_)
                      clear hK K hu1
                      try simp only [Act.put, List.getElem_toArray, List.getElem_cons_succ, List.getElem_cons_zero, List.setIfInBounds_toArray, List.set]
                      refine Tail.head_done rfl ?_
                      refine wpAny_ready (rs := [7]) (by kernel_rfl) (by simp) ?_
                      refine AllReady.cons rfl (fun K hK => ?_) AllReady.nil
                      have hu2 := HU2.out
                      go_simp
                      refine hK _ _ ?_
                      clear hK K hu2
                      try simp only [Act.put, List.getElem_toArray, List.getElem_cons_succ, List.getElem_cons_zero, List.setIfInBounds_toArray, List.set]
                      refine wpAny_done (by kernel_rfl) ?_ _
                      go_wp2_with fail
                      go_meet
                      exact ⟨z.take (.int .i64 y), O5, B5, A5, vp5, vf5, tb, _, rfl, by rw [HUS.out], hzc, HN.out⟩
                    · have q3 : ¬ (z.used : Int) < (R : Int) := nlt_cast hlu
                      have q4 : decide ((z.used : Int) < (R : Int)) = false := decide_eq_false q3
                      have HTK := Lib.hid (take_none HP5.out.ar (left_none HP5.out.ar.ok hF (by rw [hzc]; exact hlu)) (.int .i64 y))
                      clear hF hlu hus
                      go_wp2_with fail
                      refine HTK.out.mono ?_
                      rintro x' w5 ⟨rfl, n, rfl⟩
                      have HN := Lib.hid ((HP5.out.idle ((Step.refl [] W7 O7).drewN n)).mono (show k ≤ k + 1 by omega))
                      clear HTK HP5
                      generalize W7.drewN n = W5 at *
                      go_wp2_with fail
                      go_meet
                      exact ⟨z, O7, B, A, vp, vf, tb, V, rfl, rfl, hzc, HN.out⟩
                  · obtain ⟨l, i, hli⟩ : ∃ l i, z.F = l ++ [i] := ⟨z.F.dropLast, z.F.getLast hF, (List.dropLast_concat_getLast hF).symm⟩
                    have hln : z.F.length = l.length + 1 := by rw [hli]; simp
                    obtain ⟨⟨p1, p2⟩, p3, p4⟩ := w_pred hln (by have := hfl; rw [hln] at this; exact Nat.le_trans (Nat.le_of_succ_le this) (by decide))
                    have q2 : decide ((0 : Int) < (z.F.length : Int)) = true := decide_eq_true p4
                    obtain ⟨t1, t2, t3, t4, t5, t6⟩ := take_free HP5.out.ar.ok hli (.int .i64 y)
                    have hfr := HP5.out.fr
                    obtain ⟨g, cap', hv, hcap, _, _, _⟩ := hfr.form (by rw [List.length_map, hln]; exact Nat.succ_pos _)
                    simp only [Value.slice.injEq] at hv
                    obtain ⟨rfl, -, rfl⟩ := hv
                    rw [hli, map_snoc, ← hli] at hfr
                    have hc := hfr.cell (j := l.length) (x := .int .i64 (i : Int)) (by simp)
                    have hi2 := held_init hfr
                    rw [List.length_map] at hi2 hcap
                    have HTK := Lib.hid (take_any HP5.out.ar (left_free HP5.out.ar.ok hF) hus y)
                    have HNX : Hid ((z.next : Int) = (i : Int)) := Lib.hid (by rw [t1])
                    have HUS : Hid ((((z.take (.int .i64 y)).used : Nat) : Int) = (z.used : Int)) := Lib.hid (by rw [t3])
                    have HTT := Lib.hid (fun (w1 : World) (O1 : Paint) (B' : Nat → Nat) (A' : Nat → Array Value) (vp' vf' : Value) (hs : Step [1, 2, 4] W7 O7 w1 O1) (hA : ArenaAt w1 O1 1 2 3 4 a 141 212 143 (z.take (.int .i64 y)) 0 B' A' vp' vf') => HP5.out.took hk1000 (.inl hF) HY.out.1 HY.out.2 hs hA (fv' := .slice (some ⟨g, 0, none⟩) l.length p9) (by rw [t2]; exact hi2))
                    have q3 : (0 : Int) ≤ (l.length : Int) := Int.natCast_nonneg _
                    have q4 : (l.length : Int) ≤ (p9 : Int) := le_cast (Nat.le_trans (by rw [hln]; exact Nat.le_succ _) hcap)
                    have q5 : (0 : Int) < (i : Int) := lt_cast (a := 0) t5
                    have q8 : 0 < i := t5
                    have q9 : decide (0 < i) = true := decide_eq_true q8
                    have q6 : decide ((0 : Int) < (i : Int)) = true := decide_eq_true q5
                    have q7 : (l.length : Int).toNat = l.length := rfl
                    clear t1 t2 t3 t4 t5 t6 hF hus hfr hi2 hli hln hfl hk1000 hcap
                    generalize l.length = N at *
                    go_wp2_with fail
                    refine HTK.out.mono ?_
                    rintro x' w5 ⟨rfl, O5, B5, A5, vp5, vf5, hs5, hA5⟩
                    obtain ⟨w6, w8, hu1, hu2, hs6, hpl⟩ := HTT.out w5.drew O5 B5 A5 vp5 vf5 hs5.drew (hA5.idle ((Step.refl [] w5 O5).drew))
                    rw [HNX.out] at hu1 hu2
                    obtain ⟨e0, e1, e2⟩ := three_at (HB5.out.step hs5.drew (by simp)).1
                    have e2b := (three_at ((HB5.out.step hs5.drew (by simp)).step hs6 (by simp)).1).2.2
                    have HN := Lib.hid hpl
                    have HU1 := Lib.hid hu1
                    have HU2 := Lib.hid hu2
                    clear hs5 hs6 hA5 hpl hu1 hu2 HTT HTK HB5 HP5 d0 d1 d2 e0 e1
                    rw [HNX.out]
                    go_upto_region 24 with (fail)
                    refine Tail.region_head (fun W' => W'.cell? ⟨Z, 2, none⟩ = some (.int .i64 y)) 7 1 #[true, true, true, true, true, true, true, false] (by kernel_rfl) ⟨by kernel_rfl, by decide, by kernel_rfl, by kernel_rfl, by kernel_rfl⟩ (by kernel_rfl) e2 (fun ok hHeld => ?_)
                    refine Tail.Lst.mk [0, 1, 2, 3, 4, 5] ?_
                    iterate 6 (refine Tail.Lst.takeT ok rfl (v := ?_) (Or.inl ⟨by rfl, ?_⟩) ?_; rotate_left; (next => intro w hSw; (try dsimp only at hSw); go_simp; (try with_reducible rfl)); simp only [Act.put, List.getElem_toArray, List.getElem_cons_succ, List.getElem_cons_zero, List.setIfInBounds_toArray, List.set])
                    refine Tail.Lst.nil ?_
                    refine Tail.head_ready (rs := [6]) (by kernel_rfl) (by simp) (by kernel_rfl) ?_
                    refine Tail.AllHead.cons rfl (fun K hK => ?_) Tail.AllHead.nil
                    have hu1 := HU1.out
                    go_simp
                    refine hK.out _ _ e2b (fun hHeld => ?_)
                    clear hK K hu1
                    try simp only [Act.put, List.getElem_toArray, List.getElem_cons_succ, List.getElem_cons_zero, List.setIfInBounds_toArray, List.set]
                    refine Tail.head_done rfl ?_
                    refine wpAny_ready (rs := [7]) (by kernel_rfl) (by simp) ?_
                    refine AllReady.cons rfl (fun K hK => ?_) AllReady.nil
                    have hu2 := HU2.out
                    go_simp
                    refine hK _ _ ?_
                    clear hK K hu2
                    try simp only [Act.put, List.getElem_toArray, List.getElem_cons_succ, List.getElem_cons_zero, List.setIfInBounds_toArray, List.set]
                    refine wpAny_done (by kernel_rfl) ?_ _
                    go_wp2_with fail
                    go_meet
                    exact ⟨z.take (.int .i64 y), O5, B5, A5, vp5, vf5, tb, _, rfl, by rw [HUS.out], hzc, HN.out⟩
                  -- END rest
          case rest =>
            obtain ⟨z', O', B', A', vp', vf', tb', V', rfl, rfl, hzc', hP'⟩ := hcut
            have HP' := Lib.hid hP'
            clear hP' HP5 HB5 d0 d1 d2
            obtain ⟨W9, hWe⟩ : ∃ W', W' = wc := ⟨_, rfl⟩
            rw [← hWe] at HP' ⊢
            clear hWe
            obtain ⟨A9, p9, rfl⟩ := HP'.out.fvs
            have hln := HP'.out.ar.ok.len
            have hle := HP'.out.ar.ok.le
            have hbd := HP'.out.bd
            have HL := Lib.hid (left_any HP'.out.ar)
            rw [show z'.left = (R : Int) - (z'.used : Int) + (z'.F.length : Int) by unfold Aren.left; rw [hzc']] at HL
            obtain ⟨⟨w1', w2'⟩, v1', v2'⟩ := w_left hRm (by rw [← hzc']; exact hle) hln
            have hU : z'.used ≤ 100 := by omega
            obtain ⟨u1, u2⟩ := w_succ (j := (z'.used : Int)) (by omega) (by omega)
            clear hln hle hbd
            go_wp2_with fail
            refine HL.out.mono ?_
            rintro x' w10 ⟨rfl, n, rfl⟩
            have HP10 := Lib.hid (HP'.out.idle ((Step.refl [] W9 O').drewN n))
            clear HL HP'
            generalize W9.drewN n = W10 at *
            go_wp2_with fail
            clear w1' w2' v1' v2' hx hy hq3 hRm hc0
            go_loopw [17] (fun i' W => ∃ (j : Int), -1 ≤ j ∧ j ≤ (z'.used : Int) + 2 ∧ i' = .int .i64 j ∧ Step [] W10 O' W O') (fun i' _ => ((z'.used : Int) + 2 - intOf i').toNat)
            case atStart => exact ⟨-1, by omega, by omega, rfl, Step.refl [] W10 O'⟩
            case round =>
              obtain ⟨j, hj1, hj2, rfl, hS⟩ := hrel
              obtain ⟨WI, hWI⟩ : ∃ W', W' = wr := ⟨_, rfl⟩
              rw [← hWI] at hS ⊢
              clear hWI
              by_cases hj : j ≤ (z'.used : Int) + 1
              · as_aux_lemma =>
                have HQ := Lib.hid (HP10.out.idle hS)
                have HAT := Lib.hid (at_any HQ.out.ar j rfl)
                obtain ⟨jw, jv⟩ := w_succ (j := j) (by omega) (by omega)
                have HS := Lib.hid hS
                clear hS HP10 HIP HM1 HM2
                cases hT : z'.takenB j with
                | true =>
                  rw [hT, if_pos rfl] at HAT
                  obtain ⟨n1, n2, n3⟩ := takenB_nat hT
                  have HCS := Lib.hid (fun (W : World) (hs : Step [] WI O' W O') => show W.cell? ⟨B' (lg j.toNat), 2 * pk j.toNat, none⟩ = some (.int .i64 (V' j)) ∧ (Instr.lookup 54 (.map (some tb')) (.int .i64 j) false).run Try.prog W = .ok (.bool true) W ∧ (Instr.lookup 55 (.map (some vb)) (.int .i64 j) false).run Try.prog W = .ok (.int .i64 (V' j)) W from by
                    have hq := HQ.out.idle hs
                    have e1 := (hq.ar.two (i := j.toNat) (by omega) (by omega) (by omega)).1
                    rw [hq.eq j hT] at e1
                    have e2 := hq.tk.lookB (k := j) (by omega) (by omega)
                    rw [hT] at e2
                    exact ⟨e1, e2, hq.va.lookI (by omega) (by omega)⟩)
                  clear hT n1 n2 n3 HQ
                  generalize B' (lg j.toNat) = bb at *
                  generalize 2 * pk j.toNat = oo at *
                  go_wp2_with fail
                  refine HAT.out.mono ?_
                  rintro x' w5 ⟨rfl, n, rfl⟩
                  have g1 := (HCS.out _ ((Step.refl [] WI O').drewN n)).1
                  have g2 : ∀ n', (Instr.lookup 54 (.map (some tb')) (.int .i64 j) false).run Try.prog ((WI.drewN n).drewN n') = .ok (.bool true) ((WI.drewN n).drewN n') := fun n' => (HCS.out _ (((Step.refl [] WI O').drewN n).drewN n')).2.1
                  have g3 : ∀ n', (Instr.lookup 55 (.map (some vb)) (.int .i64 j) false).run Try.prog ((WI.drewN n).drewN n') = .ok (.int .i64 (V' j)) ((WI.drewN n).drewN n') := fun n' => (HCS.out _ (((Step.refl [] WI O').drewN n).drewN n')).2.2
                  have HS2 := Lib.hid (HS.out.drewN n)
                  clear HS HAT HCS
                  generalize WI.drewN n = W5 at *
                  generalize V' j = vj at *
                  go_upto_region 46 with (fail)
                  go_quiet (fail)
                  go_wp2_with fail
                  go_roundw
                  case rel => exact ⟨j + 1, by omega, by omega, by go_num, by first | exact HS2.out | exact HS2.out.drew | exact HS2.out.drewN _⟩
                  case measure => simp [intOf]; omega
                | false =>
                  rw [hT, if_neg (by simp)] at HAT
                  have HCS := Lib.hid (fun (W : World) (hs : Step [] WI O' W O') => show (Instr.lookup 54 (.map (some tb')) (.int .i64 j) false).run Try.prog W = .ok (.bool false) W from by
                    have hq := HQ.out.idle hs
                    have e2 := hq.tk.lookB (k := j) (by omega) (by omega)
                    rw [hT] at e2
                    exact e2)
                  clear hT HQ
                  go_wp2_with fail
                  refine HAT.out.mono ?_
                  rintro x' w5 ⟨rfl, n, rfl⟩
                  have g2 : ∀ n', (Instr.lookup 54 (.map (some tb')) (.int .i64 j) false).run Try.prog ((WI.drewN n).drewN n') = .ok (.bool false) ((WI.drewN n).drewN n') := fun n' => HCS.out _ (((Step.refl [] WI O').drewN n).drewN n')
                  have HS2 := Lib.hid (HS.out.drewN n)
                  clear HS HAT HCS
                  generalize WI.drewN n = W5 at *
                  go_upto_region 46 with (fail)
                  go_quiet (fail)
                  go_wp2_with fail
                  go_roundw
                  case rel => exact ⟨j + 1, by omega, by omega, by go_num, by first | exact HS2.out | exact HS2.out.drew | exact HS2.out.drewN _⟩
                  case measure => simp [intOf]; omega
              · have HQ := Lib.hid (HP10.out.idle hS)
                obtain ⟨kw, kv⟩ := w_succ (j := (k : Int)) (by omega) (by omega)
                clear hS HP10
                go_wp2_with fail
                have HZ' := Lib.hid hzc'
                clear hj hj1 hj2 hU u1 u2 hzc' hzc hl1 hl2 hki hkl hk0 hml hm80 kv
                go_roundw
                case rel => exact ⟨k + 1, z', O', B', A', _, _, tb', V', hlt, rfl, rfl, rfl, HZ'.out, HQ.out⟩
                case measure => simp [intOf]; omega
      · obtain rfl : k = m := by omega
        have HBF := Lib.hid HP.out.run.1
        have hcond : (k : Int) < (len : Int) → ¬ (k : Int) < 80 := by have := HMM.out; omega
        have hdd : ¬ ((k : Int) < (len : Int)) ∨ ((k : Int) < (len : Int) ∧ ¬ ((k : Int) < 80)) := by
          by_cases hx : (k : Int) < (len : Int)
          · exact .inr ⟨hx, hcond hx⟩
          · exact .inl hx
        clear hcond HP HIP HM1 HM2 HMM
        rcases hdd with hdd | ⟨hdd, hdd2⟩
        all_goals
          go_wp2_with fail
          refine (clear_nil wr).mono ?_
          rintro x1 w5 ⟨rfl, rfl⟩
          go_wp2_with fail
          refine (take_nil (.int .i64 1) wr).mono ?_
          rintro x2 w6 ⟨rfl, rfl⟩
          go_wp2_with fail
          refine (at_nil 1 wr).mono ?_
          rintro x3 w7 ⟨rfl, rfl⟩
          go_wp2_with fail
          refine (free_nil 1 wr).mono ?_
          rintro x4 w8 ⟨rfl, rfl⟩
          go_wp2_with fail
          refine (left_nil wr).mono ?_
          rintro x5 w9 ⟨rfl, rfl⟩
          go_wp2_with fail
          go_ret
          exact ⟨rfl, HBF.out⟩
end Go.Proofs.Ytollngjnoccmfaa.Ar
