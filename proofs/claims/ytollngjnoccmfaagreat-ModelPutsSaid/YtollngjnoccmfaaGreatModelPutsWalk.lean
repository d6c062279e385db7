/-
  The walk of the statement ModelPuts: for all numbers and every list of packets it returns true, and writes nothing that was there.
-/
import Derived.Test.YtollngjnoccmfaaGreatDocAll
set_option linter.unusedVariables false
namespace Go.Proofs.YtollngjnoccmfaaGreat.Dc
open Go.RowKit Go.Maps
open Rc Mo
open Pk (Rp Pt four IsPts IsPt)
theorem fit_kind1 {p : Pt} (hk : p.k = 1) (m : Ms) : (fitM 3000 m p).isSome = (decide (p.d = 0 ∧ p.n = 0) && decide ((1 : Int) ≤ 3000 - (m.l.length : Int))) := by
  unfold fitM Pt.fit
  have hpl : p.plain = decide (p.d = 0 ∧ p.n = 0) := by
    unfold Pt.plain
    simp [hk]
  rw [hpl]
  by_cases h : p.d = 0 ∧ p.n = 0
  · rw [if_neg (by simp [h]), if_pos hk]
    simp only [decide_eq_true h, Bool.true_and]
    split
    · rename_i hc; rw [decide_eq_true hc]; rfl
    · rename_i hc; rw [decide_eq_false hc]; rfl
  · rw [if_pos (by simpa using h)]
    simp only [decide_eq_false h, Bool.false_and]
    rfl
theorem fit_back {p : Pt} {m : Ms} {dd nn : Int} {s : Rp} (hy : ∀ y, p.fit (m.l.length : Int) m.r = some y → y = (dd, nn, s)) : (fitM 3000 m p).isSome = ((p.fit (m.l.length : Int) m.r).isSome && decide (nn ≤ 3000 - (m.l.length : Int))) := by
  unfold fitM
  cases hf : p.fit (m.l.length : Int) m.r with
  | none => rfl
  | some y =>
    obtain rfl := hy y hf
    simp only [Option.isSome_some, Bool.true_and]
    split
    · rename_i hc; rw [decide_eq_true hc]; rfl
    · rename_i hc; rw [decide_eq_false hc]; rfl
theorem put_turns' {x : Pr} {p : Pt} (hb : p.b < 256) : (x.put 3000 p).s.e.turns ≤ x.s.e.turns + 200 := by
  cases hf : fitM 3000 x.m p with
  | none => rw [Pr.put_no hf]; omega
  | some y => rw [Pr.put_yes hf]; exact Es.code_turns _ _ (pkOf_ok hb (fitM_some hf).1).1
set_option maxRecDepth 100000 in
set_option maxHeartbeats 16000000 in
theorem mputs_walk (x0 x1 x2 : Nat) (a0 : Option Addr) (len cap : Nat) (fin : Bool) (w : World) (ps : List Pt) (h0 : x0 < 256) (h1 : x1 < 256) (h2 : x2 < 256) (hps : ps.length = min len 40) (hpb : ∀ p ∈ ps, p.b < 256) (hlen : len ≤ maxLen) (h : IsPts w a0 ps) :
    Calls Tryz.prog 3 #[.agg #[.int .u8 (x0 : Int), .int .u8 (x1 : Int), .int .u8 (x2 : Int)], .slice a0 len cap, .bool fin] w fun x w' => x = .returned (.bool true) ∧ Below w.heap.size w w' := by
  have HIP := Lib.hid h
  have HPS := Lib.hid hps
  have HPX := Lib.hid hpb
  have h40 : ps.length ≤ 40 := by omega
  have hpl : ps.length ≤ len := by omega
  unfold maxLen at hlen
  clear h hps hpb
  have HSUM := Lib.hid (par_sum x0 x1)
  have HPB : Hid (x2 % 5 ≤ 4) := Lib.hid (by omega)
  have HPA := Lib.hid (fun W => params_any x0 x1 x2 h0 h1 h2 W)
  have hb1 : Below w.heap.size w (w.alloc (.cells #[.int .u8 (x0 : Int), .int .u8 (x1 : Int), .int .u8 (x2 : Int)] 22)) := (Below.refl _ _).alloc (Nat.le_refl _) _
  have hB := heap_alloc_new w (.cells #[.int .u8 (x0 : Int), .int .u8 (x1 : Int), .int .u8 (x2 : Int)] 22)
  have HBX := Lib.hid hB
  have HB1 := Lib.hid hb1
  generalize parL x0 = lc at *
  generalize parP x0 x1 = lp at *
  generalize x2 % 5 = pb at *
  clear h0 h1 h2 hb1 hB
  go_enter Tryz.func3, Tryz.ntmps3
  go_upto_region 1 with (fail)
  generalize w.alloc (.cells #[.int .u8 (x0 : Int), .int .u8 (x1 : Int), .int .u8 (x2 : Int)] 22) = W1 at *
  go_wp2_with fail
  refine (speaks10 W1).mono ?_
  rintro x w2 ⟨rfl, hb2⟩
  have HB2 := Lib.hid (HB1.out.trans (hb2.mono HB1.out.size))
  have hX2 := (hb2.block _ (lt_of_heap HBX.out)).trans HBX.out
  obtain ⟨p0, p1, p2⟩ := Mo.three hX2
  clear hb2 HB1 HBX hX2
  go_wp2_with fail
  refine (HPA.out w2).mono ?_
  rintro x w3 ⟨rfl, hb3⟩
  have hb03 := HB2.out.trans (hb3.mono HB2.out.size)
  have HRUN : Hid (Run w w3 (fun _ => 0)) := Lib.hid ⟨hb03, fun _ _ => rfl⟩
  clear hb3 HB2 p0 p1 p2 HPA hb03
  go_upto_region 4 with (fail)
  have hs1 := Step.alloc_paint w3 (fun _ => 0) 8 (.cells #[.int .i64 (lc : Int), .int .i64 (lp : Int), .int .i64 (pb : Int)] 26)
  have hX := Blk.new w3 (fun _ => 0) 8 (.cells #[.int .i64 (lc : Int), .int .i64 (lp : Int), .int .i64 (pb : Int)] 26)
  have HR1 := Lib.hid (HRUN.out.step hs1 (by simp))
  generalize w3.alloc (.cells #[.int .i64 (lc : Int), .int .i64 (lp : Int), .int .i64 (pb : Int)] 26) = W1 at *
  generalize Step.paint (fun _ => 0) w3 8 = O1 at *
  generalize w3.heap.size = P at *
  have HX := Lib.hid hX
  clear hX hs1
  obtain ⟨p0, p1, p2⟩ := Mo.three HX.out.1
  go_cut [8, 9] from 20 to 28 (fun a b wc => ∃ i d B O', a = .pointer (some ⟨i.mo, 0, none⟩) ∧ b = .pointer (some ⟨d, 0, none⟩) ∧ i.most = 3000 ∧ i.cw = 1 ∧ i.cm = 2 ∧ Run w wc O' ∧ Whole wc O' i (mNew lc lp pb) qNew ∧ DocAt wc O' 6 d B 0 (mNew lc lp pb) qNew)
  case first =>
    as_aux_lemma =>
    have HS : Hid (∀ W' : World, Below W1.heap.size W1 W' → (fun W' => Below W1.heap.size W1 W' ∧ (W'.cell? ⟨P, 0, none⟩ = some (.int .i64 (lc : Int)) ∧ W'.cell? ⟨P, 1, none⟩ = some (.int .i64 (lp : Int)) ∧ W'.cell? ⟨P, 2, none⟩ = some (.int .i64 (pb : Int)))) W') := Lib.hid fun W' hb => ⟨hb, Mo.three ((hb.block P HX.out.lt).trans HX.out.1)⟩
    have HN : Hid (∀ (V : World) (O : Paint), Calls Tryz.prog 9 #[.agg #[.int .i64 (lc : Int), .int .i64 (lp : Int), .int .i64 (pb : Int)], .int .i64 3000] V fun x w' => ∃ i O', x = .returned (.pointer (some ⟨i.mo, 0, none⟩)) ∧ i.cw = 1 ∧ i.cm = 2 ∧ i.most = 3000 ∧ Step [] V O w' O' ∧ Whole w' O' i (mNew lc lp pb) qNew) := Lib.hid fun V O => new_model lc lp pb HSUM.out HPB.out 3000 (by omega) (by omega) V O 1 2 (by decide)
    have HD := Lib.hid (fun V O => dnew_any lc lp pb V O 6)
    go_region_held3 (fun W' => Below W1.heap.size W1 W' ∧ (W'.cell? ⟨P, 0, none⟩ = some (.int .i64 (lc : Int)) ∧ W'.cell? ⟨P, 1, none⟩ = some (.int .i64 (lp : Int)) ∧ W'.cell? ⟨P, 2, none⟩ = some (.int .i64 (pb : Int)))) ((refine HS.out _ ?_; repeat (first | assumption | exact Below.refl _ _ | refine Pk.bel_drew ?_ | refine Pk.bel_alloc _ ?_))) (first | (go_at_call 9; (with_reducible refine (HN.out W1.drew O1).mono ?_); rintro x Va ⟨i, Oa, rfl, ia, ib, ic, hsa, hWa⟩; have hba := (hsa.from_drew).below (Nat.le_refl _) (by simp)) | (go_at_call 10; (with_reducible refine (HD.out _ Oa).mono ?_); rintro x Vb ⟨d, B, Ob, rfl, hsb, hWb⟩; have hbb := ((hsa.from_drew).trans hsb).below (Nat.le_refl _) (by simp)))
    all_goals
      have HRB := Lib.hid ((HR1.out.step hsa.from_drew (by simp)).step hsb (by simp))
      have HWA := Lib.hid (hWa.step hsb (by simp) (by simp))
      have HWB := Lib.hid hWb
      clear hsa hsb hWa hWb hba hbb HN HS p0 p1 p2
      go_wp2_with fail
      go_meet
      exact ⟨i, d, B, Ob, rfl, rfl, ic, ia, ib, HRB.out, HWA.out, HWB.out⟩
  case rest =>
    obtain ⟨i, d, B, O2, rfl, rfl, hi3, hi1, hi2, hR, hW, hD⟩ := hcut
    have HI := Lib.hid (And.intro hi1 hi2)
    have HI3 := Lib.hid hi3
    have HR2 := Lib.hid hR
    have HW2 := Lib.hid hW
    have HD2 := Lib.hid hD
    clear hi1 hi2 hi3 hR hW hD HX HR1 p0 p1 p2 HRUN
    go_wp2_with fail
    refine (new_enc _ O2 5).mono ?_
    rintro x w4 ⟨E, rfl, _, O4, hs4, he4⟩
    have HS4 := Lib.hid hs4
    have HE4 := Lib.hid he4
    clear hs4 he4
    go_wp2_with fail
    refine (Rc.new_any (.slice none 0 0) w4).mono ?_
    rintro x w5 ⟨vf, rfl, hrow, hb5, hmv⟩
    have hev : EncV w5 (Step.paint O4 w4 7) 7 vf Enc.start := ⟨hrow, fine_start, fun k hk => by
      rcases hmv with e | e
      · rw [e] at hk; simp [Value.ownBlock] at hk
      · exact Step.paint_new (e k hk)⟩
    obtain ⟨gf, capf, rfl⟩ := hev.form
    have hs5 := Step.of_below hb5 O4 7
    have HX0 : Hid (∃ X : Pr, X = ⟨mNew lc lp pb, ⟨Enc.start, qNew⟩⟩) := Lib.hid ⟨_, rfl⟩
    obtain ⟨X, hX⟩ := HX0.out
    have hsA := Step.alloc_paint w5 (Step.paint O4 w4 7) 9 (.cells #[.slice (some ⟨gf, 0, none⟩) (Enc.start.turns + 4) capf, .int .u64 (Enc.start.size : Int)] 37)
    have hFb := Blk.new w5 (Step.paint O4 w4 7) 9 (.cells #[.slice (some ⟨gf, 0, none⟩) (Enc.start.turns + 4) capf, .int .u64 (Enc.start.size : Int)] 37)
    have HL0 : Hid (LockP w i E d B 0 w5.heap.size X X (w5.alloc (.cells #[.slice (some ⟨gf, 0, none⟩) (Enc.start.turns + 4) capf, .int .u64 (Enc.start.size : Int)] 37)) (Step.paint (Step.paint O4 w4 7) w5 9)) := Lib.hid (by
      have hs := (HS4.out.trans hs5).trans hsA
      rw [hX]
      exact ⟨HR2.out.step hs (by simp), HI.out, HI3.out, HW2.out.step hs (by simp) (by simp), HE4.out.step (hs5.trans hsA) (by simp), HD2.out.step hs (by simp), ⟨_, hev.step hsA (by simp), hFb⟩, ⟨HSUM.out, HPB.out, by show 0 < 12; omega, ⟨by show (1 : Int) ≤ 1; omega, by show (1 : Int) ≤ 1; omega, by show (1 : Int) ≤ 1; omega, by show (1 : Int) ≤ 1; omega⟩, by show 0 ≤ 3000; omega⟩, fun hn => absurd (show (0 : Nat) < 7 by omega) hn⟩)
    have HT0 : Hid (X.s.e.turns = 0) := Lib.hid (by rw [hX]; rfl)
    have HXE : Hid (X.m.l = []) := Lib.hid (by rw [hX]; rfl)
    clear hX HX0 hrow hb5 hmv hev hs5 hsA hFb HR2 HW2 HE4 HD2 HS4 HSUM HPB
    go_upto_region 6 with (fail)
    generalize w5.alloc (.cells #[.slice (some ⟨gf, 0, none⟩) (Enc.start.turns + 4) capf, .int .u64 (Enc.start.size : Int)] 37) = W6 at *
    generalize Step.paint (Step.paint O4 w4 7) w5 9 = O6 at *
    generalize w5.heap.size = F at *
    go_wp2_with fail
    go_loopw [12] (fun i' wr => ∃ (k : Nat) (x : Pr) (O : Paint), k ≤ ps.length ∧ i' = .int .i64 (k : Int) ∧ x.s.e.turns ≤ 200 * k ∧ LockP w i E d B (100 * k) F x x wr O) (fun i' _ => ps.length - (intOf i').toNat)
    case atStart => exact ⟨0, X, O6, by omega, rfl, by rw [HT0.out]; omega, HL0.out⟩
    case round =>
      clear HL0 HT0 HXE
      obtain ⟨k, x, O, hk, rfl, htu, hL⟩ := hrel
      by_cases hlt : k < ps.length
      · have hl1 : k < len := by omega
        have hl2 : k < 40 := by omega
        have hk0 : (0 : Int) ≤ (k : Int) := by omega
        have hkn : (k : Int).toNat = k := by omega
        have hki : (k : Int) < 40 := by omega
        have hkl : (k : Int) < (len : Int) := by omega
        rcases HIP.out with he | ⟨b0, off, rfl, hc⟩
        · rw [he] at hlt; simp at hlt
        · have hb0 := World.block_lt_of_cell? _ _ (hc k hlt).1
          have HPT := Lib.hid (fun (W : World) (hb : Below w.heap.size w W) => (hc k hlt).below hb)
          have hpb := HPX.out _ (List.getElem_mem hlt)
          have HL := Lib.hid hL
          have HTU := Lib.hid htu
          clear hc hL htu HIP HPX
          generalize ps[k] = p at *
          obtain ⟨c0, c1, c2, c3, _⟩ := HPT.out wr HL.out.run.below
          go_upto_region 10 with (fail)
          have hs5 := Step.alloc_paint wr O 8 (.cells #[.int .i64 p.k, .int .i64 p.d, .int .i64 p.n, .int .u8 (p.b : Int)] 40)
          have HB5 := Lib.hid (Blk.new wr O 8 (.cells #[.int .i64 p.k, .int .i64 p.d, .int .i64 p.n, .int .u8 (p.b : Int)] 40))
          have HL5 := Lib.hid (HL.out.idle hs5)
          clear hs5 HL c0 c1 c2 c3
          generalize wr.alloc (.cells #[.int .i64 p.k, .int .i64 p.d, .int .i64 p.n, .int .u8 (p.b : Int)] 40) = W7 at *
          generalize wr.heap.size = Z at *
          generalize Step.paint O wr 8 = O7 at *
          go_cut [14, 15] from 41 to 52 (fun a b wc => a = .int .i64 1 ∧ b = .bool (decide (p.d = 0 ∧ p.n = 0)) ∧ ∃ n, wc = W7.drewN n)
          case first =>
            as_aux_lemma =>
            obtain ⟨⟨d0, d1, d2, d3⟩, _, _⟩ := four HB5.out.1
            by_cases hz : p.d = 0
            · have hq1 : decide (p.d = 0) = true := decide_eq_true hz
              by_cases hz2 : p.n = 0
              · have hq2 : decide (p.n = 0) = true := decide_eq_true hz2
                go_quiet (fail)
                go_wp2_with fail
                go_meet
                exact ⟨rfl, by simp [hz, hz2], _, rfl⟩
              · have hq2 : decide (p.n = 0) = false := decide_eq_false hz2
                go_quiet (fail)
                go_wp2_with fail
                go_meet
                exact ⟨rfl, by simp [hz, hz2], _, rfl⟩
            · have hq1 : decide (p.d = 0) = false := decide_eq_false hz
              go_quiet (fail)
              go_wp2_with fail
              go_meet
              exact ⟨rfl, by simp [hz], _, rfl⟩
          case rest =>
            obtain ⟨rfl, rfl, nn, rfl⟩ := hcut
            have HL6 := Lib.hid (HL5.out.idle ((Step.refl [] W7 O7).drewN nn))
            have HB6 := Lib.hid (HB5.out.step ((Step.refl [] W7 O7).drewN nn) (by simp))
            clear HL5 HB5
            generalize W7.drewN nn = W8 at *
            obtain ⟨⟨d0, d1, d2, d3⟩, _, _⟩ := four HB6.out.1
            go_upto_if 55 with (fail)
            go_cut [14, 15] from 41 to 71 (fun a b wc => ∃ (sz : Int) (okb : Bool) (O9 : Paint), a = .int .i64 sz ∧ b = .bool okb ∧ LockP w i E d B (100 * k) F x x wc O9 ∧ Blk wc O9 8 Z (.cells #[.int .i64 p.k, .int .i64 p.d, .int .i64 p.n, .int .u8 (p.b : Int)] 40 (0, 0)) ∧ (fitM 3000 x.m p).isSome = (okb && decide (sz ≤ 3000 - (x.m.l.length : Int))))
            case first =>
              as_aux_lemma =>
              by_cases hk1 : p.k = 1
              · have hq : (p.k == 1) = true := by simpa using hk1
                have HFK := Lib.hid (fit_kind1 hk1 x.m)
                clear HPT hpb
                go_wp2_with fail
                go_meet
                exact ⟨1, _, O7, rfl, rfl, HL6.out, HB6.out, by first | exact HFK.out | (rw [← Bool.decide_and]; exact HFK.out)⟩
              · have HZK := Lib.hid HL6.out.doc
                obtain ⟨c0, c1, c2, c3, c4, c5, c6, c7, c8, c9⟩ := ten HL6.out.doc.blk.1
                have HBK := Lib.hid (fun W => Pk.back_fit p (x.m.l.length : Int) x.m.r W hk1)
                obtain ⟨tx, htx⟩ : ∃ tx : ByteArray, tx = ⟨x.m.l.toArray⟩ := ⟨_, rfl⟩
                rw [← htx] at c9
                have htz : (tx.size : Int) = (x.m.l.length : Int) := by rw [htx]; rfl
                rw [← htz] at HBK
                have HTX := Lib.hid htx
                have HTZ := Lib.hid htz
                clear htx htz
                have HS : Hid (∀ W', Below W8.heap.size W8 W' → Below W8.heap.size W8 W' ∧ ((W'.cell? ⟨Z, 0, none⟩ = some (.int .i64 p.k) ∧ W'.cell? ⟨Z, 1, none⟩ = some (.int .i64 p.d) ∧ W'.cell? ⟨Z, 2, none⟩ = some (.int .i64 p.n) ∧ W'.cell? ⟨Z, 3, none⟩ = some (.int .u8 (p.b : Int))) ∧ (W'.cell? ⟨d, 5, none⟩ = some (.int .i64 x.m.r.a) ∧ W'.cell? ⟨d, 6, none⟩ = some (.int .i64 x.m.r.b) ∧ W'.cell? ⟨d, 7, none⟩ = some (.int .i64 x.m.r.c) ∧ W'.cell? ⟨d, 8, none⟩ = some (.int .i64 x.m.r.d) ∧ W'.cell? ⟨d, 9, none⟩ = some (.string tx)))) := Lib.hid (fun W' hW => by
                  have hs := Step.of_below_same hW O7
                  have h1 := HB6.out.step hs (by simp)
                  have h2 := HL6.out.idle hs
                  obtain ⟨c0, c1, c2, c3, c4, c5, c6, c7, c8, c9⟩ := ten h2.doc.blk.1
                  rw [← HTX.out] at c9
                  exact ⟨hW, (four h1.1).1, c5, c6, c7, c8, c9⟩)
                have hq : (p.k == 1) = false := by simpa using hk1
                clear HPT hpb HZK
                go_upto_region 12 with (fail)
                go_region_held3 (fun W' => Below W8.heap.size W8 W' ∧ ((W'.cell? ⟨Z, 0, none⟩ = some (.int .i64 p.k) ∧ W'.cell? ⟨Z, 1, none⟩ = some (.int .i64 p.d) ∧ W'.cell? ⟨Z, 2, none⟩ = some (.int .i64 p.n) ∧ W'.cell? ⟨Z, 3, none⟩ = some (.int .u8 (p.b : Int))) ∧ (W'.cell? ⟨d, 5, none⟩ = some (.int .i64 x.m.r.a) ∧ W'.cell? ⟨d, 6, none⟩ = some (.int .i64 x.m.r.b) ∧ W'.cell? ⟨d, 7, none⟩ = some (.int .i64 x.m.r.c) ∧ W'.cell? ⟨d, 8, none⟩ = some (.int .i64 x.m.r.d) ∧ W'.cell? ⟨d, 9, none⟩ = some (.string tx)))) ((refine HS.out _ ?_; repeat (first | assumption | exact Below.refl _ _ | refine Pk.bel_drew ?_ | refine Pk.bel_alloc _ ?_ | (refine Pk.bel_new (by assumption) ?_)))) (first | (go_at_call 13; (with_reducible refine (HBK.out _).mono ?_); rintro z w6 ⟨dd, nn1, s1, ⟨rfl, hb6⟩, hy6⟩))
                have hbA := Pk.bel_new hb6 (Pk.bel_drew (Below.refl W8.heap.size W8))
                have hsA := Step.of_below_same hbA O7
                have HL9 := Lib.hid (HL6.out.idle hsA)
                have HB9 := Lib.hid (HB6.out.step hsA (by simp))
                have HFB : Hid ((fitM 3000 x.m p).isSome = ((p.fit (x.m.l.length : Int) x.m.r).isSome && decide (nn1 ≤ 3000 - (x.m.l.length : Int)))) := Lib.hid (fit_back (fun y hy => hy6 y (by rw [HTZ.out]; exact hy)))
                rw [HTZ.out]
                clear hbA hsA hb6 hy6 HS HBK
                go_wp2_with fail
                go_meet
                exact ⟨nn1, _, O7, rfl, rfl, HL9.out, HB9.out, HFB.out⟩
            case rest =>
              clear d0 d1 d2 d3 HL6 HB6
              obtain ⟨sz, okb, O9, rfl, rfl, hL9, hB9, hft⟩ := hcut
              have HL9 := Lib.hid hL9
              have HB9 := Lib.hid hB9
              have HFT := Lib.hid hft
              clear hL9 hB9 hft
              obtain ⟨W9, hWe⟩ : ∃ W', W' = wc := ⟨_, rfl⟩
              rw [← hWe] at HL9 HB9 ⊢
              clear hWe
              go_upto_region 13 with (fail)
              go_cut [15] from 72 to 82 (fun b wc => b = .bool (fitM 3000 x.m p).isSome ∧ wc = W9)
              case first =>
                as_aux_lemma =>
                obtain ⟨c0, c1, c2, c3, c4, c5, c6, c7, c8, c9⟩ := ten HL9.out.doc.blk.1
                obtain ⟨tx, htx⟩ : ∃ tx : ByteArray, tx = ⟨x.m.l.toArray⟩ := ⟨_, rfl⟩
                rw [← htx] at c9
                have htz : (tx.size : Int) = (x.m.l.length : Int) := by rw [htx]; rfl
                have hl3 := HL9.out.ok.2.2.2.2
                have hw : IntKind.i64.wrap (3000 - (tx.size : Int)) = 3000 - (x.m.l.length : Int) := by rw [IntKind.wrap_i64]; omega
                clear htz htx hl3 HPT hpb
                cases okb with
                | false =>
                  go_wp2_with fail
                  go_meet
                  exact ⟨by rw [HFT.out]; rfl, rfl⟩
                | true =>
                  by_cases hle : sz ≤ 3000 - (x.m.l.length : Int)
                  · have hd : decide (sz ≤ 3000 - (x.m.l.length : Int)) = true := decide_eq_true hle
                    have HFV : Hid ((fitM 3000 x.m p).isSome = true) := Lib.hid (by rw [HFT.out, hd]; rfl)
                    go_wp2_with fail
                    go_meet
                    exact ⟨by rw [HFV.out], rfl⟩
                  · have hd : decide (sz ≤ 3000 - (x.m.l.length : Int)) = false := decide_eq_false hle
                    have HFV : Hid ((fitM 3000 x.m p).isSome = false) := Lib.hid (by rw [HFT.out, hd]; rfl)
                    go_wp2_with fail
                    go_meet
                    exact ⟨by rw [HFV.out], rfl⟩
              case rest =>
                obtain ⟨rfl, rfl⟩ := hcut
                obtain ⟨c0, c1, c2, c3, _⟩ := HPT.out _ HL9.out.run.below
                have HPUT := Lib.hid (HL9.out.put (by have := HTU.out; omega) p hpb)
                unfold Pk.Pt.val at HPUT
                clear HPT HFT
                go_upto_region 14 with (fail)
                go_wp2_with fail
                refine HPUT.out.mono ?_
                rintro r w10 ⟨rfl, O10, hs10, hL10⟩
                have HL10 := Lib.hid hL10
                have HB10 := Lib.hid (HB9.out.step hs10 (by simp))
                clear hs10 hL10 HL9 HB9 HPUT c0 c1 c2 c3
                cases hf : fitM 3000 x.m p with
                | none =>
                  as_aux_lemma =>
                  have HL11 : Hid (LockP w i E d B (100 * (k + 1)) F x x w10 O10) := Lib.hid (by have := HL10.out; rw [Pr.put_no hf] at this; exact this.grow (by omega))
                  clear HL10 HB10 hf
                  go_wp2_with fail
                  go_roundw
                  case rel => exact ⟨k + 1, x, O10, by omega, by go_num, by have := HTU.out; omega, HL11.out⟩
                  case measure => simp [intOf]; omega
                | some y =>
                  as_aux_lemma =>
                  have HPT' := Lib.hid (put_turns' (x := x) hpb)
                  obtain ⟨vv, hvv, hFF⟩ := HL10.out.var
                  obtain ⟨g9, cap9, rfl⟩ := hvv.form
                  obtain ⟨a0, a1, f0, f1, _⟩ := two hFF.1
                  obtain ⟨⟨d0, d1, d2, d3⟩, _, _⟩ := four HB10.out.1
                  have HDP := Lib.hid (HL10.out.dput (by have := HTU.out; omega) (by omega) p hpb hf a0)
                  clear hvv hFF HL10 HB10 hf
                  go_wp2_with fail
                  refine HDP.out.mono ?_
                  rintro r w11 ⟨g, cap, O11, rfl, ⟨v9, u9, b0', b1'⟩, ⟨e0, e1⟩, hL11⟩
                  have HL11 : Hid (LockP w i E d B (100 * (k + 1)) F (x.put 3000 p) (x.put 3000 p) _ O11) := Lib.hid (hL11.grow (by omega))
                  clear hL11 HDP a0 a1 f0 f1 d0 d1 d2 d3
                  generalize x.put 3000 p = x' at *
                  go_wp2_with fail
                  go_roundw
                  case rel => exact ⟨k + 1, x', O11, by omega, by go_num, by have := HTU.out; have := HPT'.out; omega, HL11.out⟩
                  case measure => simp [intOf]; omega
      · obtain rfl : k = ps.length := by omega
        have HL := Lib.hid hL
        have HTU := Lib.hid htu
        have hcond : (ps.length : Int) < (len : Int) → ¬ (ps.length : Int) < 40 := by have := HPS.out; omega
        have hdd : ¬ ((ps.length : Int) < (len : Int)) ∨ ((ps.length : Int) < (len : Int) ∧ ¬ ((ps.length : Int) < 40)) := by
          by_cases hx : (ps.length : Int) < (len : Int)
          · exact .inr ⟨hx, hcond hx⟩
          · exact .inl hx
        clear hL htu HIP HPX hcond HPS
        generalize ps.length = K at *
        rcases hdd with hdd | ⟨hdd, hdd2⟩
        all_goals
          go_upto_if 97 with (fail)
          go_cut [] from 98 to 103 (fun wc => ∃ (y : Pr) (O' : Paint), LockP w i E d B (100 * K + 52) F y y wc O' ∧ y.s.e.turns ≤ 8200)
          case first =>
            as_aux_lemma =>
            clear hdd
            cases fin with
            | false =>
              have HL2 := Lib.hid (HL.out.grow (show 100 * K ≤ 100 * K + 52 by omega))
              go_wp2_with fail
              go_meet
              exact ⟨x, O, HL2.out, by have := HTU.out; omega⟩
            | true =>
              have HFI := Lib.hid (HL.out.fin (by have := HTU.out; omega))
              have HT2 := Lib.hid (Es.code_turns x.s x.m pend_ok)
              go_wp2_with fail
              refine HFI.out.mono ?_
              rintro r w10 ⟨rfl, O10, hL10⟩
              have HL10 := Lib.hid hL10
              clear hL10 HL HFI
              obtain ⟨vv, hvv, hFF⟩ := HL10.out.var
              obtain ⟨g9, cap9, rfl⟩ := hvv.form
              obtain ⟨a0, a1, f0, f1, _⟩ := two hFF.1
              have HDP := Lib.hid (HL10.out.dend (by have := HTU.out; omega) (by omega) a0)
              clear hvv hFF HL10
              go_wp2_with fail
              refine HDP.out.mono ?_
              rintro r w11 ⟨g, cap, O11, rfl, ⟨v9, u9, b0', b1'⟩, ⟨e0, e1⟩, hL11⟩
              have HL11 := Lib.hid hL11
              clear hL11 HDP a0 a1 f0 f1
              have HTY : Hid ((x.s.code x.m pend).e.turns ≤ 8200) := Lib.hid (by have := HTU.out; have := HT2.out; omega)
              generalize hy : (⟨x.m, x.s.code x.m pend⟩ : Pr) = y at *
              have HY := Lib.hid hy
              clear hy
              go_wp2_with fail
              go_meet
              exact ⟨y, O11, HL11.out, by rw [← HY.out]; exact HTY.out⟩
          case rest =>
            obtain ⟨y, O12, hL12, ht12⟩ := hcut
            have HL12 := Lib.hid hL12
            have HT12 := Lib.hid ht12
            clear hL12 ht12 HL HTU
            obtain ⟨W12, hWe⟩ : ∃ W', W' = wc := ⟨_, rfl⟩
            rw [← hWe] at HL12 ⊢
            clear hWe
            obtain ⟨vv, hvv, hFF⟩ := HL12.out.var
            obtain ⟨g9, cap9, rfl⟩ := hvv.form
            have HVV := Lib.hid hvv
            have HFF := Lib.hid hFF
            clear hvv hFF
            obtain ⟨tx, htx⟩ : ∃ tx : ByteArray, tx = ⟨y.m.l.toArray⟩ := ⟨_, rfl⟩
            have htz : (tx.size : Int) = (y.m.l.length : Int) := by rw [htx]; rfl
            have HTX := Lib.hid htx
            have HS : Hid (∀ W', Below W12.heap.size W12 W' → Below W12.heap.size W12 W' ∧ ((W'.cell? ⟨F, 0, none⟩ = some (.slice (some ⟨g9, 0, none⟩) (y.s.e.turns + 4) cap9) ∧ W'.cell? ⟨F, 1, none⟩ = some (.int .u64 (y.s.e.size : Int))) ∧ W'.cell? ⟨d, 9, none⟩ = some (.string tx))) := Lib.hid (fun W' hW => by
              have hs := Step.of_below_same hW O12
              have h1 := HFF.out.step hs (by simp)
              have h2 := HL12.out.idle hs
              obtain ⟨a0, a1, _⟩ := two h1.1
              have c9 := (ten h2.doc.blk.1).2.2.2.2.2.2.2.2.2
              rw [← HTX.out] at c9
              exact ⟨hW, ⟨a0, a1⟩, c9⟩)
            have HTXT : Hid (∀ W', Below W12.heap.size W12 W' → Calls Tryz.prog 18 #[.pointer (some ⟨i.mo, 0, none⟩)] W' fun r w' => r = .returned (.string tx) ∧ W' = w') := Lib.hid (fun W' hW => by rw [HTX.out]; exact model_text (HL12.out.news hW).one)
            have HLEN : Hid (∀ W', Below W12.heap.size W12 W' → Calls Tryz.prog 19 #[.pointer (some ⟨i.mo, 0, none⟩)] W' fun r w' => r = .returned (.int .i64 (tx.size : Int)) ∧ W' = w') := Lib.hid (fun W' hW => by rw [htz]; exact model_len (HL12.out.news hW).one)
            have HEE := Lib.hid (fun W' (hW : Below W12.heap.size W12 W') => enc_end (HL12.out.news hW).enc (by have := HT12.out; omega))
            have HRE := Lib.hid (fun W' (hW : Below W12.heap.size W12 W') => Rc.end_any (HVV.out.step (Step.of_below_same hW O12) (by simp)).row (by have := HT12.out; omega) y.s.e.size)
            obtain ⟨hb0, ⟨a0, a1⟩, c9⟩ := HS.out W12 (Below.refl _ _)
            have HBR := Lib.hid HL12.out.run.below
            clear htx htz hb0
            generalize y.s.e.bytes = BY at *
            go_upto_region 21 with (fail)
            go_region_held3 (fun W' => Below W12.heap.size W12 W' ∧ ((W'.cell? ⟨F, 0, none⟩ = some (.slice (some ⟨g9, 0, none⟩) (y.s.e.turns + 4) cap9) ∧ W'.cell? ⟨F, 1, none⟩ = some (.int .u64 (y.s.e.size : Int))) ∧ W'.cell? ⟨d, 9, none⟩ = some (.string tx))) ((refine HS.out _ ?_; repeat (first | assumption | exact Below.refl _ _ | refine Pk.bel_drew ?_ | refine Pk.bel_alloc _ ?_ | (refine Pk.bel_new (by assumption) ?_)))) (first | (go_at_call 18; (with_reducible refine (HTXT.out _ (by repeat (first | assumption | exact Below.refl _ _ | refine Pk.bel_drew ?_ | (refine Pk.bel_new (by assumption) ?_)))).mono ?_); rintro z v1 ⟨rfl, rfl⟩) | (go_at_call 19; (with_reducible refine (HLEN.out _ (by repeat (first | assumption | exact Below.refl _ _ | refine Pk.bel_drew ?_ | (refine Pk.bel_new (by assumption) ?_)))).mono ?_); rintro z v2 ⟨rfl, rfl⟩) | (go_at_call 20; (with_reducible refine (HEE.out _ (by repeat (first | assumption | exact Below.refl _ _ | refine Pk.bel_drew ?_ | (refine Pk.bel_new (by assumption) ?_)))).mono ?_); rintro z v3 ⟨rfl, hb13⟩) | (go_at_call 21; (with_reducible refine (HRE.out _ (by repeat (first | assumption | exact Below.refl _ _ | refine Pk.bel_drew ?_ | (refine Pk.bel_new (by assumption) ?_)))).mono ?_); rintro z v4 ⟨rfl, hb14⟩))
            have HBF := Lib.hid (HBR.out.trans ((Pk.bel_new hb14 (Pk.bel_new hb13 (Pk.bel_drew (Below.refl W12.heap.size W12)))).mono HBR.out.size))
            clear hb13 hb14 HS HTXT HLEN HEE HRE a0 a1 c9 HBR
            go_wp2_with fail
            go_ret
            exact ⟨rfl, HBF.out⟩
end Go.Proofs.YtollngjnoccmfaaGreat.Dc
